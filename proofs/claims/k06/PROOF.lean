import PyProof.Rows.All
import Wide.All
import OpenK.AllK
import Wide.FinOn
import HandS.ForMost
import HandS.Wide
import HandS.EndBits
import HandS.IsInst
import HandS.Style
import HandS.Defaults
import PyProof.ReprRoads
import HandS.ExcInit
import HandS.ClsMeth
import KE.KExcIs
import HandS.Walk
import HandS.StrMore
import HandS.Replace
import PyProof.Rows.StrFit
import HandS.ExcField
import HandS.TryMany
import HandS.WordsExc
import HandS.MakeKwOnly
import PySem.Challenge.RW_drowsetree_k06_devices_refused
set_option Elab.async false
set_option linter.all false
set_option maxRecDepth 100000
set_option maxHeartbeats 2000000
/-! Calls where nothing is being shown by repr: every def's promise under that. -/
namespace Dz
open PySem PySem.Spec PyProof.Rows L2

/-- no repr is under way -/
def Calm (A : Around) : Prop := A.guards = some []

structure FnG (P : Program) (w : World) (K : PySem.W.Frag) (mg : Str → Option Value) (base : Heap) (CX : CXT) (k : Nat) (f : Addr) (fd : FuncData) (ps : List Str) (sp : Sp) : Prop where
  ln : ∀ vs H Q E, sp vs H Q E → vs.length = ps.length
  go : ∀ (A : Around) (out : List Env) (s : Shared) (H : Hp) (ar : Args) (us : List Value) (vs : List V) (Q : VK) (E : XK),
    Calm A → Room k A → Env0 P w K mg base A out s H → BindsTo s fd ar (ps.zip us) → Vals vs us → sp vs H Q E →
      codeAny (model P w) A (.call (.ref f) ar) (CR CX out P w H s Q E) s
theorem FnG.more {P : Program} {w : World} {K : PySem.W.Frag} {mg : Str → Option Value} {base : Heap} {CX : CXT} {j k : Nat} {f : Addr} {fd : FuncData} {ps : List Str} {sp : Sp}
    (F : FnG P w K mg base CX j f fd ps sp) (h : j ≤ k) : FnG P w K mg base CX k f fd ps sp :=
  ⟨F.ln, fun A out s H ar us vs Q E g r => F.go A out s H ar us vs Q E g (r.mono h)⟩
theorem FnG.as {P : Program} {w : World} {K : PySem.W.Frag} {mg : Str → Option Value} {base : Heap} {CX : CXT} {k : Nat} {f : Addr} {fd : FuncData} {ps : List Str} {sp sp' : Sp}
    (F : FnG P w K mg base CX k f fd ps sp) (h : ∀ vs H Q E, sp' vs H Q E → sp vs H Q E) : FnG P w K mg base CX k f fd ps sp' :=
  ⟨fun vs H Q E q => F.ln vs H Q E (h _ _ _ _ q), fun A out s H ar us vs Q E g r e b v q => F.go A out s H ar us vs Q E g r e b v (h _ _ _ _ q)⟩

/-- a def that stands in the written part, by its body's walk where no repr is under way -/
theorem fnG_at {CX : CXT} {P : Program} {w : World} {K : PySem.W.Frag} {mg : Str → Option Value} {base : Heap} {k : Nat} {f : Addr} {x qual : Str} {params : Arguments} {body : List Stmt} {sc : Scope} {dV kV doc pm cdv ct oc : Value} {an od : Option Addr}
    {osl : Array (Option Value)} {N ps : List Str} {sp : Sp} (lk : K.lookup f = some ⟨oc, od, .func (PySem.W.fnOf x qual params body sc dV kV doc pm an cdv ct), osl⟩) (hcd : PySem.W.codeIn K cdv qual = true) (S : FnScope N ps sc)
    (len : ∀ vs H Q E, sp vs H Q E → vs.length = ps.length)
    (walk : ∀ (A : Around) (outer : List Env) (s : Shared) (H : Hp) (vs : List V) (Q : VK) (E : XK), Calm A → Room k (A.deeper (envOfC qual sc s.heap.objs.size f cdv)) → sp vs H Q E →
      ∃ t, PSs (cxOf CX P w K mg base N qual sc f cdv A outer s H E) body t ∧ t { nx := fun _ H' => Q .non H', rt := Q } (start N vs) H) :
    FnG P w K mg base CX (k + 1) f (PySem.W.fnOf x qual params body sc dV kV doc pm an cdv ct) ps sp := by
  constructor
  · exact len
  intro A outer s H ar us vs Q E hg hr e0 hb rv hsp
  have ll := len _ _ _ _ hsp
  have inK : K.In s.heap := e0.mod.kin.keeps fun b o z => (e0.bs b o z).1
  have nolim : s.heap.NoLimit := e0.mod.nolimit.keeps fun b o z => (e0.bs b o z).1
  have kinds : ∀ y ∈ ps.zip us, sc.names.lookup y.1 = some .local ∨ (sc.names.lookup y.1 = some .cell ∧ ((cellsFrom (s.heap.objs.size + 1) sc.names []).lookup y.1).isSome = true) := by
    rintro ⟨n, v⟩ hy
    have hn := (List.of_mem_zip hy).1
    cases S.par n hn with
    | inl q => exact Or.inl q
    | inr q => exact Or.inr ⟨q, PySem.W.cellsFrom_some _ _ _ (Or.inl q)⟩
  refine codeAny_call_function hr.depth (inK _ _ lk) rfl S.co S.gen rfl (PySem.W.codeRec_of inK hcd) (hb _ _ _ _ ?_)
  refine wpAny_newFunctionEnv_cells S.kind kinds fun env he s1 xx => ?_
  subst he
  refine ⟨nolim.keeps xx.toInCall.keep, codeAny_func ?_⟩
  obtain ⟨t, ht, hq⟩ := walk A outer s H vs Q E hg (hr.deeper _) hsp
  have I0 := inv_start (CX := CX) (N := N) (E := E) (cd := cdv) (qual := qual) (f := f) S hr.hd e0 ll rv xx
  refine wpAny_mono (ht.run [] s1 (start N vs) H _ I0 hq) (fun fl s' hs => ?_) fun e s' hs => hs
  cases fl with
  | brk => exact hs.elim fun _ z => z.elim fun _ z => False.elim z.2
  | cont => exact hs.elim fun _ z => z.elim fun _ z => False.elim z.2
  | next =>
    obtain ⟨σ', H', J, q⟩ := hs
    exact ⟨V.non, H', J.os, J.bare, J.base, J.hok, rfl, q⟩
  | ret u =>
    obtain ⟨v, σ', H', J, r', q⟩ := hs
    exact ⟨v, H', J.os, J.bare, J.base, J.hok, r', q⟩
/-- a def of the text -/
theorem fnG_of {CX : CXT} {P : Program} {w : World} {K : PySem.W.Frag} {mg : Str → Option Value} {base : Heap} {x qual : Str} {st : Stmt} {f : Addr} {fd : FuncData} {N ps : List Str} {k : Nat} {sp : Sp}
    (F : Fun K x qual st f fd) (S : FnScope N ps (defScope st)) (len : ∀ vs H Q E, sp vs H Q E → vs.length = ps.length)
    (walk : ∀ (cdv : Value) (A : Around) (outer : List Env) (s : Shared) (H : Hp) (vs : List V) (Q : VK) (E : XK), Calm A → Room k (A.deeper (envOfC qual (defScope st) s.heap.objs.size f cdv)) → sp vs H Q E →
      ∃ t, PSs (cxOf CX P w K mg base N qual (defScope st) f cdv A outer s H E) (defBody st) t ∧ t { nx := fun _ H' => Q .non H', rt := Q } (start N vs) H) :
    FnG P w K mg base CX (k + 1) f fd ps sp := by
  obtain ⟨oc, od, kV, doc, pm, an, cdv, ct, osl, rfl, lk, hcd⟩ := F.ex
  exact fnG_at lk hcd S len fun A outer s H vs Q E hg hr hsp => walk cdv A outer s H vs Q E hg hr hsp

/-- the same where nothing is raised -/
theorem fnG_nx {P : Program} {w : World} {K : PySem.W.Frag} {mg : Str → Option Value} {base : Heap} {x qual : Str} {st : Stmt} {f : Addr} {fd : FuncData} {N ps : List Str} {k : Nat} {sp : Sp}
    (F : Fun K x qual st f fd) (S : FnScope N ps (defScope st)) (len : ∀ vs H Q E, sp vs H Q E → vs.length = ps.length)
    (walk : ∀ (cdv : Value) (A : Around) (outer : List Env) (s : Shared) (H : Hp) (vs : List V) (Q : VK) (E : XK), Calm A → Room k (A.deeper (envOfC qual (defScope st) s.heap.objs.size f cdv)) → sp vs H Q E →
      ∃ t, PSs (cxOf CX0 P w K mg base N qual (defScope st) f cdv A outer s H E).nox (defBody st) t ∧ t { nx := fun _ H' => Q .non H', rt := Q } (start N vs) H) :
    FnG P w K mg base CX0 (k + 1) f fd ps sp := fnG_of F S len fun cdv A outer s H vs Q E hg hr hsp => by
  obtain ⟨t, h, q⟩ := walk cdv A outer s H vs Q E hg hr hsp
  exact ⟨t, h.nox, q⟩

section
variable {X : Cx} {CX : CXT} {k : Nat} {f C : Addr} {fd : FuncData} {ps : List Str} {sp : Sp} {dvs : List V} {ds : List Value} {E : XK} {x m : Str} {p pos apos : Pos} {e o : Expr} {es : List Expr} {ta : TE} {t : TA}
  {r : List V → Hp → VK → Prop}

/-- a def as a value that is called -/
theorem callR_fn (F : FnG X.prog X.w X.K X.mg X.base CX k f fd ps sp) (hg : Calm X.A) (hr : Room k X.A) (hb : Binds X.K fd ps ds) (hd : Vals dvs ds) (hx : Passes CX X E) :
    CallR X (.ref f) (fun vs H Q => sp (vs ++ dvs) H Q E) := by
  intro pins s σ H vs us Q I rv h
  have r2 : Vals (vs ++ dvs) (us ++ ds) := rv.append hd
  have hl : (us ++ ds).length = ps.length := r2.length.symm.trans (F.ln _ _ _ _ h)
  refine wpAny_call (codeAny_mono (F.go X.A X.stack s H ⟨us, []⟩ (us ++ ds) (vs ++ dvs) Q E hg hr I.env0 (hb s us I.kIn hl) r2 h) ?_)
  intro rs s' hq
  match rs, hq with
  | .error e, hq => exact hx pins σ H s e s' I hq
  | .ok (.ret u), hq => exact I.after hq
/-- f(e, ..) of a name of the module, whatever stands there -/
theorem pe_fn (hc : CallR X (.ref f) r) (hl : Gl X x) (hm : X.mg x = some (.ref f)) (hk : PySem.W.keepIn X.K (.ref f) = true) (ha : PA X (e :: es) t) (hdb : (x == ("__debug__" : Str)) = false := by decide)
    (he : starEach (e :: es) X.env = (false, eval e X.env) :: starEach es X.env := by rfl) (hpl : (backTo pos (starEach es X.env)).any (·.1) = false := by rfl) : PE X (.Call (.Name x p) (e :: es) [] pos) (tCB r t) := by
  constructor
  intro pins s σ H Q I h
  refine wpAny_Call_Name_kw (ld_glob I hl hm ?_ hdb)
  refine PySem.W.callWith_K (h₀ := X.base) I.ok.mod.kin hk (thn (ha.run pos pins s σ H _ I h) ?_) he hpl
  rintro us s1 ⟨vs, H1, I1, rv, q⟩
  exact ⟨I1.kIn, hc pins s1 σ H1 vs us Q I1 rv q⟩
theorem pe_fn0 (hc : CallR X (.ref f) r) (hl : Gl X x) (hm : X.mg x = some (.ref f)) (hk : PySem.W.keepIn X.K (.ref f) = true) (hdb : (x == ("__debug__" : Str)) = false := by decide) : PE X (.Call (.Name x p) [] [] pos) (tCB r tNil) := by
  constructor
  intro pins s σ H Q I h
  refine wpAny_Call_Name_kw (ld_glob I hl hm ?_ hdb)
  exact PySem.W.callWith_K0 I.kIn hk (hc pins s σ H [] [] Q I .nil h)
/-- o.m(e, ..), o an instance of the class at C -/
def tMth (C : Addr) (m : Str) (r : List V → Hp → VK → Prop) (ta : TE) (t : TA) : TE := fun σ H Q => ta σ H fun x H1 => ∃ a dx fs, x = .ref a ∧ H1 a = some (.ins C dx fs) ∧ fs.lookup m = none ∧ t σ H1 fun vs H2 => r (x :: vs) H2 Q
theorem pe_mth {pl : Sem Bool} (he : PE X o ta) (c : Cls X.K C) (hm : Meth X.K C m f) (hc : CallR X (.ref f) r) (ha : PA X (e :: es) t)
    (hst : starEach (e :: es) X.env = (false, eval e X.env) :: starEach es X.env := by rfl) (hpl : (backTo pos (starEach es X.env)).any (·.1) = false := by rfl)
    (ht : eval (.Call (.Attribute o m apos) (e :: es) [] pos) X.env = (do
      let ov ← eval o X.env
      standAt apos.atName
      let (f, first) ← holding [ov] (getMethod ov m pl)
      callWith pos f first (backTo pos (starEach (e :: es) X.env)) (backToKw pos (keywordEach [] X.env))) := by rfl) :
    PE X (.Call (.Attribute o m apos) (e :: es) [] pos) (tMth C m r ta t) := by
  constructor
  intro pins s σ H Q I h
  refine PySem.W.methodCall_KW (pl := pl) (thn (he.run pins s σ H _ I h) ?_) ht
  rintro u s1 ⟨y, H1, I1, ry, a, dx, fs, rfl, ea, l, q⟩
  cases (show u = Value.ref a from ry)
  refine getmeth_ok I1 ea c hm l ?_
  refine PySem.W.callWith_K (first := [.ref a]) (h₀ := X.base) I.ok.mod.kin hm.kp (thn (ha.run pos pins s1 σ H1 _ I1 q) ?_) hst hpl
  rintro us s2 ⟨vs, H2, I2, rv, q2⟩
  exact ⟨I2.kIn, hc pins s2 σ H2 (.ref a :: vs) (.ref a :: us) Q I2 (.cons rfl rv) q2⟩
theorem pe_mth0 {pl : Sem Bool} (he : PE X o ta) (c : Cls X.K C) (hm : Meth X.K C m f) (hc : CallR X (.ref f) r)
    (ht : eval (.Call (.Attribute o m apos) [] [] pos) X.env = (do
      let ov ← eval o X.env
      standAt apos.atName
      let (f, first) ← holding [ov] (getMethod ov m pl)
      callWith pos f first (backTo pos (starEach [] X.env)) (backToKw pos (keywordEach [] X.env))) := by rfl) :
    PE X (.Call (.Attribute o m apos) [] [] pos) (tMth C m r ta tNil) := by
  constructor
  intro pins s σ H Q I h
  refine PySem.W.methodCall_KW (pl := pl) (thn (he.run pins s σ H _ I h) ?_) ht
  rintro u s1 ⟨y, H1, I1, ry, a, dx, fs, rfl, ea, l, q⟩
  cases (show u = Value.ref a from ry)
  refine getmeth_ok I1 ea c hm l ?_
  exact PySem.W.callWith_K0 (first := [.ref a]) I1.kIn hm.kp (hc pins s1 σ H1 [.ref a] [.ref a] Q I1 (.cons rfl .nil) q)
end

/-! ### the law's call -/
theorem enterG {P : Program} {w : World} {K : PySem.W.Frag} {mg mb : Str → Option Value} {CX : CXT} {k : Nat} {fa a : Addr} {fd : FuncData} {x : Str} {sp : Sp} {s₁ : Shared} {vs : List Value} {ns : List Int}
    (KX : K.In s₁.heap) (hns : s₁.heap.Ns mainGlobals mg) (hb : s₁.heap.Ns builtinsNs mb) (hbb : ∀ x : Str, x ≠ "__name__" → mb x = bootBuiltins x) (hlim : s₁.heap.NoLimit) (hgen : s₁.gens = #[])
    (ha : s₁.heap.get? a = some { cls := .type "list", data := .seq vs.toArray }) (hi : IntsAre vs ns) (hl : ns.length ≤ sizeLine) (hr : Room k callerA)
    (F : ∀ base : Heap, K.In base → base.Ns mainGlobals mg → FnG P w K mg base CX k fa fd [x] sp) (hbind : ∀ (s : Shared) (u : Value), BindsTo s fd ⟨[u], []⟩ [(x, u)])
    (hsp : ∀ H : Hp, Only H → SqL K H a (ns.map V.int) → sp [.ref a] H (fun v _ => v = .bl true) fun _ _ _ => False)
    (hCX : ∀ H e s', CX [] H s₁ (fun _ _ _ => False) e s' → False) :
    codeAny (model P w) callerA (.call (.ref fa) ⟨[.ref a], []⟩) (fun r s' => r = .ok (.ret (.bool true)) ∧ OldK s₁.heap s'.heap ∧ s'.os = s₁.os ∧ AllBare s'.gens) s₁ := by
  have rv : Vals (ns.map V.int) vs := vals_ints hi
  have lv : vs.length = ns.length := hi.length
  have run : ∀ H : Hp, Only H → SqL K H a (ns.map V.int) → HOk P w H s₁.heap → (∀ b, H b ≠ none → b = a ∧ K.lookup a = none) →
      codeAny (model P w) callerA (.call (.ref fa) ⟨[.ref a], []⟩) (fun r s' => r = .ok (.ret (.bool true)) ∧ OldK s₁.heap s'.heap ∧ s'.os = s₁.os ∧ AllBare s'.gens) s₁ := by
    intro H hO hS hok hA
    -- what stands in a namespace, or in the written part, is not tracked
    have free : ∀ {b : Addr} {o : Obj}, s₁.heap.get? b = some o → (∀ es ep, o.data = .dict es ep → True) → (b = a → False) → H b = none := fun {b o} _ _ nb => by
      cases q : H b with
      | none => rfl
      | some u => exact (nb (hA b (by rw [q]; exact fun z => by cases z)).1).elim
    have nsK : ∀ {b : Addr} {m : Str → Option Value}, s₁.heap.Ns b m → (hidT s₁.heap H).Ns b m := fun {b m} n => by
      obtain ⟨o, es, ep, e, d, rr⟩ := n
      refine ⟨o, es, ep, hidT_get e (free e (fun _ _ _ => trivial) fun z => ?_), d, rr⟩
      rw [z, ha] at e
      cases e
      cases d
    have kB : K.In (hidT s₁.heap H) := fun b o e => hidT_get (KX b o e) (by
      cases q : H b with
      | none => rfl
      | some u =>
        obtain ⟨z1, z2⟩ := hA b (by rw [q]; exact fun z => by cases z)
        rw [z1, z2] at e
        cases e)
    have hM : Mod K mg (hidT s₁.heap H) := ⟨kB, nsK hns, ⟨mb, nsK hb, hbb⟩, by obtain ⟨mc, h1, h2⟩ := hlim; exact ⟨mc, nsK h1, h2⟩⟩
    have e0 : Env0 P w K mg (hidT s₁.heap H) callerA [] s₁ H :=
      { frames := rfl, mod := hM, bs := fun b o e => of_hidT e, bsz := Nat.le_of_eq (hidT_size _ _), funs := trivial, frf := fun b hb => absurd (show b ∈ ([] : List Addr) from hb) (by simp), hok := hok, bare := .of_eq hgen }
    refine codeAny_mono ((F _ kB (nsK hns)).go callerA [] s₁ H ⟨[.ref a], []⟩ [.ref a] [.ref a] _ _ rfl hr e0 (hbind s₁ (.ref a)) (.cons rfl .nil) (hsp H hO hS)) ?_
    intro rs s' h
    match rs, h with
    | .error e, h => exact (hCX H e s' h).elim
    | .ok (.ret u), h =>
      obtain ⟨v, H', os, bare, un, hok', r', q⟩ := h
      cases (show v = .bl true from q)
      cases (show u = Value.bool true from r')
      refine ⟨rfl, OldK.of_keep fun b o e => ?_, os, bare⟩
      cases q : H b with
      | none => exact un.keep b o e q (fun z => absurd (show b ∈ ([] : List Addr) from z) (by simp)) (by simp)
      | some u =>
        rcases hO b with z | ⟨ob, xs, z⟩
        · rw [q] at z
          cases z
        · have h1 := (hok b _ z).1
          have h2 := (hok' b _ (un.frzs b ob _ z)).1
          rw [e] at h1
          cases h1
          exact h2
  cases hk : K.lookup a with
  | some o =>
    have e := KX a o hk
    rw [ha] at e
    cases e
    exact run (fun _ => none) (fun _ => .inl rfl) (.inr ⟨_, vs.toArray, _, hk, rfl, rfl, rfl, by rw [List.size_toArray, lv]; exact hl, by simpa using rv⟩) (fun b u z => by have z' : (none : Option HO) = some u := z; cases z') (fun b z => absurd rfl z)
  | none =>
    let Hs : Hp := fun b => if b = a then some (.frz { cls := .type "list", data := .seq vs.toArray } (.lst (ns.map V.int))) else none
    have at_a : Hs a = some (.frz { cls := .type "list", data := .seq vs.toArray } (.lst (ns.map V.int))) := if_pos rfl
    have off : ∀ b, b ≠ a → Hs b = none := fun b h => if_neg h
    refine run Hs (fun b => ?_) (.inl (.inr ⟨_, at_a⟩)) (fun b u z => ?_) (fun b z => ⟨?_, hk⟩)
    · by_cases h : b = a
      · rw [h]; exact .inr ⟨_, _, at_a⟩
      · exact .inl (off b h)
    · by_cases h : b = a
      · subst h
        rw [at_a] at z
        cases z
        exact ⟨ha, by rw [List.length_map]; exact hl, vs, _, rv, ha⟩
      · rw [off b h] at z
        cases z
    · by_cases h : b = a
      · exact h
      · exact absurd (off b h) z
theorem walkG {l : PySem.W.OpenLaw} {n k : Nat} {q : Program} {loose : List Str} {XP : (Str → Option Value) → Heap → Prop} {YP : World → Heap → Prop} {d : DefRec} {K : Params → PySem.W.Frag} {CX : World → CXT} {sp : World → Sp} {x : Str}
    (hn : l.most = some n) (hn2 : n ≤ sizeLine) (hdf : d.params.defaults = []) (hr : Room k callerA)
    (hY : ∀ (w : World) (h : Heap), YP w h → (K w.params).In h)
    (F : ∀ (w : World) (mg : Str → Option Value) (fa : Addr) (h : Heap), (K w.params).In h → h.Ns mainGlobals mg → mg d.name = some (.ref fa) →
      ∃ fd : FuncData, (∀ (s : Shared) (u : Value), BindsTo s fd ⟨[u], []⟩ [(x, u)]) ∧
        ∀ base : Heap, (K w.params).In base → base.Ns mainGlobals mg → FnG l.prog w (K w.params) mg base (CX w) k fa fd [x] (sp w))
    (hsp : ∀ (w : World) (H : Hp) (a : Addr) (ns : List Int), ns.length ≤ n → (∀ z ∈ ns, Builtin.Int.intBits z ≤ 1048576) → Only H → SqL (K w.params) H a (ns.map V.int) → sp w [.ref a] H (fun v _ => v = .bl true) fun _ _ _ => False)
    (hCX : ∀ (w : World) (H : Hp) (s : Shared) (e : Value) (s' : Shared), CX w [] H s (fun _ _ _ => False) e s' → False) :
    PySem.W.WalkO q loose XP YP l.row.toRowW d [] (fun f vs => PySem.call f vs) := by
  refine Att.attach_callB hn hdf ?_
  intro w s₀ s₁ mg mb fa o pm cd doc a vs ns G Y ho hd hcd hmg hobj hints hlen hbits hgen
  obtain ⟨fd, hb, hF⟩ := F w mg fa _ (hY w _ Y) G.T.g hmg
  exact enterG (hY w _ Y) G.T.g G.T.b G.T.builtins G.T.nolimit hgen hobj hints (Nat.le_trans hlen hn2) hr hF hb (fun H hO hS => hsp w H a ns hlen hbits hO hS) fun H e s' => hCX w H s₁ e s'
/-- the same where the promise hangs on the written part alone -/
theorem walkK {l : PySem.W.OpenLaw} {n k : Nat} {q : Program} {loose : List Str} {XP : (Str → Option Value) → Heap → Prop} {YP : World → Heap → Prop} {d : DefRec} {K : Params → PySem.W.Frag} {CX : CXT} {sp : PySem.W.Frag → Sp} {x : Str}
    (hn : l.most = some n) (hn2 : n ≤ sizeLine) (hdf : d.params.defaults = []) (hr : Room k callerA) (hY : ∀ (w : World) (h : Heap), YP w h → (K w.params).In h)
    (F : ∀ (w : World) (mg : Str → Option Value) (fa : Addr) (h : Heap), (K w.params).In h → h.Ns mainGlobals mg → mg d.name = some (.ref fa) →
      ∃ fd : FuncData, (∀ (s : Shared) (u : Value), BindsTo s fd ⟨[u], []⟩ [(x, u)]) ∧ ∀ base : Heap, (K w.params).In base → base.Ns mainGlobals mg → FnG l.prog w (K w.params) mg base CX k fa fd [x] (sp (K w.params)))
    (hsp : ∀ (K : PySem.W.Frag) (H : Hp) (a : Addr) (ns : List Int), ns.length ≤ n → Only H → SqL K H a (ns.map V.int) → sp K [.ref a] H (fun v _ => v = .bl true) fun _ _ _ => False)
    (hCX : ∀ (H : Hp) (s : Shared) (e : Value) (s' : Shared), CX [] H s (fun _ _ _ => False) e s' → False) : PySem.W.WalkO q loose XP YP l.row.toRowW d [] (fun f vs => PySem.call f vs) :=
  walkG (K := K) (CX := fun _ => CX) (sp := fun w => sp (K w.params)) hn hn2 hdf hr hY F (fun w H a ns h1 _ h2 h3 => hsp (K w.params) H a ns h1 h2 h3) fun _ H s e s' => hCX H s e s'
end Dz

set_option Elab.async false
set_option linter.all false
set_option maxRecDepth 100000
set_option maxHeartbeats 2000000
/-! repr of data; errors of the program's own as values; isinstance of these. -/
namespace Dz
open PySem PySem.Spec PyProof.Rows L2
section
variable {X : Cx}
/-- repr(x), x data without dicts -/
def rShow (K : PySem.W.Frag) : List V → Hp → VK → Prop := fun xs H Q => ∃ v d, xs = [v] ∧ Dp K H v d ∧ d.showable = true ∧ d.hasDict = false ∧ d.depth ≤ 60 ∧ d.shown.length ≤ sizeLine ∧ Q (.str d.shown) H
theorem call_show {k : Nat} (hg : Calm X.A) (hr : Room k X.A) : CallR X (.builtin "repr") (rShow X.K) := by
  intro pins s σ H xs us Q I r h
  obtain ⟨v, d, rfl, hd, hs, hn, hp, hz, q⟩ := h
  cases r with
  | @cons _ u _ _ rv rn =>
  cases rn
  have hu := hr.units
  cases hd with
  | non => cases rv; exact PySem.P.repr_of_none ⟨.str _, H, I.tok _, ⟨_, rfl⟩, q⟩
  | bl b => cases rv; exact PySem.P.repr_of_bool ⟨.str _, H, I.tok _, ⟨_, rfl⟩, q⟩
  | int i =>
    obtain ⟨t, rfl⟩ := rv
    exact PySem.P.repr_of_int (of_decide_eq_true hs) ⟨.str _, H, I.tok _, ⟨_, rfl⟩, q⟩
  | str x =>
    obtain ⟨t, rfl⟩ := rv
    exact PySem.P.repr_of_str ⟨.str _, H, I.tok _, ⟨_, rfl⟩, q⟩ hz
  | lst h1 h2 =>
    cases rv
    obtain ⟨as, rd⟩ := Dp.reads I _ _ _ (Dp.lst h1 h2) rfl
    exact repr_of_reads' rd hs (PyData.noDict_hsm hn) hg (by omega) (fun _ _ e => e) (fun h' u tk hk => ⟨.str _, H, I.kept hk, ⟨_, rfl⟩, q⟩) hz
  | tup h1 h2 =>
    cases rv
    obtain ⟨as, rd⟩ := Dp.reads I _ _ _ (Dp.tup h1 h2) rfl
    exact repr_of_reads' rd hs (PyData.noDict_hsm hn) hg (by omega) (fun _ _ e => e) (fun h' u tk hk => ⟨.str _, H, I.kept hk, ⟨_, rfl⟩, q⟩) hz

/-! ### own errors -/
/-- W.__init__(self, ..), W the own class above it: what stands there is ValueError's -/
structure UpC (K : PySem.W.Frag) (W : Addr) (mc : Value) : Prop where
  rd : PySem.W.readsIn K W mc = true
  ga : PySem.W.specialIn K (.ref W) "__getattribute__" = some (some (.builtin "type.__getattribute__"))
  at_ : PySem.W.findCls K (.ref W) mc "__init__" = some (.val (.builtin "ValueError.__init__"))
theorem pe_upinit {x : Str} {W : Addr} {mc : Value} {e : Expr} {es : List Expr} {ta : TA} {p1 p2 pos : Pos} {pl : Sem Bool} (hg : Gl X x) (hm : X.mg x = some (.ref W)) (U : UpC X.K W mc) (ha : PA X (e :: es) ta)
    (hdb : (x == ("__debug__" : Str)) = false := by decide)
    (hc : eval (.Call (.Attribute (.Name x p1) "__init__" p2) (e :: es) [] pos) X.env = (do
      let ov ← eval (.Name x p1) X.env
      standAt p2.atName
      let (f, first) ← holding [ov] (getMethod ov "__init__" pl)
      callWith pos f first (backTo pos (starEach (e :: es) X.env)) (backToKw pos (keywordEach [] X.env))) := by rfl)
    (he : starEach (e :: es) X.env = (false, eval e X.env) :: starEach es X.env := by rfl) (hpl : (backTo pos (starEach es X.env)).any (·.1) = false := by rfl) :
    PE X (.Call (.Attribute (.Name x p1) "__init__" p2) (e :: es) [] pos) (tVeI X.K ta) := by
  constructor
  intro pins s σ H Q I h
  refine PySem.W.methodCall_KW (ld_glob I hg hm ?_ hdb) hc
  refine PySem.W.method_cls I.kIn U.ga (PySem.W.cls_value I.kIn U.rd U.at_ rfl ?_)
  show wpAny _ _ (callWith pos (Value.builtin "ValueError.__init__") [] (backTo pos (starEach (e :: es) X.env)) []) _ _ _
  refine PyProof.Rows.callWith_method1 (thn (ha.run pos pins _ σ H _ (I.tok _) h) ?_) he hpl
  rintro us s1 ⟨vs, H1, I1, r1, a, C, ws, rfl, hl, T, ea, q⟩
  cases r1 with
  | @cons _ u0 _ ur ra rw' =>
    cases (show u0 = Value.ref a from ra)
    refine oinit_ok T I1 ea ?_ fun s' J => ⟨.non, H1, J, rfl, q⟩
    rw [← Paired.length rw', sizeLine_eq]
    omega
/-- C(e, ..) as a value: the error at a, its __init__ keeping sp -/
theorem call_err {CX : CXT} {C fI : Addr} {k : Nat} {fd : FuncData} {ps : List Str} {sp : Sp} {E : XK} (T : OexC X.K C) (iC : PySem.W.findIn X.K (.ref C) "__init__" = some (some (.ref fI)))
    (tI : PySem.W.typeIn X.K (.ref fI) = some (.type "function")) (F : FnG X.prog X.w X.K X.mg X.base CX k fI fd ps sp) (hcl : Calm X.A) (hr : Room (k + 1) X.A) (hb : Binds X.K fd ps []) (hx : Passes CX X E) :
    CallR X (.ref C) (fun vs H Q => vs.length ≤ 1000 ∧ ∀ a, H a = none → sp (.ref a :: vs) (upd H a (exo a C none)) (fun v H2 => v = .non ∧ Q (.ref a) H2) E) := by
  intro pins s σ H vs us Q I r1 h
  obtain ⟨hz, q1⟩ := h
  obtain ⟨nm, qn, N, bs, bm, sn, sub, ab, col, dd, k0, k1, k2, k3, k5, hC, hbm⟩ := T.cls
  obtain ⟨hp, g, dr, tk, os⟩ := s
  have above : hp.objs.size ≤ hp.objs.size + 1 := Nat.le_succ _
  have hq := q1 (hp.objs.size + 1) (I.hok.fresh above)
  have kk : ∀ b o, hp.get? b = some o → ((hp.push (PySem.W.kdv_tup us)).push (PySem.HandSPX.excO C hp.objs.size)).get? b = some o := fun b o e => Heap.get?_push_of_some _ (Heap.get?_push_of_some _ e)
  have got : ((hp.push (PySem.W.kdv_tup us)).push (PySem.HandSPX.excO C hp.objs.size)).get? (hp.objs.size + 1) = some (PySem.HandSPX.excO C hp.objs.size) := by heap_get
  have I2 : Inv X pins σ (upd H (hp.objs.size + 1) (exo (hp.objs.size + 1) C none)) ⟨(hp.push (PySem.W.kdv_tup us)).push (PySem.HandSPX.excO C hp.objs.size), g, dr, tk, os⟩ := I.laid (t' := tk) kk above (exo_ok got)
  have r2 : Vals (V.ref (hp.objs.size + 1) :: vs) (Value.ref (hp.objs.size + 1) :: us) := .cons rfl r1
  have ll : (Value.ref (hp.objs.size + 1) :: us ++ []).length = ps.length := by
    rw [List.append_nil, ← r2.length]
    exact F.ln _ _ _ _ hq
  have lu : us.length ≤ sizeLine := by
    rw [← Paired.length r1, sizeLine_eq]
    omega
  have bnd := hb ⟨(hp.push (PySem.W.kdv_tup us)).push (PySem.HandSPX.excO C hp.objs.size), g, dr, tk, os⟩ (Value.ref (hp.objs.size + 1) :: us) I2.kIn ll
  rw [List.append_nil] at bnd
  have cal : Calm (X.A.under (.builtin "type.__call__" ⟨.ref C :: us, []⟩)) := by
    unfold Calm at hcl ⊢
    simp [Around.under, Code.guards, Code.isGuard, pushGuards, guardIds, hcl]
  refine wpAny_call (PySem.HandSPX.call_own PySem.F.excBase_ValueError (fun Y => PySem.HandSPX.refsVE_contains Y bm hbm) (I.kIn _ _ hC) (PySem.W.looks_findIn I.kIn iC) (fun self => PySem.W.bind_fn I.kIn self tI) lu
    (codeAny_mono (F.go _ X.stack _ _ ⟨Value.ref (hp.objs.size + 1) :: us, []⟩ (Value.ref (hp.objs.size + 1) :: us) _ _ E cal (hr.make C us []) (I2.env0.make C us []) bnd r2 hq) ?_))
  intro rs s' hq'
  match rs, hq' with
  | .error er, hq' => exact hx pins σ _ _ er s' I2 hq'
  | .ok (.ret u), hq' =>
    obtain ⟨v, H2, I3, rv, ev, q2⟩ := I2.after hq'
    subst ev
    exact ⟨rv, V.ref (hp.objs.size + 1), H2, I3, rfl, q2⟩
end
end Dz

set_option Elab.async false
set_option linter.all false
set_option maxRecDepth 100000
set_option maxHeartbeats 2000000
/-! Readings, step by step. -/
namespace Dz
open PySem PySem.Spec PyProof.Rows L2

/-- a def of the text that keeps its promise, whatever its record is -/
structure Kp (P : Program) (w : World) (K : PySem.W.Frag) (mg : Str → Option Value) (base : Heap) (CX : CXT) (k : Nat) (f : Addr) (ps : List Str) (ds : List Value) (sp : Sp) : Prop where
  ex : ∃ fd, FnG P w K mg base CX k f fd ps sp ∧ Binds K fd ps ds
/-- a def of the module -/
structure Df (K : PySem.W.Frag) (mg : Str → Option Value) (x : Str) (st : Stmt) (f : Addr) : Prop where
  ex : ∃ fd, Fun K x x st f fd
  mg : mg x = some (.ref f)
  kp : PySem.W.keepIn K (.ref f) = true
/-- a name of the module that holds v -/
def Gv (mg : Str → Option Value) (x : Str) (v : V) : Prop := ∃ u, mg x = some u ∧ RelV v u
section
variable {X : Cx} {CX : CXT} {k : Nat} {f C : Addr} {ps : List Str} {sp : Sp} {dvs : List V} {ds : List Value} {E : XK} {x m : Str} {p pos apos : Pos} {e o : Expr} {es : List Expr} {ta : TE} {t : TA}
theorem callK (F : Kp X.prog X.w X.K X.mg X.base CX k f ps ds sp) (hg : Calm X.A) (hr : Room k X.A) (hd : Vals dvs ds) (hx : Passes CX X E) :
    CallR X (.ref f) (fun vs H Q => sp (vs ++ dvs) H Q E) := by
  obtain ⟨fd, G, b⟩ := F.ex
  exact callR_fn G hg hr b hd hx
theorem callK0 (F : Kp X.prog X.w X.K X.mg X.base CX k f ps [] sp) (hg : Calm X.A) (hr : Room k X.A) (hx : Passes CX X E) :
    CallR X (.ref f) (fun vs H Q => sp vs H Q E) := fun pins s σ H xs us Q I r h => callK (dvs := []) F hg hr .nil hx pins s σ H xs us Q I r (by show sp (xs ++ []) H Q E; rw [List.append_nil]; exact h)
theorem pe_gv {v : V} (hg : Gl X x) (h : Gv X.mg x v) (hd : (x == ("__debug__" : Str)) = false := by decide) : PE X (.Name x pos) (tC v) := by
  obtain ⟨u, hm, r⟩ := h
  exact pe_glob hg hm r hd
theorem calm_in {A : Around} {env : Env} (h : Calm A) : Calm (A.deeper env) := h
end

/-! ### the steps -/
section
variable {σ : L2.St} {H : Hp} {Q : VK} {i : Nat} {v x y : V} {ta tb te : TE} {t : TA} {nx : L2.St → Hp → Prop} {rt : VK} {bk ct : L2.St → Hp → Prop} {a u : TS} {tt tu : TT}
theorem w_var (h : σ[i]? = some (some v)) (k : Q v H) : tVar i σ H Q := ⟨v, h, k⟩
theorem w_varE (k : ∃ v, σ[i]? = some (some v) ∧ Q v H) : tVar i σ H Q := k
theorem w_c (k : Q v H) : tC v σ H Q := k
theorem w_op {r : R2} (k : ta σ H fun x H1 => tb σ H1 fun y H2 => r x y H2 Q) : tOp r ta tb σ H Q := k
theorem w_un {r : V → Hp → VK → Prop} (k : ta σ H fun x H1 => r x H1 Q) : tUn r ta σ H Q := k
theorem w_rI {C : Int → Int → Prop} {g : Int → Int → V} {i j : Int} (hc : C i j) (k : Q (g i j) H) : rI C g (.int i) (.int j) H Q := ⟨i, j, rfl, rfl, hc, k⟩
theorem w_rI0 {g : Int → Int → V} {i j : Int} (k : Q (g i j) H) : rI0 g (.int i) (.int j) H Q := ⟨i, j, rfl, rfl, k⟩
theorem w_rU {g : Int → V} {i : Int} (k : Q (g i) H) : rU g (.int i) H Q := ⟨i, rfl, k⟩
theorem w_rEq (hs : scal x y = true) (k : Q (.bl (decide (x = y))) H) : rEq x y H Q := ⟨hs, k⟩
theorem w_rNe (hs : scal x y = true) (k : Q (.bl (!decide (x = y))) H) : rNe x y H Q := ⟨hs, k⟩
theorem w_nil {Q : List V → Hp → Prop} (k : Q [] H) : tNil σ H Q := k
theorem w_cons {Q : List V → Hp → Prop} {tr : TA} (k : ta σ H fun x H1 => tr σ H1 fun xs H2 => Q (x :: xs) H2) : tCons ta tr σ H Q := k
/-- a new list, a new tuple -/
def NewL (xs : List V) (H : Hp) (Q : VK) : Prop := ∀ p, H p = none → Q (.ref p) (upd H p (.lst xs))
def NewT (xs : List V) (H : Hp) (Q : VK) : Prop := ∀ p, H p = none → Q (.ref p) (upd H p (.tup xs))
theorem w_lst (k : t σ H fun xs H1 => xs.length ≤ sizeLine ∧ NewL xs H1 Q) : tLst t σ H Q := k
theorem w_tup (k : t σ H fun xs H1 => xs.length ≤ sizeLine ∧ NewT xs H1 Q) : tTup t σ H Q := k
theorem w_ixL {K : PySem.W.Frag} {p : Addr} {xs : List V} {i : Int} (h : SqL K H p xs) (ha : atI xs i = some v) (k : Q v H) : rIxL K (.ref p) (.int i) H Q := ⟨p, xs, i, v, rfl, rfl, h, ha, k⟩
theorem w_cb {r : List V → Hp → VK → Prop} (k : t σ H fun vs H1 => r vs H1 Q) : tCB r t σ H Q := k
theorem w_test {Q : Bool → Hp → Prop} (k : te σ H fun x H1 => ∃ b, x = .bl b ∧ Q b H1) : tTest te σ H Q := k
theorem w_B {Q : Bool → Hp → Prop} (k : te σ H fun x H1 => ∃ b, x = .bl b ∧ Q b H1) : tB te σ H Q := k
theorem w_bl {Q : Bool → Prop} {b : Bool} (k : Q b) : ∃ c, V.bl b = .bl c ∧ Q c := ⟨b, rfl, k⟩
theorem w_notV (k : ta σ H fun x H1 => ∃ c, x = .bl c ∧ Q (.bl (!c)) H1) : tNotV ta σ H Q := k
theorem w_andV (k : ta σ H fun x H1 => ∃ c, x = .bl c ∧ if c = true then tb σ H1 Q else Q (.bl false) H1) : tAndV ta tb σ H Q := k
theorem w_orV (k : ta σ H fun x H1 => ∃ c, x = .bl c ∧ if c = true then Q (.bl true) H1 else tb σ H1 Q) : tOrV ta tb σ H Q := k
theorem w_not {Q : Bool → Hp → Prop} (k : tt σ H fun c H1 => Q (!c) H1) : tNot tt σ H Q := k
theorem w_and {Q : Bool → Hp → Prop} (k : tt σ H fun c H1 => if c = true then tu σ H1 Q else Q false H1) : tAnd tt tu σ H Q := k
theorem w_or {Q : Bool → Hp → Prop} (k : tt σ H fun c H1 => if c = true then Q true H1 else tu σ H1 Q) : tOr tt tu σ H Q := k
theorem w_ifE (k : tt σ H fun c H1 => if c = true then ta σ H1 Q else tb σ H1 Q) : tIf tt ta tb σ H Q := k
theorem w_seq (k : a ⟨u ⟨nx, rt, bk, ct⟩, rt, bk, ct⟩ σ H) : tSeq a u ⟨nx, rt, bk, ct⟩ σ H := k
theorem w_next (k : nx σ H) : tNext ⟨nx, rt, bk, ct⟩ σ H := k
theorem w_ret (k : te σ H rt) : tRet te ⟨nx, rt, bk, ct⟩ σ H := k
theorem w_asg {g : TG} (k : te σ H fun x H1 => g x σ H1 nx) : tAsg te g ⟨nx, rt, bk, ct⟩ σ H := k
theorem w_gn (k : nx (σ.set i (some v)) H) : gName i v σ H nx := k
theorem w_gsub {to ti : TE} {ts : TSet} (k : to σ H fun o H1 => ti σ H1 fun i H2 => ts o i v H2 fun H3 => nx σ H3) : gSub to ti ts v σ H nx := k
theorem w_setL {p : Addr} {xs : List V} {k : Int} {j : Nat} {Q : Hp → Prop} (h : H p = some (.lst xs)) (hj : ixN xs.length k = some j) (q : Q (upd H p (.lst (xs.set j v)))) : rSetL (.ref p) (.int k) v H Q := ⟨p, xs, k, j, rfl, rfl, h, hj, q⟩
theorem w_drop (k : te σ H fun _ H1 => nx σ H1) : tDrop te ⟨nx, rt, bk, ct⟩ σ H := k
theorem w_ifS (k : tt σ H fun b H1 => if b = true then a ⟨nx, rt, bk, ct⟩ σ H1 else u ⟨nx, rt, bk, ct⟩ σ H1) : tIfS tt a u ⟨nx, rt, bk, ct⟩ σ H := k
theorem w_ite {p : Prop} [Decidable p] {A B : Prop} (h1 : p → A) (h2 : ¬ p → B) : if decide p = true then A else B := by
  by_cases h : p
  · rw [if_pos (decide_eq_true h)]; exact h1 h
  · rw [if_neg (by simpa using h)]; exact h2 h
theorem w_iteB {b : Bool} {A B : Prop} (h1 : b = true → A) (h2 : b = false → B) : if b = true then A else B := by
  cases b
  · exact h2 rfl
  · exact h1 rfl
theorem w_itT {b : Bool} {A B : Prop} (e : b = true) (h : A) : if b = true then A else B := by rw [if_pos e]; exact h
theorem w_itF {b : Bool} {A B : Prop} (e : b = false) (h : B) : if b = true then A else B := by rw [if_neg (by rw [e]; decide)]; exact h
theorem atI_of {xs : List V} {i : Int} {v : V} (h0 : 0 ≤ i) (h : xs[i.toNat]? = some v) : atI xs i = some v := by
  have e : i = ((i.toNat : Nat) : Int) := (Int.toNat_of_nonneg h0).symm
  rw [e]
  exact atI_nat h
theorem sz_ok {n : Nat} (h : n ≤ 1000) : n ≤ sizeLine := Nat.le_trans h (by decide)
end
/-! ### heaps -/
/-- all but p is as it was -/
def Bt (p : Addr) (H H' : Hp) : Prop := ∀ b o, b ≠ p → H b = some o → H' b = some o
theorem Bt.refl {p : Addr} {H : Hp} : Bt p H H := fun _ _ _ h => h
theorem Bt.trans {p : Addr} {H H1 H2 : Hp} (a : Bt p H H1) (b : Bt p H1 H2) : Bt p H H2 := fun c o n h => b c o n (a c o n h)
theorem Bt.new {p q : Addr} {H : Hp} {o : HO} (h : H q = none) : Bt p H (upd H q o) := fun b u _ e => by rw [upd_ne (ne_of_none e h)]; exact e
theorem Bt.at_ {p : Addr} {H : Hp} {o : HO} : Bt p H (upd H p o) := fun b u n e => by rw [upd_ne n]; exact e
theorem Bt.of {p : Addr} {H H' : Hp} (e : Same H H') : Bt p H H' := fun b o _ h => e b o h
theorem same_new {q : Addr} {H : Hp} {o : HO} (h : H q = none) : Same H (upd H q o) := fun b u e => by rw [upd_ne (ne_of_none e h)]; exact e
theorem Bt.back {p q : Addr} {H H' : Hp} (e : Bt p H H') (n : q ≠ p) (h : H' q = none) : H q = none := by
  cases h1 : H q with
  | none => rfl
  | some o => rw [e q o n h1] at h; cases h
theorem Bt.rd {K : PySem.W.Frag} {p a : Addr} {H H' : Hp} {xs : List V} (e : Bt p H H') (n : a ≠ p) (h : SqL K H a xs) : SqL K H' a xs := by
  rcases h with (h | ⟨o, h⟩) | h
  · exact .inl (.inl (e _ _ n h))
  · exact .inl (.inr ⟨o, e _ _ n h⟩)
  · exact .inr h
end Dz

set_option Elab.async false
set_option linter.all false
set_option maxRecDepth 100000
set_option maxHeartbeats 2000000
/-! Loops; kinds of things; isinstance. -/
namespace Dz
open PySem PySem.Spec PyProof.Rows L2
section
variable {σ : L2.St} {H : Hp} {Q : VK} {te tl : TE} {ta : TA} {nx : L2.St → Hp → Prop} {rt : VK} {bk ct : L2.St → Hp → Prop} {tb u : TS} {g : TG} {tt : TT} {vs : List Nat} {K : PySem.W.Frag} {wi : TI} {D : Ends}
/-- what a comprehension, a for asks of its walk J -/
def LcW (J : It) (g : TG) (tt : TT) (te : TE) (vs : List Nat) (σ : L2.St) (H : Hp) (Q : VK) : Prop := ∀ D, H D = none → ∃ W : Nat → Nat → Hp → Prop, (∃ m, W 0 m (upd H D (.lst []))) ∧ ∀ i m H, W i m H → (J.stop i H ∧ Q (.ref D) H) ∨ (J.go i H ∧ ∃ Nx : Hp → Prop, (∀ H', Nx H' → ∃ m', m' < m ∧ W (i + 1) m' H') ∧
      ∀ x H', J.yld i H x H' → g x (wipe σ vs) H' fun σ2 H2 => wipe σ2 vs = wipe σ vs ∧ tt σ2 H2 fun b H3 =>
        if b = true then te σ2 H3 fun y H4 => ∃ acc, H4 D = some (.lst acc) ∧ acc.length < sizeLine ∧ Nx (upd H4 D (.lst (acc ++ [y]))) else Nx H3)
def ForW (J : It) (g : TG) (tb : TS) (D : Ends) (σ : L2.St) (H : Hp) : Prop := ∃ W : Nat → Nat → L2.St → Hp → Prop, (∃ m, W 0 m σ H) ∧ ∀ i m σ H, W i m σ H → (J.stop i H ∧ D.nx σ H) ∨ (J.go i H ∧ ∃ N : L2.St → Hp → Prop, (∀ σ' H', N σ' H' → ∃ m', m' < m ∧ W (i + 1) m' σ' H') ∧
      ∀ x H', J.yld i H x H' → g x σ H' fun σ2 H2 => tb { D with nx := N, ct := N, bk := D.nx } σ2 H2)
theorem w_lc (k : wi σ H fun J H1 => LcW J g tt te vs σ H1 Q) : tLc wi g tt te vs σ H Q := k
theorem w_for (k : wi σ H fun J H1 => ForW J g tb D σ H1) : tFor wi g tb D σ H := k
theorem w_iR1 {R : It → Hp → Prop} (k : ta σ H fun xs H1 => ∃ j : Int, xs = [.int j] ∧ -(2 ^ 62) ≤ j ∧ j < 2 ^ 62 ∧ R (Itr 0 j.toNat) H1) : iRng1 ta σ H R := k
theorem w_iL {R : It → Hp → Prop} (k : tl σ H fun x H1 => ∃ a, x = .ref a ∧ (∃ xs, SqL K H1 a xs) ∧ R (Itl K a) H1) : iList K tl σ H R := k
theorem w_iT {R : It → Hp → Prop} (k : tl σ H fun x H1 => ∃ a, x = .ref a ∧ (∃ xs, SqT K H1 a xs) ∧ R (Itt K a) H1) : iTup K tl σ H R := k
theorem w_iS {R : It → Hp → Prop} (k : tl σ H fun x H1 => ∃ z, x = .str z ∧ R (Its z) H1) : iStr tl σ H R := k
theorem w_rng1 {Q : Int → Prop} {n : Int} (h : -(2 ^ 62) ≤ n ∧ n < 2 ^ 62) (k : Q n) : ∃ j : Int, [V.int n] = [V.int j] ∧ -(2 ^ 62) ≤ j ∧ j < 2 ^ 62 ∧ Q j := ⟨n, rfl, h.1, h.2, k⟩
theorem w_lst1 {Q : Addr → Prop} {a : Addr} {xs : List V} (h : SqL K H a xs) (k : Q a) : ∃ b, V.ref a = .ref b ∧ (∃ xs, SqL K H b xs) ∧ Q b := ⟨a, rfl, ⟨xs, h⟩, k⟩
theorem w_tup1 {Q : Addr → Prop} {a : Addr} {xs : List V} (h : SqT K H a xs) (k : Q a) : ∃ b, V.ref a = .ref b ∧ (∃ xs, SqT K H b xs) ∧ Q b := ⟨a, rfl, ⟨xs, h⟩, k⟩
theorem w_str1 {Q : Str → Prop} {z : Str} (k : Q z) : ∃ y, V.str z = .str y ∧ Q y := ⟨z, rfl, k⟩
/-- what a comprehension of n turns asks, x its i-th thing: Pv of the turn and the heap; D is where its list stands -/
def Lcs (n : Nat) (Gd : Hp → Prop) (Yd : Nat → V → Prop) (g : TG) (tt : TT) (te : TE) (vs : List Nat) (σ : L2.St) (H : Hp) (Q : VK) : Prop := ∀ D, H D = none → ∃ Pv : Nat → Hp → Prop, Pv 0 (upd H D (.lst [])) ∧ (∀ i H, i ≤ n → Pv i H → Gd H) ∧
  (∀ i x H, i < n → Yd i x → Pv i H → g x (wipe σ vs) H fun σ2 H2 => wipe σ2 vs = wipe σ vs ∧ tt σ2 H2 fun b H3 =>
    if b = true then te σ2 H3 fun y H4 => ∃ acc, H4 D = some (.lst acc) ∧ acc.length < sizeLine ∧ Pv (i + 1) (upd H4 D (.lst (acc ++ [y]))) else Pv (i + 1) H3) ∧ ∀ H, Pv n H → Q (.ref D) H
theorem lcs_go {J : It} {n : Nat} {Gd : Hp → Prop} {Yd : Nat → V → Prop} (w : Walk J n Gd fun i H x H' => H' = H ∧ Yd i x) (k : Lcs n Gd Yd g tt te vs σ H Q) : LcW J g tt te vs σ H Q := by
  intro D hD
  obtain ⟨Pv, h0, hG, hs, hd⟩ := k D hD
  refine lc_it w Pv h0 hG (fun i x H H' hi p y => ?_) hd
  obtain ⟨rfl, y⟩ := y
  exact hs i x H' hi y p
/-- the same of a for: Pv by the turn, the slots, the heap -/
def Fors (n : Nat) (Gd : Hp → Prop) (Yd : Nat → V → Prop) (g : TG) (tb : TS) (D : Ends) (σ : L2.St) (H : Hp) : Prop := ∃ Pv : Nat → L2.St → Hp → Prop, Pv 0 σ H ∧ (∀ i σ H, i ≤ n → Pv i σ H → Gd H) ∧
  (∀ i x σ H, i < n → Yd i x → Pv i σ H → g x σ H fun σ2 H2 => tb ⟨Pv (i + 1), D.rt, D.nx, Pv (i + 1)⟩ σ2 H2) ∧ ∀ σ H, Pv n σ H → D.nx σ H
theorem fors_go {J : It} {n : Nat} {Gd : Hp → Prop} {Yd : Nat → V → Prop} (w : Walk J n Gd fun i H x H' => H' = H ∧ Yd i x) (k : Fors n Gd Yd g tb D σ H) : ForW J g tb D σ H := by
  obtain ⟨Pv, h0, hG, hs, hd⟩ := k
  refine for_it w Pv h0 hG (fun i x σ H H' hi p y => ?_) hd
  obtain ⟨rfl, y⟩ := y
  exact hs i x σ H' hi y p
theorem wk_range {n : Nat} : Walk (Itr 0 n) n (fun _ => True) fun i H x H' => H' = H ∧ x = .int (i : Nat) := (walk_range (lo := 0) (n := n)).mono (fun _ h => h) fun i H x H' _ _ y => ⟨y.1, y.2.trans (by show V.int (0 + (i : Int)) = V.int (i : Int); rw [Int.zero_add])⟩
theorem wk_list {a : Addr} {xs : List V} : Walk (Itl K a) xs.length (fun H => SqL K H a xs) fun i H x H' => H' = H ∧ xs[i]? = some x := walk_list
theorem wk_tup {a : Addr} {xs : List V} : Walk (Itt K a) xs.length (fun H => SqT K H a xs) fun i H x H' => H' = H ∧ xs[i]? = some x := walk_tup
theorem wk_str {z : Str} : Walk (Its z) z.cps.size (fun _ => True) fun i H x H' => H' = H ∧ ∃ c, z.cps[i]? = some c ∧ x = .str ⟨#[c]⟩ := walk_str
theorem w_gtup {n : Nat} {t : TGs} {a : Addr} {xs : List V} (h : SqT K H a xs) (hl : xs.length = n) (k : t xs σ H nx) : gTup K n t (.ref a) σ H nx := ⟨a, xs, rfl, h, hl, k⟩
theorem w_gcons {t : TG} {u : TGs} {v : V} {vs : List V} (k : t v σ H fun σ' H' => u vs σ' H' nx) : gCons t u (v :: vs) σ H nx := ⟨v, vs, rfl, k⟩
theorem w_gnil (k : nx σ H) : gNil [] σ H nx := ⟨rfl, k⟩
theorem w_tyes {Q : Bool → Hp → Prop} (k : Q true H) : tYes σ H Q := k
theorem w_max {i j : Int} (k : Q (.int (if j > i then j else i)) H) : ∃ a b, [V.int i, V.int j] = [V.int a, V.int b] ∧ Q (.int (if b > a then b else a)) H := ⟨i, j, rfl, k⟩
end

/-! ### kinds of things -/
/-- what isinstance asks of an error's class -/
structure EI (K : PySem.W.Frag) (C : Addr) : Prop where
  hcl : (PySem.W.clsIn K C).isSome = true
  hga : PySem.W.findIn K (.ref C) "__getattribute__" = some (some (.builtin "BaseException.__getattribute__"))
  hgt : PySem.W.findIn K (.ref C) "__getattr__" = some none
  hsub : PySem.W.subIn K (.ref C) (.type "BaseException") = some true
  hc : PySem.W.findIn K (.ref C) "__class__" = some (some (.builtin "object.__class__"))
  hn : PySem.W.specialIn K (.builtin "object.__class__") "__get__" = some (some (.builtin "getset_descriptor.__get__"))
  htk : PySem.W.takesIn K (.builtin "object.__class__") = some true
  hm : PySem.W.mroIn K C (.type "object") = some true
  k1 : PySem.W.kitOne K (.ref C) (.type "int") = some false
  k2 : PySem.W.kitOne K (.ref C) (.type "bool") = some false
  k3 : PySem.W.kitOne K (.ref C) (.type "str") = some false
  k4 : PySem.W.kitOne K (.ref C) (.type "list") = some false
  k5 : PySem.W.kitOne K (.ref C) (.type "tuple") = some false
  k6 : PySem.W.kitOne K (.ref C) (.type "dict") = some false
theorem kit_no {K : PySem.W.Frag} {C : Addr} {T : String} (hm : PySem.W.kitMeta T = true) (h : PySem.W.subIn K (.ref C) (.type T) = some false) : PySem.W.kitOne K (.ref C) (.type T) = some false := by
  unfold PySem.W.kitOne PySem.W.kitCls
  rw [if_neg (by intro z; cases z)]
  show (if PySem.W.kitMeta T = true then PySem.W.subIn K (.ref C) (.type T) else none) = some false
  rw [if_pos hm, h]
/-- a thing that stands, not at p -/
inductive Kn (K : PySem.W.Frag) (p : Addr) (H : Hp) : V → Prop
  | int (i : Int) : Kn K p H (.int i)
  | str (z : Str) : Kn K p H (.str z)
  | bl (b : Bool) : Kn K p H (.bl b)
  | non : Kn K p H .non
  | lst {a : Addr} {xs : List V} (n : a ≠ p) (e : H a = some (.lst xs)) : Kn K p H (.ref a)
  | tup {a : Addr} {xs : List V} (n : a ≠ p) (e : H a = some (.tup xs)) : Kn K p H (.ref a)
  | dct {a : Addr} {kvs : List (Key × V)} (n : a ≠ p) (e : H a = some (.dK kvs)) : Kn K p H (.ref a)
  | err {a d C : Addr} {fs : List (Str × V)} (n : a ≠ p) (m : d ≠ p) (e : H a = some (exo a C (some d))) (f : H d = some (exd d fs)) (T : EI K C) : Kn K p H (.ref a)
theorem Kn.mono {K : PySem.W.Frag} {p : Addr} {H H' : Hp} {v : V} (h : Kn K p H v) (e : Bt p H H') : Kn K p H' v := by
  cases h with
  | int i => exact .int i
  | str z => exact .str z
  | bl b => exact .bl b
  | non => exact .non
  | lst n q => exact .lst n (e _ _ n q)
  | tup n q => exact .tup n (e _ _ n q)
  | dct n q => exact .dct n (e _ _ n q)
  | err n m q f T => exact .err n m (e _ _ n q) (e _ _ m f) T
def isInt : V → Bool
  | .int _ => true
  | .bl _ => true
  | _ => false
def isBool : V → Bool
  | .bl _ => true
  | _ => false
def isStr : V → Bool
  | .str _ => true
  | _ => false
/-- isinstance(x, int), bool, str -/
def rIs (K : PySem.W.Frag) (n : String) (f : V → Bool) : List V → Hp → VK → Prop := fun xs H Q => ∃ p v, xs = [v, .ty n] ∧ Kn K p H v ∧ Q (.bl (f v)) H
section
variable {X : Cx} {n : String} {f : V → Bool}
theorem is_of (hi : ∀ t, kitB "int" n = some (f (.int t))) (hb : ∀ t, kitB "bool" n = some (f (.bl t))) (hs : ∀ t, kitB "str" n = some (f (.str t))) (hn : kitB "NoneType" n = some (f .non)) (hl : ∀ a, kitB "list" n = some (f (.ref a))) (ht : ∀ a, kitB "tuple" n = some (f (.ref a))) (hd : ∀ a, kitB "dict" n = some (f (.ref a)))
    (he : ∀ C a, EI X.K C → PySem.W.kitOne X.K (.ref C) (.type n) = some (f (.ref a))) : CallR X (.builtin "isinstance") (rIs X.K n f) := by
  intro pins s σ H xs us Q I r h
  obtain ⟨p, v, rfl, kn, q⟩ := h
  have base : ∀ {t : Value}, TyX X.K H v t → PySem.W.kitOne X.K t (.type n) = some (f v) → wpAny (model X.prog X.w) X.A (call (.builtin "isinstance") us) (EP X pins σ Q) X.xe s := fun {t} ty k =>
    call_isi pins s σ H [v, .ty n] us Q I r ⟨v, .ty n, t, .type n, f v, rfl, .ty n, ty, k, q⟩
  cases kn with
  | int i => exact base (.base (.int i)) (kit_ty (hi _))
  | str z => exact base (.base (.str z)) (kit_ty (hs _))
  | bl b => exact base (.base (.bl b)) (kit_ty (hb _))
  | non => exact base (.base .non) (kit_ty hn)
  | lst _ e => exact base (.base (.lst e)) (kit_ty (hl _))
  | tup _ e => exact base (.base (.tup e)) (kit_ty (ht _))
  | dct _ e => exact base (.base (.dK e)) (kit_ty (hd _))
  | @err a d C fs _ _ e g T =>
    cases r with
    | @cons _ u1 _ _ r1 r2 =>
    cases r2 with
    | @cons _ u2 _ _ r2 r3 =>
    cases r3
    cases (show u1 = Value.ref a from r1)
    cases (show u2 = Value.type n from r2)
    obtain ⟨t1, ho⟩ := exo_at I.hok e
    obtain ⟨mA, ⟨od, es, ep, hd', _⟩, _⟩ := exd_at I.hok g
    refine PySem.W.kia_one (PySem.W.kitx_exc T.hcl T.hga T.hgt T.hsub T.hc T.hn T.htk T.hm) I.kIn (show PySem.W.InstAt s.heap a _ C (some od) from ⟨ho, rfl, rfl, hd'⟩) (he C a T) (fun z => nomatch z) fun tk => ⟨.bl _, H, I.tok tk, rfl, q⟩
theorem call_isInt : CallR X (.builtin "isinstance") (rIs X.K "int" isInt) := by
  refine is_of ?_ ?_ ?_ ?_ ?_ ?_ ?_ (fun C a T => T.k1) <;> first | (intros; show kitB _ _ = some true; decide +kernel) | (intros; show kitB _ _ = some false; decide +kernel)
theorem call_isBool : CallR X (.builtin "isinstance") (rIs X.K "bool" isBool) := by
  refine is_of ?_ ?_ ?_ ?_ ?_ ?_ ?_ (fun C a T => T.k2) <;> first | (intros; show kitB _ _ = some true; decide +kernel) | (intros; show kitB _ _ = some false; decide +kernel)
theorem call_isStr : CallR X (.builtin "isinstance") (rIs X.K "str" isStr) := by
  refine is_of ?_ ?_ ?_ ?_ ?_ ?_ ?_ (fun C a T => T.k3) <;> first | (intros; show kitB _ _ = some true; decide +kernel) | (intros; show kitB _ _ = some false; decide +kernel)
/-- x is True, x an int or a truth -/
def rNotTr : R2 := fun x y H Q => (isInt x = true) ∧ ∃ b, y = .bl b ∧ Q (.bl (!decide (x = .bl b))) H
theorem op_isnotb : OpR X (compareOp .IsNot) rNotTr := by
  intro pins s σ H x y v u Q I rx ry h
  obtain ⟨hx, b, rfl, q⟩ := h
  cases (show u = Value.bool b from ry)
  cases x with
  | int i =>
    obtain ⟨t, rfl⟩ := rx
    exact wpAny_isNot_other rfl (fun z => nomatch z) ⟨.bl true, H, I, rfl, by simpa using q⟩
  | bl a =>
    cases (show v = Value.bool a from rx)
    by_cases e : a = b
    · subst e
      exact wpAny_isNot_self rfl ⟨.bl false, H, I, rfl, by simpa using q⟩
    · exact wpAny_isNot_other rfl (fun z => e (Value.bool.inj z)) ⟨.bl true, H, I, rfl, by simpa [e] using q⟩
  | _ => cases hx
end
end Dz

set_option Elab.async false
set_option linter.all false
set_option maxRecDepth 100000
set_option maxHeartbeats 2000000
/-! What the laws' own draws promise. -/
namespace Dz
open PySem PySem.Spec PyProof.Rows L2
/-- a bag of draws at p, from which at most c times a number was made -/
def Bg (H : Hp) (p : Addr) (c : Int) : Prop := ∃ a b k : Int, H p = some (.lst [.int a, .int b, .int k]) ∧ 0 ≤ a ∧ 0 ≤ b ∧ b < 2147483629 ∧ 0 ≤ k ∧ k ≤ c
theorem Bg.more {H : Hp} {p : Addr} {c d : Int} (h : Bg H p c) (e : c ≤ d) : Bg H p d := by
  obtain ⟨a, b, k, h1, h2, h3, h4, h5, h6⟩ := h
  exact ⟨a, b, k, h1, h2, h3, h4, h5, by omega⟩
theorem Bg.same {H H' : Hp} {p : Addr} {c : Int} (h : Bg H p c) (e : Same H H') : Bg H' p c := by
  obtain ⟨a, b, k, h1, r⟩ := h
  exact ⟨a, b, k, e _ _ h1, r⟩
theorem Bg.ne {H : Hp} {p q : Addr} {c : Int} (h : Bg H p c) (e : H q = none) : q ≠ p := by
  obtain ⟨a, b, k, h1, r⟩ := h
  exact (ne_of_none h1 e).symm
/-- _law_cell -/
def spCel (K : PySem.W.Frag) : Sp := fun vs H Q _ => ∃ (a : Addr) (ns : List Int) (k : Int), vs = [.ref a, .int k] ∧ SqL K H a (ns.map V.int) ∧ ns.length ≤ 63 ∧ 0 ≤ k ∧ k ≤ 1000 ∧ ∀ (z : Int) H', Same H H' → Q (.int z) H'
/-- _law_bag -/
def spBag : Sp := fun vs H Q _ => ∃ z : Int, vs = [.int z] ∧ ∀ p H', H p = none → Same H H' → Bg H' p 0 → Q (.ref p) H'
/-- _law_take -/
def spTake : Sp := fun vs H Q _ => ∃ (p : Addr) (n c : Int), vs = [.ref p, .int n] ∧ Bg H p c ∧ c ≤ 1000000 ∧ 0 < n ∧ n.natAbs < 2 ^ 200 ∧ ∀ (d : Int) H', 0 ≤ d → d < n → Bt p H H' → Bg H' p (c + 1) → Q (.int d) H'
theorem take_now {H : Hp} {Q : VK} {E : XK} {p : Addr} {n c : Int} (b : Bg H p c) (hc : c ≤ 1000000) (h0 : 0 < n) (hn : n.natAbs < 2 ^ 200)
    (k : ∀ (d : Int) H', 0 ≤ d → d < n → Bt p H H' → Bg H' p (c + 1) → Q (.int d) H') : spTake [.ref p, .int n] H Q E := ⟨p, n, c, rfl, b, hc, h0, hn, k⟩
theorem take_num {b k m : Int} (h0 : 0 ≤ b) (h1 : b < 2147483629) (h2 : 0 ≤ k) (h3 : k ≤ 1000000) (h4 : 0 ≤ m) (h5 : m ≤ 1000) : (b + 7919 * (k + 1) + m).natAbs < 2 ^ 64 := by
  have : b + 7919 * (k + 1) + m < 2 ^ 40 := by omega
  omega
theorem take_num2 {b k : Int} (h0 : 0 ≤ b) (h1 : b < 2147483647) (h2 : 0 ≤ k) (h3 : k ≤ 1000000) : (b + 15485863 * (k + 1)).natAbs < 2 ^ 64 := by
  have : b + 15485863 * (k + 1) < 2 ^ 50 := by omega
  omega
theorem ints3 {a b k : Int} : ([.int a, .int b, .int k] : List V) = [V.int a, V.int b, V.int k] := rfl
theorem atI0 {x : V} {l : List V} : atI (x :: l) 0 = some x := atI_of (Int.le_refl _) rfl
theorem atI1 {x y : V} {l : List V} : atI (x :: y :: l) 1 = some y := atI_of (by decide) rfl
theorem atI2 {x y z : V} {l : List V} : atI (x :: y :: z :: l) 2 = some z := atI_of (by decide) rfl
theorem mulW_small {i j : Int} (h1 : i.natAbs < 2 ^ 300) (h2 : j.natAbs < 2 ^ 300) : CMulW i j := wide_mul h1 h2 (by decide) (by decide) (by decide)
end Dz

set_option Elab.async false
set_option linter.all false
set_option maxRecDepth 100000
set_option maxHeartbeats 2000000
namespace Dz
open PySem PySem.Spec PyProof.Rows L2
/-- a new dict; a new error of the class at C -/
def NewD (H : Hp) (Q : VK) : Prop := ∀ p, H p = none → Q (.ref p) (upd H p (.dK []))
def NewE (C : Addr) (f : Str) (y : V) (H : Hp) (Q : VK) : Prop := ∀ a d, H a = none → H d = none → d ≠ a → Q (.ref a) (upd (upd H d (exd d [(f, y)])) a (exo a C (some d)))
section
variable {σ : L2.St} {H : Hp} {Q : VK} {te tl to : TE} {ta : TA} {K : PySem.W.Frag}
theorem w_sl {r : V → Option Int → Option Int → Hp → VK → Prop} {t1 t2 : TO} (k : te σ H fun x H1 => t1 σ H1 fun l H2 => t2 σ H2 fun u H3 => r x l u H3 Q) : tSl r te t1 t2 σ H Q := k
theorem w_nopart {Q : Option Int → Hp → Prop} (k : Q none H) : tNoPart σ H Q := k
theorem w_part {Q : Option Int → Hp → Prop} (k : te σ H fun x H1 => ∃ i, x = .int i ∧ Q (some i) H1) : tPart te σ H Q := k
theorem w_int {Q : Int → Prop} {i : Int} (k : Q i) : ∃ j, V.int i = .int j ∧ Q j := ⟨i, rfl, k⟩
theorem w_m1 {r : V → List V → Hp → VK → Prop} (k : to σ H fun x H1 => (∃ a, x = .str a) ∧ te σ H1 fun y H2 => r x [y] H2 Q) : tM1 r to te σ H Q := k
theorem w_strA {a : Str} {P : Prop} (k : P) : (∃ b, V.str a = .str b) ∧ P := ⟨⟨a, rfl⟩, k⟩
theorem w_rEqr {x y : V} (hs : scal x y = true) (k : Q (.bl (decide (x = y))) H) : rEq x y H Q := ⟨hs, k⟩
theorem w_chain {r r' : R2} {ta tb tc : TE} (k : ta σ H fun x H1 => tb σ H1 fun y H2 => r x y H2 fun z H3 => ∃ k, z = .bl k ∧ (if k = true then tc σ H3 fun w' H4 => r' y w' H4 Q else Q (.bl false) H3)) : tChain r r' ta tb tc σ H Q := k
theorem w_vei (k : ta σ H fun vs H1 => ∃ (a C : Addr) (ws : List V), vs = .ref a :: ws ∧ ws.length ≤ 1000 ∧ OexC K C ∧ H1 a = some (exo a C none) ∧ Q .non H1) : tVeI K ta σ H Q := k
theorem w_revL (k : te σ H fun x H1 => ∃ a xs, x = .ref a ∧ SqL K H1 a xs ∧ NewL xs.reverse H1 Q) : tRevL K te σ H Q := k
theorem w_slL {a : Addr} {xs : List V} {lo hi : Option Int} (h : SqL K H a xs) (k : NewL (cutV xs lo hi) H Q) : rSlL K (.ref a) lo hi H Q := ⟨a, xs, rfl, h, k⟩
theorem w_cat {l b : Addr} {xs zs : List V} (h1 : H l = some (.lst xs)) (h2 : H b = some (.lst zs)) (hz : xs.length + zs.length ≤ sizeLine) (k : NewL (xs ++ zs) H Q) : rCat (.ref l) (.ref b) H Q := ⟨l, b, xs, zs, rfl, rfl, h1, h2, hz, k⟩
theorem w_dnew (k : NewD H Q) : tDNewK σ H Q := k
theorem w_disp {trs : List (TE × TE)} (k : ∀ p G, H p = none → Same H G → G p = some (.dK []) → tPairs trs σ G fun ps H2 => H2 p = some (.dK []) ∧ ∃ kvs : List (Key × V), ps = kvs.map (fun kv => (kV kv.1, kv.2)) ∧ kvs.length ≤ 15 ∧ Q (.ref p) (upd H2 p (.dK (mergeK [] kvs)))) : tDisp trs σ H Q := fun p np => k p _ np (same_new np) upd_same
/-- self.f = y of an error that has no dict yet -/
theorem w_ost {f : Str} {nx : L2.St → Hp → Prop} {rt : VK} {bk ct : L2.St → Hp → Prop} (k : te σ H fun y H1 => to σ H1 fun x H2 => ∃ a C : Addr, x = .ref a ∧ OexC K C ∧ PySem.W.findIn K (.ref C) f = some none ∧
  ((H2 a = some (exo a C none) ∧ ∀ dx, H2 dx = none → dx ≠ a → nx σ (upd (upd H2 dx (exd dx [(f, y)])) a (exo a C (some dx)))) ∨
    ∃ (dx : Addr) (fs : List (Str × V)), H2 a = some (exo a C (some dx)) ∧ H2 dx = some (exd dx fs) ∧ fs.length ≤ 900 ∧ nx σ (upd H2 dx (exd dx ((f, y) :: fs))))) : tOst K f to te ⟨nx, rt, bk, ct⟩ σ H := k
end
/-- C.__init__(self, found) -/
def spErr (f : Str) (C : Addr) : Sp := fun vs H Q _ => ∃ (a : Addr) (y : V), vs = [.ref a, y] ∧ H a = some (exo a C none) ∧ ∀ d, H d = none → d ≠ a → Q .non (upd (upd H d (exd d [(f, y)])) a (exo a C (some d)))
/-- a class of errors as the top has made it -/
structure Er (K : PySem.W.Frag) (mg : Str → Option Value) (x f : Str) (C fI : Addr) : Prop where
  mg : mg x = some (.ref C)
  oex : OexC K C
  ini : PySem.W.findIn K (.ref C) "__init__" = some (some (.ref fI))
  ty : PySem.W.typeIn K (.ref fI) = some (.type "function")
  nof : PySem.W.findIn K (.ref C) f = some none
  ei : EI K C
/-- x(e) as a value -/
theorem er_call {X : Cx} {x f : Str} {C fI : Addr} {k : Nat} (T : Er X.K X.mg x f C fI) (G : Kp X.prog X.w X.K X.mg X.base CX0 k fI ["self", "found"] [] (spErr f C)) (hcl : Calm X.A) (hr : Room (k + 1) X.A) :
    CallR X (.ref C) (fun vs H Q => ∃ y, vs = [y] ∧ NewE C f y H Q) := by
  intro pins s σ H vs us Q I r h
  obtain ⟨fd, F, b⟩ := G.ex
  obtain ⟨y, rfl, q⟩ := h
  refine call_err T.oex T.ini T.ty F hcl hr b pass0 pins s σ H [y] us Q I r ⟨(by show 1 ≤ 1000; decide), fun a na => ⟨a, y, rfl, upd_same, fun d nd hd => ⟨rfl, ?_⟩⟩⟩
  have nd' : H d = none := by rw [upd_ne hd] at nd; exact nd
  have e : upd (upd (upd H a (exo a C none)) d (exd d [(f, y)])) a (exo a C (some d)) = upd (upd H d (exd d [(f, y)])) a (exo a C (some d)) := by
    funext z
    unfold upd
    by_cases h1 : z = a
    · rw [if_pos h1, if_pos h1]
    · rw [if_neg h1, if_neg h1, if_neg h1]
  rw [e]
  exact q a d na nd' hd

/-! ### lists and texts -/
theorem map_at {ns : List Int} {k : Int} (h0 : 0 ≤ k) (h : k < (ns.map V.int).length) : ∃ z, z ∈ ns ∧ atI (ns.map V.int) k = some (.int z) := by
  rw [List.length_map] at h
  have hk : k.toNat < ns.length := by omega
  exact ⟨ns[k.toNat], List.getElem_mem _, atI_of h0 (by rw [List.getElem?_map, List.getElem?_eq_getElem hk]; rfl)⟩
theorem pick {ns : List Int} {l : List V} {k : Int} {m : Int} (e : l = ns.map V.int) (h0 : 0 ≤ k) (h1 : k < m) (hm : m ≤ ns.length) : ∃ z, z ∈ ns ∧ atI l k = some (.int z) := by
  subst e
  exact map_at h0 (by rw [List.length_map]; omega)
theorem cut_ints (ns : List Int) (lo hi : Option Int) : ∃ ms : List Int, cutV (ns.map V.int) lo hi = ms.map V.int :=
  ⟨(ns.drop (HT.sIx (ns.map V.int).length 0 lo)).take (HT.sIx (ns.map V.int).length (ns.map V.int).length hi - HT.sIx (ns.map V.int).length 0 lo), by unfold cutV; rw [← List.map_drop, ← List.map_take]⟩
/-- texts of plain signs -/
def Asc (z : Str) : Prop := ∀ c ∈ z.cps.toList, c < 128
theorem asc_ok {z : Str} (h : Asc z) : PyData.strOk z = true := by
  unfold PyData.strOk
  rw [Array.all_eq_true']
  intro c hc
  have := h c (by simpa using hc)
  exact decide_eq_true (by omega)
theorem dp_strs {K : PySem.W.Frag} {H : Hp} : ∀ zs : List Str, DpAll K H (zs.map V.str) (zs.map PyData.str)
  | [] => .nil
  | z :: zs => .cons (.str z) (dp_strs zs)
theorem lay_strs : ∀ {zs : List Str}, (∀ z ∈ zs, Asc z) → PyData.canLayAll0 (zs.map PyData.str) = true
  | [], _ => rfl
  | z :: zs, h => by
    have h1 := asc_ok (h z List.mem_cons_self)
    have h2 := lay_strs fun y hy => h y (List.mem_cons_of_mem _ hy)
    simp only [List.map_cons, PyData.canLayAll0, PyData.canLay0, h1, h2, Bool.and_self]
theorem dep_strs : ∀ zs : List Str, PyData.depthAll (zs.map PyData.str) = 0
  | [] => rfl
  | z :: zs => by simp only [List.map_cons, PyData.depthAll, PyData.depth, dep_strs zs]; rfl
theorem shaped_strs {zs : List Str} (h : ∀ z ∈ zs, Asc z) : SeqAt.shaped (.list (zs.map PyData.str)) = true := by
  unfold SeqAt.shaped
  have h1 := lay_strs h
  have h2 := dep_strs zs
  simp only [PyData.canLay0, PyData.depth, h1, h2]
  decide
theorem eqv_nil (ds : List PyData) : PyData.eqv (.list ds) (.list []) = ds.isEmpty := by cases ds <;> simp [PyData.eqv, PyData.eqvAll]
theorem join_len (a : Str) (ha : a.length = 0) : ∀ ys : List Str, (Str.join a ys).length = (ys.map (·.length)).sum
  | [] => rfl
  | [x] => by show x.length = _; simp
  | x :: y :: r => by
    show (x ++ a ++ Str.join a (y :: r)).length = _
    rw [PySem.strLen_append, PySem.strLen_append, join_len a ha (y :: r), ha]
    simp [List.sum_cons]
theorem join_mem (a : Str) (ha : a.cps.toList = []) : ∀ (ys : List Str) (c : Nat), c ∈ (Str.join a ys).cps.toList → ∃ y ∈ ys, c ∈ y.cps.toList
  | [], c, h => by
    have h' : c ∈ (Str.empty : Str).cps.toList := h
    exact absurd h' (by simp [Str.empty])
  | [x], c, h => ⟨x, List.mem_cons_self, h⟩
  | x :: y :: r, c, h => by
    have h' : c ∈ ((x ++ a) ++ Str.join a (y :: r)).cps.toList := h
    have e : ((x ++ a) ++ Str.join a (y :: r)).cps.toList = x.cps.toList ++ a.cps.toList ++ (Str.join a (y :: r)).cps.toList := by
      show ((x.cps ++ a.cps) ++ _).toList = _
      simp
    rw [e, ha, List.append_nil] at h'
    rcases List.mem_append.mp h' with q | q
    · exact ⟨x, List.mem_cons_self, q⟩
    · obtain ⟨z, hz, hc⟩ := join_mem a ha (y :: r) c q
      exact ⟨z, List.mem_cons_of_mem _ hz, hc⟩
theorem int_sml {n : Int} (h : n.natAbs < 2 ^ 150) : (Str.ofString (toString n)).length ≤ 1000 ∧ Asc (Str.ofString (toString n)) := by
  have h1 : (toString n).length ≤ 151 := int_text_length_le (k := 150) (by decide) (PySem.Flt.log2_lt_of (by decide) h)
  constructor
  · rw [PySem.ofString_length]
    omega
  · intro c hc
    rw [Str.ofString_eq_toList] at hc
    have hc' : c ∈ (toString n).toList.map Char.toNat := by simpa using hc
    obtain ⟨d, hd, rfl⟩ := List.mem_map.mp hc'
    exact int_ascii n d hd
theorem atI_mem {l : List V} {k : Int} (h0 : 0 ≤ k) (h1 : k < (l.length : Int)) : ∃ x, x ∈ l ∧ atI l k = some x := by
  have hk : k.toNat < l.length := by omega
  exact ⟨l[k.toNat], List.getElem_mem _, atI_of h0 (List.getElem?_eq_getElem hk)⟩
/-! ### new things, at a heap of which only that is known -/
section
variable {H : Hp} {Q : VK} {xs : List V}
theorem newL_mk (k : ∀ p G, H p = none → Same H G → G p = some (.lst xs) → Q (.ref p) G) : NewL xs H Q := fun p np => k p _ np (same_new np) upd_same
theorem newT_mk (k : ∀ p G, H p = none → Same H G → G p = some (.tup xs) → Q (.ref p) G) : NewT xs H Q := fun p np => k p _ np (same_new np) upd_same
theorem newD_mk (k : ∀ p G, H p = none → Same H G → G p = some (.dK []) → Q (.ref p) G) : NewD H Q := fun p np => k p _ np (same_new np) upd_same
theorem newE_mk {C : Addr} {f : Str} {y : V} (k : ∀ a d G, H a = none → H d = none → d ≠ a → Same H G → G a = some (exo a C (some d)) → G d = some (exd d [(f, y)]) → Q (.ref a) G) : NewE C f y H Q := fun a d na nd h =>
  k a d _ na nd h (fun b o e => by rw [upd_ne (ne_of_none e na), upd_ne (ne_of_none e nd)]; exact e) upd_same (by rw [upd_ne h, upd_same])
end
/-! ### comprehensions whose turns change nothing that stands -/
section
variable {σ : L2.St} {H : Hp} {Q : VK} {te : TE} {g : TG} {tt : TT} {vs : List Nat} {n : Nat} {Gd : Hp → Prop} {Yd : Nat → V → Prop}
theorem lcs_of {α : Type} (cs : List α) (keep : α → Bool) (f : α → V) (hn : cs.length = n) (hz : n ≤ 100000) (hG : ∀ H', Same H H' → Gd H')
    (turn : ∀ i c x H' (R : VK) (S : Hp → Prop), cs[i]? = some c → Yd i x → Same H H' → (keep c = true → ∀ H4, Same H' H4 → R (f c) H4) → (keep c = false → ∀ H4, Same H' H4 → S H4) →
      g x (wipe σ vs) H' fun σ2 H2 => wipe σ2 vs = wipe σ vs ∧ tt σ2 H2 fun b H3 => if b = true then te σ2 H3 R else S H3)
    (fin : ∀ D H', H D = none → Same H H' → H' D = some (.lst ((cs.filter keep).map f)) → Q (.ref D) H') : Lcs n Gd Yd g tt te vs σ H Q := by
  intro D hD
  refine ⟨fun i H' => Same H H' ∧ H' D = some (.lst (((cs.take i).filter keep).map f)), ⟨same_new hD, upd_same⟩, fun i H' _ p => hG H' p.1, ?_, fun H' p => ?_⟩
  · rintro i x H' hi hy ⟨s1, d1⟩
    obtain ⟨c, hc⟩ : ∃ c, cs[i]? = some c := ⟨cs[i]'(by omega), List.getElem?_eq_getElem (by omega)⟩
    have e : cs.take (i + 1) = cs.take i ++ [c] := by rw [List.take_add_one, hc]; rfl
    refine turn i c x H' _ _ hc hy s1 (fun hk H4 s2 => ?_) (fun hk H4 s2 => ?_)
    · refine ⟨_, s2 _ _ d1, ?_, ?_, ?_⟩
      · rw [List.length_map]
        have h1 := List.length_filter_le keep (cs.take i)
        rw [List.length_take] at h1
        rw [sizeLine_eq]
        omega
      · intro b o q
        have nb : b ≠ D := ne_of_none q hD
        rw [upd_ne nb]
        exact s2 _ _ (s1 _ _ q)
      · rw [upd_same, e, List.filter_append, List.map_append]
        simp [hk]
    · refine ⟨s1.trans s2, ?_⟩
      rw [e, List.filter_append]
      simp [hk]
      exact s2 _ _ d1
  · obtain ⟨s1, d1⟩ := p
    rw [List.take_of_length_le (by omega)] at d1
    exact fin D H' hD s1 d1
end
theorem Bt.put {p q : Addr} {H H' : Hp} {o : HO} (e : Bt p H H') (h : H q = none) : Bt p H (upd H' q o) := fun b u n k => by rw [upd_ne (ne_of_none k h)]; exact e b u n k
theorem Bg.put {H : Hp} {p q : Addr} {c : Int} {o : HO} (h : Bg H p c) (n : q ≠ p) : Bg (upd H q o) p c := by
  obtain ⟨a, b, k, h1, r⟩ := h
  exact ⟨a, b, k, by rw [upd_ne n.symm]; exact h1, r⟩
theorem keep_all {α : Type} (cs : List α) : cs.filter (fun _ => true) = cs := by simp
theorem Kn.same {K : PySem.W.Frag} {p : Addr} {H H' : Hp} {v : V} (h : Kn K p H v) (e : Same H H') : Kn K p H' v := h.mono (.of e)
end Dz

set_option Elab.async false
set_option linter.all false
set_option maxRecDepth 100000
set_option maxHeartbeats 2000000
/-! Keywords, defaults; two targets at once. -/
namespace Dz
open PySem PySem.Spec PyProof.Rows L2
/-- a def with defaults that keeps its promise -/
structure Kx (P : Program) (w : World) (K : PySem.W.Frag) (mg : Str → Option Value) (base : Heap) (CX : CXT) (k : Nat) (x qual : Str) (st : Stmt) (dvs : List V) (kws : List (Str × V)) (f : Addr) (ps : List Str) (sp : Sp) : Prop where
  ex : ∃ fd, FnG P w K mg base CX k f fd ps sp ∧ FunD K x qual (defArgs st) (defBody st) (defScope st) dvs kws f fd
/-- such a def of the module -/
structure Dx (K : PySem.W.Frag) (mg : Str → Option Value) (x : Str) (st : Stmt) (dvs : List V) (kws : List (Str × V)) (f : Addr) : Prop where
  ex : ∃ fd, FunD K x x (defArgs st) (defBody st) (defScope st) dvs kws f fd
  mg : mg x = some (.ref f)
  kp : PySem.W.keepIn K (.ref f) = true
/-- f called with n values and the keywords ks -/
def CallKR (X : Cx) (f : Value) (n : Nat) (ks : List Str) (r : List V → List V → Hp → VK → Prop) : Prop :=
  ∀ (pins : List (Addr × Obj)) (s : Shared) (σ : L2.St) (H : Hp) (vs zs : List V) (us ws : List Value) (Q : VK), Inv X pins σ H s → Vals vs us → Vals zs ws → vs.length = n → zs.length = ks.length → r vs zs H Q →
    wpAny (model X.prog X.w) X.A (call f us (ks.zip ws)) (EP X pins σ Q) X.xe s
section
variable {X : Cx} {CX : CXT} {k n : Nat} {f : Addr} {fd : FuncData} {ps ks : List Str} {sp : Sp} {E : XK} {x : Str} {p pos : Pos} {e : Expr} {es : List Expr} {kws : List Keyword} {t tk : TA} {g : List Value → List Value → List Value} {gV : List V → List V → List V}
  {r : List V → List V → Hp → VK → Prop}
theorem callKR_fn (F : FnG X.prog X.w X.K X.mg X.base CX k f fd ps sp) (hg : Calm X.A) (hr : Room k X.A) (hb : KBn X.K fd ps n ks g gV) (hx : Passes CX X E) : CallKR X (.ref f) n ks (fun vs zs H Q => sp (gV vs zs) H Q E) := by
  intro pins s σ H vs zs us ws Q I rv rz l1 l2 h
  refine wpAny_call (codeAny_mono (F.go X.A X.stack s H ⟨us, ks.zip ws⟩ (g us ws) (gV vs zs) Q E hg hr I.env0 (hb.to s us ws I.kIn (rv.length.symm.trans l1) (rz.length.symm.trans l2)) (hb.rel rv rz) h) ?_)
  intro rs s' hq
  match rs, hq with
  | .error e, hq => exact hx pins σ H s e s' I hq
  | .ok (.ret u), hq => exact I.after hq
/-- the call with keywords: the values, the keywords' values, how many of each -/
def tCK (n m : Nat) (r : List V → List V → Hp → VK → Prop) (t tk : TA) : TE := fun σ H Q => t σ H fun vs H1 => tk σ H1 fun zs H2 => vs.length = n ∧ zs.length = m ∧ r vs zs H2 Q
theorem pe_fnK (hc : CallKR X (.ref f) n ks r) (hl : Gl X x) (hm : X.mg x = some (.ref f)) (hk : PySem.W.keepIn X.K (.ref f) = true) (ha : PA X (e :: es) t) (hkw : PK X kws tk)
    (hall : (backToKw pos (keywordEach kws X.env)).all (·.1.isSome) = true := by rfl) (hks : (backToKw pos (keywordEach kws X.env)).filterMap (·.1) = ks := by rfl) (hdb : (x == ("__debug__" : Str)) = false := by decide)
    (he : starEach (e :: es) X.env = (false, eval e X.env) :: starEach es X.env := by rfl) (hpl : ((backTo pos (starEach (e :: es) X.env)).any (·.1) || (backToKw pos (keywordEach kws X.env)).any (·.1.isNone)) = false := by rfl) :
    PE X (.Call (.Name x p) (e :: es) kws pos) (tCK n ks.length r t tk) := by
  constructor
  intro pins s σ H Q I h
  refine wpAny_Call_Name_kw (ld_glob I hl hm ?_ hdb)
  refine PySem.W.callWith_KW (h₀ := X.base) I.ok.mod.kin hk hall (thn (ha.run pos pins s σ H _ I h) ?_) hpl he
  rintro us s1 ⟨vs, H1, I1, rv, q⟩
  refine thn (hkw.run pos pins s1 σ H1 _ I1 q) ?_
  rintro ws s2 ⟨zs, H2, I2, rz, l1, l2, q2⟩
  refine ⟨I2.kIn, ?_⟩
  rw [hks]
  exact hc pins s2 σ H2 vs zs us ws Q I2 rv rz l1 l2 q2
theorem pe_fnK0 (hc : CallKR X (.ref f) 0 ks r) (hl : Gl X x) (hm : X.mg x = some (.ref f)) (hk : PySem.W.keepIn X.K (.ref f) = true) (hkw : PK X kws tk)
    (hall : (backToKw pos (keywordEach kws X.env)).all (·.1.isSome) = true := by rfl) (hks : (backToKw pos (keywordEach kws X.env)).filterMap (·.1) = ks := by rfl) (hdb : (x == ("__debug__" : Str)) = false := by decide)
    (hpl : ((backTo pos (starEach [] X.env)).any (·.1) || (backToKw pos (keywordEach kws X.env)).any (·.1.isNone)) = false := by rfl) :
    PE X (.Call (.Name x p) [] kws pos) (tCK 0 ks.length r tNil tk) := by
  constructor
  intro pins s σ H Q I h
  refine wpAny_Call_Name_kw (ld_glob I hl hm ?_ hdb)
  refine PySem.W.callWith_KW0 (h₀ := X.base) I.ok.mod.kin hk hall ?_ hpl
  refine thn (hkw.run pos pins s σ H _ I h) ?_
  rintro ws s2 ⟨zs, H2, I2, rz, l1, l2, q2⟩
  refine ⟨I2.kIn, ?_⟩
  rw [hks]
  exact hc pins s2 σ H2 [] zs [] ws Q I2 .nil rz l1 l2 q2
end
/-! ### binding -/
section
variable {K : PySem.W.Frag} {x qual : Str} {params : Arguments} {body : List Stmt} {scope : Scope} {dvs : List V} {kws : List (Str × V)} {f : Addr} {fd : FuncData} {ps : List Str}
/-- keyword-only defaults alone; ms: those that lack -/
theorem kb_k (F : FunD K x qual params body scope [] kws f fd) (n : Nat) (ks : List Str) (ms : List (Str × V)) (g : {α : Type} → List α → List α → List α → List α) (hk : kws ≠ []) (hms : ∀ q ∈ ms, q ∈ kws)
    (hrel : ∀ {vs mz zs : List V} {us mv ws : List Value}, Vals vs us → Vals mz mv → Vals zs ws → Vals (g vs mz zs) (g us mv ws))
    (h : ∀ (D : Addr) (doc pm : Value) (an : Option Addr) (cdv ct : Value) (us mv ws : List Value), us.length = n → mv.length = ms.length → ws.length = ks.length →
      KwChain D ((ms.map (·.1)).zip mv) (bindArgs (PySem.W.fnOf x qual params body scope .none (.ref D) doc pm an cdv ct) ⟨us, ks.zip ws⟩) (ps.zip (g us mv ws))) :
    ∃ mv : List Value, KBn K fd ps n ks (fun us ws => g us mv ws) (fun vs zs => g vs (ms.map (·.2)) zs) := by
  obtain ⟨oc, od, dV, kV, doc, pm, an, cdv, ct, osl, rfl, lk, hcd, hD, hK⟩ := F.ex
  rcases hD with ⟨_, rfl⟩ | ⟨z, _⟩
  · rcases hK with z | ⟨D, rfl, hq⟩
    · exact absurd z hk
    · obtain ⟨mv, hl, rk, hks⟩ := kwd_vals (ms := ms) fun q hm => hq q (hms q hm)
      exact ⟨mv, fun s us ws X l1 l2 => BindsTo.of_looks fun M => KwChain.looks X hks (h D doc pm an cdv ct us mv ws l1 hl l2), fun r1 r2 => hrel r1 rk r2⟩
  · exact absurd rfl z
/-- defaults by place alone -/
theorem kb_d (F : FunD K x qual params body scope dvs [] f fd) (n : Nat) (ks : List Str) (g : {α : Type} → List α → List α → List α → List α) (hd : dvs ≠ [])
    (hrel : ∀ {vs ds zs : List V} {us its ws : List Value}, Vals vs us → Vals ds its → Vals zs ws → Vals (g vs ds zs) (g us its ws))
    (h : ∀ (T : Addr) (kV doc pm : Value) (an : Option Addr) (cdv ct : Value) (us its ws : List Value), us.length = n → its.length = dvs.length → ws.length = ks.length →
      ∃ k, bindArgs (PySem.W.fnOf x qual params body scope (.ref T) kV doc pm an cdv ct) ⟨us, ks.zip ws⟩ = seqItems? (.ref T) >>= k ∧ k (some its.toArray) = pure (ps.zip (g us its ws))) :
    ∃ its : List Value, KBn K fd ps n ks (fun us ws => g us its ws) (fun vs zs => g vs dvs zs) := by
  obtain ⟨oc, od, dV, kV, doc, pm, an, cdv, ct, osl, rfl, lk, hcd, hD, hK⟩ := F.ex
  rcases hD with ⟨z, _⟩ | ⟨_, T, o, its, m, rfl, lT, oT, rT⟩
  · exact absurd z hd
  · refine ⟨its, fun s us ws X l1 l2 => ?_, fun r1 r2 => hrel r1 rT r2⟩
    obtain ⟨k, e1, e2⟩ := h T kV doc pm an cdv ct us its ws l1 rT.length.symm l2
    refine BindsTo.of_looks fun M => ?_
    rw [e1]
    exact looks_items X lT oT (.of_pure e2)
/-- keywords where nothing is left out -/
theorem kb_n (F : FunD K x qual params body scope dvs kws f fd) (n : Nat) (ks : List Str) (g : {α : Type} → List α → List α → List α)
    (hrel : ∀ {vs zs : List V} {us ws : List Value}, Vals vs us → Vals zs ws → Vals (g vs zs) (g us ws))
    (h : ∀ (dV kV doc pm : Value) (an : Option Addr) (cdv ct : Value) (us ws : List Value), us.length = n → ws.length = ks.length →
      bindArgs (PySem.W.fnOf x qual params body scope dV kV doc pm an cdv ct) ⟨us, ks.zip ws⟩ = pure (ps.zip (g us ws))) :
    KBn K fd ps n ks (fun us ws => g us ws) (fun vs zs => g vs zs) := by
  obtain ⟨oc, od, dV, kV, doc, pm, an, cdv, ct, osl, rfl, lk, hcd, hD, hK⟩ := F.ex
  exact ⟨fun s us ws X l1 l2 => .of_eq (h dV kV doc pm an cdv ct us ws l1 l2), fun r1 r2 => hrel r1 r2⟩
end
/-- a list's items by their places -/
def perm {α : Type} (is : List Nat) (l : List α) : List α := is.filterMap fun i => l[i]?
theorem vals_perm {xs : List V} {us : List Value} (r : Vals xs us) : ∀ is : List Nat, Vals (perm is xs) (perm is us)
  | [] => .nil
  | i :: is => by
    have t := vals_perm r is
    cases e : xs[i]? with
    | none =>
      have e2 := r.none_of e
      have h1 : perm (i :: is) xs = perm is xs := by unfold perm; rw [List.filterMap_cons_none e]
      have h2 : perm (i :: is) us = perm is us := by unfold perm; rw [List.filterMap_cons_none e2]
      rw [h1, h2]
      exact t
    | some x =>
      obtain ⟨u, e2, rx⟩ := r.get e
      have h1 : perm (i :: is) xs = x :: perm is xs := by unfold perm; rw [List.filterMap_cons_some e]
      have h2 : perm (i :: is) us = u :: perm is us := by unfold perm; rw [List.filterMap_cons_some e2]
      rw [h1, h2]
      exact .cons rx t
theorem callKR_x {X : Cx} {CX : CXT} {k n : Nat} {x qual : Str} {st : Stmt} {dvs : List V} {kws : List (Str × V)} {f : Addr} {ps ks : List Str} {sp : Sp} {E : XK} {gV : List V → List V → List V}
    (G : Kx X.prog X.w X.K X.mg X.base CX k x qual st dvs kws f ps sp) (hg : Calm X.A) (hr : Room k X.A) (hb : ∀ fd, FunD X.K x qual (defArgs st) (defBody st) (defScope st) dvs kws f fd → ∃ g, KBn X.K fd ps n ks g gV) (hx : Passes CX X E) :
    CallKR X (.ref f) n ks (fun vs zs H Q => sp (gV vs zs) H Q E) := by
  obtain ⟨fd, F, D⟩ := G.ex
  obtain ⟨g, b⟩ := hb fd D
  exact callKR_fn F hg hr b hx
theorem callR_x {X : Cx} {CX : CXT} {k : Nat} {x qual : Str} {st : Stmt} {dvs ms : List V} {kws : List (Str × V)} {f : Addr} {ps : List Str} {sp : Sp} {E : XK}
    (G : Kx X.prog X.w X.K X.mg X.base CX k x qual st dvs kws f ps sp) (hg : Calm X.A) (hr : Room k X.A) (hb : ∀ fd, FunD X.K x qual (defArgs st) (defBody st) (defScope st) dvs kws f fd → ∃ ds, Vals ms ds ∧ Binds X.K fd ps ds) (hx : Passes CX X E) :
    CallR X (.ref f) (fun vs H Q => sp (vs ++ ms) H Q E) := by
  obtain ⟨fd, F, D⟩ := G.ex
  obtain ⟨ds, r, b⟩ := hb fd D
  exact callR_fn F hg hr b r hx
section
variable {σ : L2.St} {H : Hp} {Q : VK} {t tk : TA} {i j : Nat} {nx : L2.St → Hp → Prop} {rt : VK} {bk ct : L2.St → Hp → Prop}
theorem w_ck {n m : Nat} {r : List V → List V → Hp → VK → Prop} (k : t σ H fun vs H1 => tk σ H1 fun zs H2 => vs.length = n ∧ zs.length = m ∧ r vs zs H2 Q) : tCK n m r t tk σ H Q := k
theorem w_ckl {vs zs : List V} {n m : Nat} {P : Prop} (h1 : vs.length = n) (h2 : zs.length = m) (k : P) : vs.length = n ∧ zs.length = m ∧ P := ⟨h1, h2, k⟩
theorem w_par (k : t σ H fun vs H1 => ∃ v w, vs = [v, w] ∧ nx ((σ.set i (some v)).set j (some w)) H1) : tPar i j t ⟨nx, rt, bk, ct⟩ σ H := k
theorem w_pair {Q : V → V → Prop} {v w : V} (k : Q v w) : ∃ a b, [v, w] = [a, b] ∧ Q a b := ⟨v, w, rfl, k⟩
theorem w_isN {x : V} (k : Q (.bl (decide (x = .non))) H) : (V.non = .non ∧ Q (.bl (decide (x = .non))) H) := ⟨rfl, k⟩
end
/-- a def with defaults, by its body's walk where no repr is under way and nothing is raised -/
theorem fnG_D {P : Program} {w : World} {K : PySem.W.Frag} {mg : Str → Option Value} {base : Heap} {CX : CXT} {x qual : Str} {params : Arguments} {body : List Stmt} {scope : Scope} {dvs : List V} {kws : List (Str × V)} {f : Addr} {fd : FuncData} {N ps : List Str} {k : Nat} {sp : Sp}
    (F : FunD K x qual params body scope dvs kws f fd) (S : FnScope N ps scope) (len : ∀ vs H Q E, sp vs H Q E → vs.length = ps.length)
    (walk : ∀ (cdv : Value) (A : Around) (outer : List Env) (s : Shared) (H : Hp) (vs : List V) (Q : VK) (E : XK), Calm A → Room k (A.deeper (envOfC qual scope s.heap.objs.size f cdv)) → sp vs H Q E →
      ∃ t, PSs (cxOf CX P w K mg base N qual scope f cdv A outer s H E) body t ∧ t { nx := fun _ H' => Q .non H', rt := Q } (start N vs) H) :
    FnG P w K mg base CX (k + 1) f fd ps sp := by
  obtain ⟨oc, od, dV, kV, doc, pm, an, cdv, ct, osl, rfl, lk, hcd, _, _⟩ := F.ex
  exact fnG_at lk hcd S len fun A outer s H vs Q E hg hr hsp => walk cdv A outer s H vs Q E hg hr hsp
theorem fnG_Dnx {P : Program} {w : World} {K : PySem.W.Frag} {mg : Str → Option Value} {base : Heap} {x qual : Str} {params : Arguments} {body : List Stmt} {scope : Scope} {dvs : List V} {kws : List (Str × V)} {f : Addr} {fd : FuncData} {N ps : List Str} {k : Nat} {sp : Sp}
    (F : FunD K x qual params body scope dvs kws f fd) (S : FnScope N ps scope) (len : ∀ vs H Q E, sp vs H Q E → vs.length = ps.length)
    (walk : ∀ (cdv : Value) (A : Around) (outer : List Env) (s : Shared) (H : Hp) (vs : List V) (Q : VK) (E : XK), Calm A → Room k (A.deeper (envOfC qual scope s.heap.objs.size f cdv)) → sp vs H Q E →
      ∃ t, PSs (cxOf CX0 P w K mg base N qual scope f cdv A outer s H E).nox body t ∧ t { nx := fun _ H' => Q .non H', rt := Q } (start N vs) H) :
    FnG P w K mg base CX0 (k + 1) f fd ps sp := fnG_D F S len fun cdv A outer s H vs Q E hg hr hsp => by
  obtain ⟨t, h, q⟩ := walk cdv A outer s H vs Q E hg hr hsp
  exact ⟨t, h.nox, q⟩
end Dz

set_option Elab.async false
set_option linter.all false
set_option maxRecDepth 100000
set_option maxHeartbeats 2000000
/-! Texts; how long repr's texts are; further steps. -/
namespace Dz
open PySem PySem.Spec PyProof.Rows L2
theorem asc_empty : Asc "" := by
  intro c hc
  have e : (Str.ofString "").cps.toList = [] := rfl
  rw [e] at hc
  cases hc
theorem at_sign {z : Str} {k : Int} (h0 : 0 ≤ k) (h1 : k < z.length) : ∃ c, c ∈ z.cps.toList ∧ atI z.cps.toList k = some c := by
  have hk : k.toNat < z.cps.toList.length := by
    have : z.cps.toList.length = z.length := by simp [Str.length]
    omega
  have e : k = ((k.toNat : Nat) : Int) := (Int.toNat_of_nonneg h0).symm
  obtain ⟨n, hn⟩ : ∃ n : Nat, n = k.toNat := ⟨_, rfl⟩
  rw [← hn] at e hk
  rw [e]
  exact ⟨z.cps.toList[n], List.getElem_mem _, atI_nat (List.getElem?_eq_getElem hk)⟩
/-- texts of one plain sign each -/
def One (zs : List Str) : Prop := ∀ z ∈ zs, z.length = 1 ∧ Asc z
theorem one_nil : One [] := fun _ h => nomatch h
theorem one_sum : ∀ {zs : List Str}, One zs → (zs.map (·.length)).sum = zs.length
  | [], _ => rfl
  | z :: zs, h => by
    rw [List.map_cons, List.sum_cons, (h z List.mem_cons_self).1, one_sum fun y hy => h y (List.mem_cons_of_mem _ hy), List.length_cons]
    omega
theorem one_set {zs : List Str} {j : Nat} {y : Str} (h : One zs) (hy : y.length = 1 ∧ Asc y) : One (zs.set j y) := fun z hz => by
  rcases List.mem_or_eq_of_mem_set hz with q | q
  · exact h z q
  · rw [q]; exact hy
theorem one_more {zs : List Str} {y : Str} (h : One zs) (hy : y.length = 1 ∧ Asc y) : One (zs ++ [y]) := fun z hz => by
  rcases List.mem_append.mp hz with q | q
  · exact h z q
  · rw [List.mem_singleton.mp q]; exact hy
theorem one_join {zs : List Str} (h : One zs) : (Txt.join "" zs).length = zs.length ∧ Asc (Txt.join "" zs) := by
  rw [TL.join_eq]
  refine ⟨(join_len "" rfl zs).trans (one_sum h), fun c hc => ?_⟩
  obtain ⟨y, hy, hc'⟩ := join_mem "" rfl zs c hc
  exact (h y hy).2 c hc'
theorem one_sign {c : Nat} (h : c < 128) : (⟨#[c]⟩ : Str).length = 1 ∧ Asc ⟨#[c]⟩ := ⟨rfl, fun d hd => by
  have : d = c := by simpa using hd
  rw [this]; exact h⟩
theorem asc_app {x y : Str} (hx : Asc x) (hy : Asc y) : Asc (x ++ y) := fun c hc => by
  have e : (x ++ y).cps.toList = x.cps.toList ++ y.cps.toList := by
    show (x.cps ++ y.cps).toList = _
    simp
  rw [e] at hc
  rcases List.mem_append.mp hc with h | h
  · exact hx c h
  · exact hy c h
theorem cut_mem {z : Str} {lo hi : Option Int} {c : Nat} (h : c ∈ (cutS z lo hi).cps.toList) : c ∈ z.cps.toList := by
  unfold cutS at h
  have h' : c ∈ (z.cps.toList.drop (HT.sIx z.length 0 lo)).take (HT.sIx z.length z.length hi - HT.sIx z.length 0 lo) := by simpa using h
  exact List.mem_of_mem_drop (List.mem_of_mem_take h')
theorem asc_cut {z : Str} {lo hi : Option Int} (h : Asc z) : Asc (cutS z lo hi) := fun c hc => h c (cut_mem hc)
/-! ### how long a shown thing is -/
theorem sh_list {ds : List PyData} {B : Nat} (h : ∀ d ∈ ds, d.shown.length ≤ B) : (PyData.list ds).shown.length ≤ (B + 2) * ds.length + 3 := by
  have h1 := listText_len_le (PyData.shownAll ds)
  have h2 : ∀ l : List PyData, (∀ d ∈ l, d.shown.length ≤ B) → ((PyData.shownAll l).map (·.length)).sum ≤ B * l.length := by
    intro l
    induction l with
    | nil => intro _; simp [PyData.shownAll]
    | cons d l ih =>
      intro hl
      have a := hl d List.mem_cons_self
      have b := ih fun e he => hl e (List.mem_cons_of_mem _ he)
      simp only [PyData.shownAll, List.map_cons, List.sum_cons, List.length_cons]
      rw [Nat.mul_add]
      omega
  have h3 := h2 ds h
  have h4 := PyData.shownAll_length ds
  show (listText (PyData.shownAll ds)).length ≤ _
  rw [Nat.add_mul]
  omega
theorem sh_tup {ds : List PyData} {B : Nat} (h : ∀ d ∈ ds, d.shown.length ≤ B) : (PyData.tuple ds).shown.length ≤ (B + 2) * ds.length + 3 := by
  have h1 := tupleText_len_le (PyData.shownAll ds)
  have h2 : ∀ l : List PyData, (∀ d ∈ l, d.shown.length ≤ B) → ((PyData.shownAll l).map (·.length)).sum ≤ B * l.length := by
    intro l
    induction l with
    | nil => intro _; simp [PyData.shownAll]
    | cons d l ih =>
      intro hl
      have a := hl d List.mem_cons_self
      have b := ih fun e he => hl e (List.mem_cons_of_mem _ he)
      simp only [PyData.shownAll, List.map_cons, List.sum_cons, List.length_cons]
      rw [Nat.mul_add]
      omega
  have h3 := h2 ds h
  have h4 := PyData.shownAll_length ds
  show (tupleText (PyData.shownAll ds)).length ≤ _
  rw [Nat.add_mul]
  omega
theorem sh_int {i : Int} (h : i.natAbs.log2 < 1920) : (PyData.int i).shown.length ≤ 1921 := by
  have := int_text_length_le (a := i) (k := 1920) (by decide) h
  show (Str.ofString (toString i)).length ≤ _
  rw [PySem.ofString_length]
  exact this
theorem sh_none : (PyData.none).shown.length ≤ 1921 := by decide +kernel
theorem sh_bool (b : Bool) : (PyData.bool b).shown.length ≤ 1921 := by cases b <;> decide +kernel
theorem sh_str {x : Str} (h : Asc x) : (PyData.str x).shown.length ≤ 10 * x.length + 2 := by
  have := StrLaws.reprText_len x fun c hc => Nat.lt_of_lt_of_le (h c hc) (by decide)
  show (reprText x).length ≤ _
  omega
section
variable {σ : L2.St} {H : Hp} {Q : VK} {te tl to : TE} {t : TA} {K : PySem.W.Frag}
theorem w_slS {z : Str} {lo hi : Option Int} (hz : z.length ≤ sizeLine) (k : Q (.str (cutS z lo hi)) H) : rSlS (.str z) lo hi H Q := ⟨z, rfl, hz, k⟩
theorem w_ixS {z : Str} {i : Int} {c : Nat} (hz : z.length ≤ sizeLine) (ha : atI z.cps.toList i = some c) (k : Q (.str ⟨#[c]⟩) H) : rIxS (.str z) (.int i) H Q := ⟨z, i, c, rfl, rfl, hz, ha, k⟩
theorem w_nn {P : Prop} (k : P) : V.non = V.non ∧ P := ⟨rfl, k⟩
theorem w_bm {T : String} {r : V → List V → Hp → VK → Prop} (k : to σ H fun x H1 => tyV K T x H1 ∧ t σ H1 fun xs H2 => r x xs H2 Q) : tBM K T r to t σ H Q := k
theorem w_bm0 {T : String} {r : V → List V → Hp → VK → Prop} (k : to σ H fun x H1 => tyV K T x H1 ∧ r x [] H1 Q) : tBM0 K T r to σ H Q := k
theorem w_tyL {l : Addr} {xs : List V} {P : Prop} (h : H l = some (.lst xs)) (k : P) : tyV K "list" (.ref l) H ∧ P := ⟨Or.inl ⟨rfl, _, Or.inl (Or.inl h)⟩, k⟩
theorem w_append {l : Addr} {xs : List V} {y : V} (h : H l = some (.lst xs)) (hz : xs.length < sizeLine) (k : Q .non (upd H l (.lst (xs ++ [y])))) : rAppend (.ref l) [y] H Q := ⟨l, xs, y, rfl, rfl, h, hz, k⟩
end
end Dz

set_option Elab.async false
set_option linter.all false
set_option maxRecDepth 100000
set_option maxHeartbeats 2000000
/-! What repr can show, with bounds. -/
namespace Dz
open PySem PySem.Spec PyProof.Rows L2
/-- data that repr shows: at most B signs, at most k deep -/
structure Sh (d : PyData) (B k : Nat) : Prop where
  ok : d.showable = true
  nd : d.hasDict = false
  dp : d.depth ≤ k
  ln : d.shown.length ≤ B
theorem Sh.more {d : PyData} {B k B' k' : Nat} (h : Sh d B k) (e : B ≤ B' := by omega) (f : k ≤ k' := by omega) : Sh d B' k' := ⟨h.ok, h.nd, Nat.le_trans h.dp f, Nat.le_trans h.ln e⟩
theorem Sh.int {i : Int} (h : i.natAbs.log2 < 1920) : Sh (.int i) 1921 0 := ⟨decide_eq_true h, rfl, Nat.le_refl 0, sh_int h⟩
theorem Sh.small {i : Int} (h : i.natAbs < 2 ^ 64) : Sh (.int i) 1921 0 := .int (Nat.lt_of_lt_of_le (PySem.Flt.log2_lt_of (k := 64) (by decide) h) (by decide))
theorem Sh.non : Sh .none 1921 0 := ⟨rfl, rfl, Nat.le_refl 0, sh_none⟩
theorem Sh.bl (b : Bool) : Sh (.bool b) 1921 0 := ⟨rfl, rfl, Nat.le_refl 0, sh_bool b⟩
theorem Sh.str {x : Str} (h : Asc x) : Sh (.str x) (10 * x.length + 2) 0 := ⟨rfl, rfl, Nat.le_refl 0, sh_str h⟩
theorem sh_all {ds : List PyData} {B k : Nat} (h : ∀ d ∈ ds, Sh d B k) : PyData.showableAll ds = true ∧ PyData.hasDictAll ds = false ∧ PyData.depthAll ds ≤ k := by
  induction ds with
  | nil => exact ⟨rfl, rfl, Nat.zero_le _⟩
  | cons d ds ih =>
    have a := h d List.mem_cons_self
    obtain ⟨b1, b2, b3⟩ := ih fun e he => h e (List.mem_cons_of_mem _ he)
    refine ⟨?_, ?_, ?_⟩
    · show (d.showable && PyData.showableAll ds) = true
      rw [a.ok, b1]; rfl
    · show (d.hasDict || PyData.hasDictAll ds) = false
      rw [a.nd, b2]; rfl
    · show max d.depth (PyData.depthAll ds) ≤ k
      have := a.dp
      omega
theorem Sh.list {ds : List PyData} {B k : Nat} (h : ∀ d ∈ ds, Sh d B k) : Sh (.list ds) ((B + 2) * ds.length + 3) (k + 1) := by
  obtain ⟨b1, b2, b3⟩ := sh_all h
  exact ⟨b1, b2, Nat.succ_le_succ b3, sh_list fun d hd => (h d hd).ln⟩
theorem Sh.tup {ds : List PyData} {B k : Nat} (h : ∀ d ∈ ds, Sh d B k) : Sh (.tuple ds) ((B + 2) * ds.length + 3) (k + 1) := by
  obtain ⟨b1, b2, b3⟩ := sh_all h
  exact ⟨b1, b2, Nat.succ_le_succ b3, sh_tup fun d hd => (h d hd).ln⟩
theorem w_show {K : PySem.W.Frag} {H : Hp} {Q : VK} {v : V} {d : PyData} {B k : Nat} (dp : Dp K H v d) (s : Sh d B k) (q : Q (.str d.shown) H) (hk : k ≤ 60 := by decide) (hB : B ≤ 16777216 := by decide) : rShow K [v] H Q :=
  ⟨v, d, rfl, dp, s.ok, s.nd, Nat.le_trans s.dp hk, Nat.le_trans s.ln (Nat.le_trans hB (by decide)), q⟩
/-- lists of texts -/
theorem pickS {zs : List Str} {l : List V} {k m : Int} (e : l = zs.map V.str) (h0 : 0 ≤ k) (h1 : k < m) (hm : m ≤ zs.length) : ∃ z, z ∈ zs ∧ atI l k = some (.str z) := by
  subst e
  have hk : k.toNat < zs.length := by omega
  exact ⟨zs[k.toNat], List.getElem_mem _, atI_of h0 (by rw [List.getElem?_map, List.getElem?_eq_getElem hk]; rfl)⟩
theorem cut_len (a : Str) (lo hi : Option Int) : (cutS a lo hi).length ≤ a.length := by
  have e : (cutS a lo hi).length = ((a.cps.toList.drop (HT.sIx a.length 0 lo)).take (HT.sIx a.length a.length hi - HT.sIx a.length 0 lo)).length := by
    show Array.size _ = _
    simp [cutS]
  rw [e, List.length_take, List.length_drop]
  have : a.cps.toList.length = a.length := Array.length_toList
  omega
theorem app_len (x y : Str) : (x ++ y).length = x.length + y.length := PySem.strLen_append x y
/-- the rest, once for two ways to it (by `apply`: P is found by the first `exact rest`) -/
theorem w_both {P G : Prop} (k : P → G) (h : P) : G := k h
end Dz

set_option Elab.async false
set_option linter.all false
set_option maxRecDepth 100000
set_option maxHeartbeats 2000000
/-! Errors raised and caught; new instances; calls where what is raised is wished for at the caller's slots. -/
namespace Dz
open PySem PySem.Spec PyProof.Rows L2
/-! ### calls at slots -/
def CallRS (X : Cx) (f : Value) (r : L2.St → List V → Hp → VK → Prop) : Prop :=
  ∀ (pins : List (Addr × Obj)) (s : Shared) (σ : L2.St) (H : Hp) (vs : List V) (us : List Value) (Q : VK), Inv X pins σ H s → Vals vs us → r σ vs H Q → wpAny (model X.prog X.w) X.A (call f us) (EP X pins σ Q) X.xe s
def CallKS (X : Cx) (f : Value) (n : Nat) (ks : List Str) (r : L2.St → List V → List V → Hp → VK → Prop) : Prop :=
  ∀ (pins : List (Addr × Obj)) (s : Shared) (σ : L2.St) (H : Hp) (vs zs : List V) (us ws : List Value) (Q : VK), Inv X pins σ H s → Vals vs us → Vals zs ws → vs.length = n → zs.length = ks.length → r σ vs zs H Q →
    wpAny (model X.prog X.w) X.A (call f us (ks.zip ws)) (EP X pins σ Q) X.xe s
def tCBS (r : L2.St → List V → Hp → VK → Prop) (t : TA) : TE := fun σ H Q => t σ H fun vs H1 => r σ vs H1 Q
def tCKS (n m : Nat) (r : L2.St → List V → List V → Hp → VK → Prop) (t tk : TA) : TE := fun σ H Q => t σ H fun vs H1 => tk σ H1 fun zs H2 => vs.length = n ∧ zs.length = m ∧ r σ vs zs H2 Q
section
variable {X : Cx} {W : WX} {k n : Nat} {f C : Addr} {fd : FuncData} {ps ks : List Str} {sp : Sp} {x : Str} {p pos : Pos} {e : Expr} {es : List Expr} {kws : List Keyword} {t tk : TA}
theorem callS (F : Kp X.prog X.w X.K X.mg X.base (L2.CX X.prog X.w) k f ps [] sp) (hg : Calm X.A) (hr : Room k X.A) (tkk : Takes X W) : CallRS X (.ref f) (fun σ vs H Q => sp vs H Q (WE W σ)) := by
  intro pins s σ H vs us Q I rv h
  obtain ⟨fd, G, b⟩ := F.ex
  have hl : (us ++ []).length = ps.length := by rw [List.append_nil]; exact rv.length.symm.trans (G.ln _ _ _ _ h)
  have bb := b s us I.kIn hl
  rw [List.append_nil] at bb
  refine wpAny_call (codeAny_mono (G.go X.A X.stack s H ⟨us, []⟩ us vs Q (WE W σ) hg hr I.env0 bb rv h) ?_)
  intro rs s' hq
  match rs, hq with
  | .error e, hq => exact passAt tkk σ pins H s e s' I hq
  | .ok (.ret u), hq => exact I.after hq
theorem pe_fnS {r : L2.St → List V → Hp → VK → Prop} (hc : CallRS X (.ref f) r) (hl : Gl X x) (hm : X.mg x = some (.ref f)) (hk : PySem.W.keepIn X.K (.ref f) = true) (ha : PA X (e :: es) t) (hdb : (x == ("__debug__" : Str)) = false := by decide)
    (he : starEach (e :: es) X.env = (false, eval e X.env) :: starEach es X.env := by rfl) (hpl : (backTo pos (starEach es X.env)).any (·.1) = false := by rfl) : PE X (.Call (.Name x p) (e :: es) [] pos) (tCBS r t) := by
  constructor
  intro pins s σ H Q I h
  refine wpAny_Call_Name_kw (ld_glob I hl hm ?_ hdb)
  refine PySem.W.callWith_K (h₀ := X.base) I.ok.mod.kin hk (thn (ha.run pos pins s σ H _ I h) ?_) he hpl
  rintro us s1 ⟨vs, H1, I1, rv, q⟩
  exact ⟨I1.kIn, hc pins s1 σ H1 vs us Q I1 rv q⟩
theorem pe_fnKS {r : L2.St → List V → List V → Hp → VK → Prop} (hc : CallKS X (.ref f) n ks r) (hl : Gl X x) (hm : X.mg x = some (.ref f)) (hk : PySem.W.keepIn X.K (.ref f) = true) (ha : PA X (e :: es) t) (hkw : PK X kws tk)
    (hall : (backToKw pos (keywordEach kws X.env)).all (·.1.isSome) = true := by rfl) (hks : (backToKw pos (keywordEach kws X.env)).filterMap (·.1) = ks := by rfl) (hdb : (x == ("__debug__" : Str)) = false := by decide)
    (he : starEach (e :: es) X.env = (false, eval e X.env) :: starEach es X.env := by rfl) (hpl : ((backTo pos (starEach (e :: es) X.env)).any (·.1) || (backToKw pos (keywordEach kws X.env)).any (·.1.isNone)) = false := by rfl) :
    PE X (.Call (.Name x p) (e :: es) kws pos) (tCKS n ks.length r t tk) := by
  constructor
  intro pins s σ H Q I h
  refine wpAny_Call_Name_kw (ld_glob I hl hm ?_ hdb)
  refine PySem.W.callWith_KW (h₀ := X.base) I.ok.mod.kin hk hall (thn (ha.run pos pins s σ H _ I h) ?_) hpl he
  rintro us s1 ⟨vs, H1, I1, rv, q⟩
  refine thn (hkw.run pos pins s1 σ H1 _ I1 q) ?_
  rintro ws s2 ⟨zs, H2, I2, rz, l1, l2, q2⟩
  refine ⟨I2.kIn, ?_⟩
  rw [hks]
  exact hc pins s2 σ H2 vs zs us ws Q I2 rv rz l1 l2 q2
theorem pe_fnKS0 {r : L2.St → List V → List V → Hp → VK → Prop} (hc : CallKS X (.ref f) 0 ks r) (hl : Gl X x) (hm : X.mg x = some (.ref f)) (hk : PySem.W.keepIn X.K (.ref f) = true) (hkw : PK X kws tk)
    (hall : (backToKw pos (keywordEach kws X.env)).all (·.1.isSome) = true := by rfl) (hks : (backToKw pos (keywordEach kws X.env)).filterMap (·.1) = ks := by rfl) (hdb : (x == ("__debug__" : Str)) = false := by decide)
    (hpl : ((backTo pos (starEach [] X.env)).any (·.1) || (backToKw pos (keywordEach kws X.env)).any (·.1.isNone)) = false := by rfl) :
    PE X (.Call (.Name x p) [] kws pos) (tCKS 0 ks.length r tNil tk) := by
  constructor
  intro pins s σ H Q I h
  refine wpAny_Call_Name_kw (ld_glob I hl hm ?_ hdb)
  refine PySem.W.callWith_KW0 (h₀ := X.base) I.ok.mod.kin hk hall ?_ hpl
  refine thn (hkw.run pos pins s σ H _ I h) ?_
  rintro ws s2 ⟨zs, H2, I2, rz, l1, l2, q2⟩
  refine ⟨I2.kIn, ?_⟩
  rw [hks]
  exact hc pins s2 σ H2 [] zs [] ws Q I2 .nil rz l1 l2 q2
end
/-! ### new instances -/
/-- C(..): a new thing at x, its names at dx, then __init__ -/
def NewI (C : Addr) (sp : List V → Hp → VK → XK → Prop) (g : V → List V) (H : Hp) (Q : VK) (E : XK) : Prop := ∀ x dx, H x = none → H dx = none → dx ≠ x → sp (g (.ref x)) (upd (upd H dx (.own x)) x (.ins C dx [])) (fun v H2 => v = .non ∧ Q (.ref x) H2) E
section
variable {X : Cx} {CX : CXT} {W : WX} {k n : Nat} {f C : Addr} {fd : FuncData} {ps ks : List Str} {sp : Sp} {gV : List V → List V → List V} {E : L2.St → XK}
theorem callKS_make0 {g : List Value → List Value → List Value} (M : Mk X.K C f) (F : FnG X.prog X.w X.K X.mg X.base CX k f fd ps sp) (hg : Calm X.A) (hr : Room (k + 1) X.A) (hb : KBn X.K fd ps (n + 1) ks g gV) (hx : ∀ σ pins H s e s', Inv X pins σ H s → CX X.stack H s (E σ) e s' → X.xe e s') :
    CallKS X (.ref C) n ks (fun σ vs zs H Q => NewI C sp (fun x => gV (x :: vs) zs) H Q (E σ)) := by
  intro pins s σ H vs zs us ws Q I rv rz l1 l2 h
  have hq := h (s.heap.objs.size + 1) s.heap.objs.size (I.hok.fresh (Nat.le_succ _)) (I.hok.fresh (Nat.le_refl _)) (Nat.ne_of_lt (Nat.lt_succ_self _))
  have J := Inv.made (C := C) I
  have r1 : Vals (V.ref (s.heap.objs.size + 1) :: vs) (Value.ref (s.heap.objs.size + 1) :: us) := .cons rfl rv
  have m1 : (Value.ref (s.heap.objs.size + 1) :: us).length = n + 1 := by rw [List.length_cons, ← rv.length, l1]
  have cal : Calm (X.A.under (.builtin "type.__call__" ⟨.ref C :: us, ks.zip ws⟩)) := by
    unfold Calm at hg ⊢
    simp [Around.under, Code.guards, Code.isGuard, pushGuards, guardIds, hg]
  refine wpAny_call (make_map (f := f) I.kIn M.makes M.init (beq_iff_eq.mp M.fn) (codeAny_mono (F.go _ X.stack _ _ ⟨Value.ref (s.heap.objs.size + 1) :: us, ks.zip ws⟩ (g (Value.ref (s.heap.objs.size + 1) :: us) ws) _ _ (E σ) cal (hr.make C us (ks.zip ws))
    (J.env0.make C us (ks.zip ws)) (hb.to _ _ ws J.kIn m1 (rz.length.symm.trans l2)) (hb.rel r1 rz) hq) ?_))
  intro rs s' hq'
  match rs, hq' with
  | .error e, hq' => exact hx σ pins _ _ e s' J hq'
  | .ok (.ret u), hq' =>
    obtain ⟨v, H', I3, rv', ev, q3⟩ := J.after hq'
    subst ev
    exact ⟨rv', V.ref (s.heap.objs.size + 1), H', I3, rfl, q3⟩
end
section
variable {X : Cx} {W : WX} {k n : Nat} {f C : Addr} {x qual : Str} {st : Stmt} {dvs : List V} {kws : List (Str × V)} {ps ks : List Str} {sp : Sp} {gV : List V → List V → List V}
/-- C(..), what is raised is wished for at the caller's slots -/
theorem callKS_mk (G : Kx X.prog X.w X.K X.mg X.base (L2.CX X.prog X.w) k x qual st dvs kws f ps sp) (M : Mk X.K C f) (hg : Calm X.A) (hr : Room (k + 1) X.A) (hb : ∀ fd, FunD X.K x qual (defArgs st) (defBody st) (defScope st) dvs kws f fd → ∃ g, KBn X.K fd ps (n + 1) ks g gV) (tk : Takes X W) :
    CallKS X (.ref C) n ks (fun σ vs zs H Q => NewI C sp (fun x => gV (x :: vs) zs) H Q (WE W σ)) := by
  obtain ⟨fd, F, D⟩ := G.ex
  obtain ⟨g, b⟩ := hb fd D
  exact callKS_make0 (E := WE W) M F hg hr b fun σ pins H s e s' I c => passAt tk σ pins H s e s' I c
end
/-! ### raising -/
/-- C(e), an error of the program's own with the field f, to be raised -/
def tMkE (C : Addr) (f : Str) (t : TA) : L2.St → Hp → XK → Prop := fun σ H Q => t σ H fun vs H1 => ∃ y, vs = [y] ∧ ∀ d, H1 d = none → Q (.ref C) (some d) (upd H1 d (.xd [(f, y)]))
def tRz (W : WX) (t : L2.St → Hp → XK → Prop) : TS := fun _ σ H => t σ H fun cls d H' => W cls d σ H'
theorem pmk_err {X : Cx} {x f : Str} {C fI : Addr} {k : Nat} {e : Expr} {es : List Expr} {t : TA} {p pos : Pos} (T : Er X.K X.mg x f C fI) (G : Kp X.prog X.w X.K X.mg X.base CX0 k fI ["self", "found"] [] (spErr f C)) (hcl : Calm X.A) (hr : Room (k + 1) X.A) (hg : Gl X x) (ha : PA X (e :: es) t)
    (hdb : (x == ("__debug__" : Str)) = false := by decide) (hst : starEach (e :: es) X.env = (false, eval e X.env) :: starEach es X.env := by rfl) (hpl : (backTo pos (starEach es X.env)).any (·.1) = false := by rfl) : PMk X (.Call (.Name x p) (e :: es) [] pos) (tMkE C f t) := by
  intro pins s σ H Q I h
  obtain ⟨fd, F, b⟩ := G.ex
  obtain ⟨nm, qn, N, bs, bm, sn, sub, ab, col, dd, k0, k1, k2, k3, k5, hC, hbm⟩ := T.oex.cls
  refine wpAny_Call_Name_kw (ld_glob I hg T.mg ?_ hdb)
  refine PySem.W.callWith_K (h₀ := X.base) I.ok.mod.kin T.oex.kC (thn (ha.run pos pins s σ H _ I h) ?_) hst hpl
  rintro us s1 ⟨vs, H1, I1, r1, y, rfl, q1⟩
  refine ⟨I1.kIn, ?_⟩
  obtain ⟨hp, g, dr, tk, os⟩ := s1
  have above : hp.objs.size ≤ hp.objs.size + 1 := Nat.le_succ _
  have na : H1 (hp.objs.size + 1) = none := I1.hok.fresh above
  have kk : ∀ b o, hp.get? b = some o → ((hp.push (PySem.W.kdv_tup us)).push (PySem.HandSPX.excO C hp.objs.size)).get? b = some o := fun b o e => Heap.get?_push_of_some _ (Heap.get?_push_of_some _ e)
  have got : ((hp.push (PySem.W.kdv_tup us)).push (PySem.HandSPX.excO C hp.objs.size)).get? (hp.objs.size + 1) = some (PySem.HandSPX.excO C hp.objs.size) := by heap_get
  have I2 : Inv X pins σ (upd H1 (hp.objs.size + 1) (exo (hp.objs.size + 1) C none)) ⟨(hp.push (PySem.W.kdv_tup us)).push (PySem.HandSPX.excO C hp.objs.size), g, dr, tk, os⟩ := I1.laid (t' := tk) kk above (exo_ok got)
  have r2 : Vals [V.ref (hp.objs.size + 1), y] (Value.ref (hp.objs.size + 1) :: us) := .cons rfl r1
  have lu1 : us.length = 1 := r1.length.symm
  have ll : (Value.ref (hp.objs.size + 1) :: us ++ []).length = (["self", "found"] : List Str).length := by rw [List.append_nil, List.length_cons, lu1]; rfl
  have bnd := b ⟨(hp.push (PySem.W.kdv_tup us)).push (PySem.HandSPX.excO C hp.objs.size), g, dr, tk, os⟩ (Value.ref (hp.objs.size + 1) :: us) I2.kIn ll
  rw [List.append_nil] at bnd
  have cal : Calm (X.A.under (.builtin "type.__call__" ⟨.ref C :: us, []⟩)) := by
    unfold Calm at hcl ⊢
    simp [Around.under, Code.guards, Code.isGuard, pushGuards, guardIds, hcl]
  have hq : spErr f C [V.ref (hp.objs.size + 1), y] (upd H1 (hp.objs.size + 1) (exo (hp.objs.size + 1) C none)) (fun v H2 => v = .non ∧ ∃ d, H2 (hp.objs.size + 1) = some (exo (hp.objs.size + 1) C (some d)) ∧ H2 d = some (exd d [(f, y)]) ∧ H1 d = none ∧ upd (del H2 (hp.objs.size + 1)) d (.xd [(f, y)]) = upd H1 d (.xd [(f, y)])) E0 := by
    refine ⟨hp.objs.size + 1, y, rfl, upd_same, fun d nd hd => ⟨rfl, d, upd_same, by rw [upd_ne hd, upd_same], by rw [upd_ne hd] at nd; exact nd, ?_⟩⟩
    have nd' : H1 d = none := by rw [upd_ne hd] at nd; exact nd
    funext z
    by_cases h1 : z = d
    · rw [h1, upd_same, upd_same]
    · rw [upd_ne h1, upd_ne h1]
      by_cases h2 : z = hp.objs.size + 1
      · rw [h2, del_same, na]
      · rw [del_ne h2, upd_ne h2, upd_ne h1, upd_ne h2]
  refine wpAny_call (PySem.HandSPX.call_own PySem.F.excBase_ValueError (fun Y => PySem.HandSPX.refsVE_contains Y bm hbm) (I1.kIn _ _ hC) (PySem.W.looks_findIn I1.kIn T.ini) (fun self => PySem.W.bind_fn I1.kIn self T.ty) (by show us.length ≤ sizeLine; rw [lu1]; decide)
    (codeAny_mono (F.go _ X.stack _ _ ⟨Value.ref (hp.objs.size + 1) :: us, []⟩ (Value.ref (hp.objs.size + 1) :: us) _ _ E0 cal (hr.make C us []) (I2.env0.make C us []) bnd r2 hq) ?_))
  intro rs s' hq'
  match rs, hq' with
  | .error er, hq' => exact pass0 pins σ _ _ er s' I2 hq'
  | .ok (.ret u), hq' =>
    obtain ⟨v, H2, os2, bare2, un2, hok2, rv, ev, d, ea, ed, hd1, eH⟩ := hq'
    subst ev
    obtain ⟨h2, g2, d2, t2, os'⟩ := s'
    exact ⟨rv, mk_end (raises_own T.oex.exC T.oex.tyC) I1 above kk un2 hok2 os2 bare2 ea ed hd1 (by rw [eH]; exact q1 d hd1)⟩
theorem ps_rz {X : Cx} {W : WX} {e : Expr} {t : L2.St → Hp → XK → Prop} {pos : Pos} (hc : X.calm = true) (tk : Takes X W) (he : PMk X e t) : PS X (.Raise (some e) none pos) (tRz W t) := ps_raise hc tk he
theorem w_rz {W : WX} {t : L2.St → Hp → XK → Prop} {D : Ends} {σ : L2.St} {H : Hp} (k : t σ H fun cls d H' => W cls d σ H') : tRz W t D σ H := k
theorem w_mke {C : Addr} {f : Str} {t : TA} {σ : L2.St} {H : Hp} {Q : XK} (k : t σ H fun vs H1 => ∃ y, vs = [y] ∧ ∀ d, H1 d = none → Q (.ref C) (some d) (upd H1 d (.xd [(f, y)]))) : tMkE C f t σ H Q := k
/-! ### a try with several clauses, named or not -/
structure Cl where
  c : Value
  i : Option Nat
  ts : Addr → Value → Option Addr → TS
/-- where a suite goes on: the clause's name goes -/
def Ends.gone (D : Ends) : Option Nat → Ends
  | some i => ⟨fun σ H => D.nx (σ.set i none) H, D.rt, fun σ H => D.bk (σ.set i none) H, fun σ H => D.ct (σ.set i none) H⟩
  | none => D
def put (σ : L2.St) (a : Addr) : Option Nat → L2.St
  | some i => σ.set i (some (.ref a))
  | none => σ
/-- what the clauses wish of what the body raises -/
def wN (K : PySem.W.Frag) (Wout : WX) (D : Ends) : List (Option Cl) → WX
  | [] => Wout
  | none :: _ => fun _ _ _ _ => False
  | some q :: l => fun cls d σ H => ∃ b, PySem.W.exmOne K cls q.c = some b ∧ (b = true → ∀ a, H a = none → q.ts a cls d (Ends.gone D q.i) (put σ a q.i) H) ∧ (b = false → wN K Wout D l cls d σ H)
inductive Hds (X : Cx) : List ExceptHandler → List (Option Cl) → Prop
  | nil : Hds X [] []
  | never {hds : List ExceptHandler} : Hds X hds [none]
  | as_ {x n : Str} {c : Value} {i : Nat} {ts : Addr → Value → Option Addr → TS} {b₀ : Stmt} {suite : List Stmt} {np pos' : Pos} {hds : List ExceptHandler} {l : List (Option Cl)} (hi : X.N[i]? = some n) (hln : X.env.kindOf n = some .local) (hc : Names X x c)
      (hsu : ∀ (a : Addr) (oe : Obj) (cls : Value) (d : Option Addr) (pn : List (Addr × Obj)), Zc cls d oe → (∃ vs, oe.data = .fields vs) → PSs (X.suite a ((a, oe) :: pn)) (b₀ :: suite) (ts a cls d)) (r : Hds X hds l) :
      Hds X (.ExceptHandler (some (.Name x np)) (some n) (b₀ :: suite) pos' :: hds) (some ⟨c, some i, ts⟩ :: l)
  | plain {x : Str} {c : Value} {ts : Addr → Value → Option Addr → TS} {b₀ : Stmt} {suite : List Stmt} {np pos' : Pos} {hds : List ExceptHandler} {l : List (Option Cl)} (hc : Names X x c)
      (hsu : ∀ (a : Addr) (oe : Obj) (cls : Value) (d : Option Addr) (pn : List (Addr × Obj)), Zc cls d oe → (∃ vs, oe.data = .fields vs) → PSs (X.suite a ((a, oe) :: pn)) (b₀ :: suite) (ts a cls d)) (r : Hds X hds l) :
      Hds X (.ExceptHandler (some (.Name x np)) none (b₀ :: suite) pos' :: hds) (some ⟨c, none, ts⟩ :: l)
def tTryN (tb : WX → TS) (K : PySem.W.Frag) (Wout : WX) (l : List (Option Cl)) : TS := fun D σ H => tb (wN K Wout D l) D σ H
section
variable {X : Cx} {body : List Stmt} {h₀ : ExceptHandler} {hds : List ExceptHandler} {l : List (Option Cl)} {pos : Pos} {tb : WX → TS} {Wout : WX}
theorem ps_tryN (hs : X.stack = X.env :: X.outer) (hf : X.env.frame = some X.env.locals) (hN : X.N.Nodup) (tk : Takes X Wout)
    (hb : ∀ (W : WX) (pn : List (Addr × Obj)) (xe : Value → Shared → Prop), Takes (X.tr pn xe) W → PassesOwn (model X.prog X.w) X.A X.env xe → PSs (X.tr pn xe) body (tb W))
    (hh : Hds X (h₀ :: hds) l) : PS X (.Try body (h₀ :: hds) [] [] pos) (tTryN tb X.K Wout l) := by
  constructor
  intro pins s σ H D I h
  have ok := I.ok
  have hfr : X.A.frames = some (X.env :: X.outer) := by rw [ok.frames, hs]
  refine wpAny_Try_except ?_
  refine wpAny_mono ((hb (wN X.K Wout D l) (X.pn ++ pins) (fun e s₁ => wpAny (model X.prog X.w) X.A (noteFrame e X.env) (fun _ s₂ => wpAny (model X.prog X.w) X.A (setFlight e none) (fun _ s₃ =>
    wpAny (model X.prog X.w) X.A (handleBy e X.env (h₀ :: hds)) (SP X pins D) X.xe s₃) X.xe s₂) X.xe s₁) ?_ PassesOwn.looking).run [] s σ H D (I.toTry _) h) ?_ fun e s1 he => he
  · rintro u s' ⟨a, B, sI, pins', σ', H', cls, d, rfl, J', nb, up, sky, na, os, ag, w⟩
    have J : Inv X pins σ' H' sI := J'.ofTry ok
    show wpAny (model X.prog X.w) X.A (noteFrame (.ref a) X.env) _ _ _
    refine Sky.land Zc.steady hfr hf (by rw [← hs]; exact sky) fun h3 fl3 up3 => ?_
    have J3 : Inv X pins σ' H' { s' with heap := h3 } := J.landed nb fl3.1 (up.trans up3) os ag
    obtain ⟨oe3, vs3, he3, hz3, hd3⟩ := fl3.there
    have nfr : a ∉ frs (X.env :: X.outer) := fun hm => by
      obtain ⟨_, o', e', hnf⟩ := fl3.2.2.1.mem hm
      rw [he3] at e'
      cases e'
      exact hnf _ hd3
    have nL : a ≠ X.env.locals := fun z => nfr (List.mem_filterMap.mpr ⟨X.env, List.mem_cons_self, by rw [hf, z]⟩)
    have nF : a ∉ X.fs := fun hm => by
      obtain ⟨e, he, q⟩ := List.mem_filterMap.mp hm
      exact nfr (List.mem_filterMap.mpr ⟨e, List.mem_cons_of_mem _ he, q⟩)
    have S3 := J3.suite he3 hd3 na nL nF
    have LT : PySem.W.Looks (model X.prog X.w) h3 (typeOf (.ref a)) cls := fun A Q E s k q => wpAny_typeOf_ref (k _ _ he3) (by rw [hz3.1]; exact q)
    have test : ∀ {x : Str} {c : Value} {np : Pos} {Q : Value → Shared → Prop} {E : Value → Shared → Prop}, Names X x c → Q c { s' with heap := h3 } → wpAny (model X.prog X.w) (X.A.mark (some (.ref a))) (eval (.Name x np) X.env) Q E { s' with heap := h3 } := by
      intro x c np Q E hc q
      obtain ⟨hg, hdbg, hm | ⟨hm, hv, hnn⟩⟩ := hc
      · exact ld_glob (X := X.suite a ((a, oe3) :: (X.pn ++ pins))) S3 hg hm q hdbg
      · exact ld_blt (X := X.suite a ((a, oe3) :: (X.pn ++ pins))) S3 hg hm hv q hnn hdbg
    have go : ∀ {hds' : List ExceptHandler} {l' : List (Option Cl)}, Hds X hds' l' → wN X.K Wout D l' cls d σ' H' → wpAny (model X.prog X.w) X.A (handleBy (.ref a) X.env hds') (SP X pins D) X.xe { s' with heap := h3 } := by
      intro hds' l' hk
      induction hk with
      | never => exact fun w => w.elim
      | nil =>
        intro w
        refine wpAny_handleBy_nil ?_
        obtain ⟨k1, k2, k3, oe, vs, T, oT, ts', he, hz, hd, h1, hr⟩ := id fl3
        unfold PySem.passOn
        refine wpAny_bind (wpAny_field he hd h1 ?_)
        rw [if_neg (show ¬ ((Value.ref T == Value.none) = true) from by simp)]
        have fin : wpAny (model X.prog X.w) X.A (setFlight (.ref a) X.env.frame) (fun _ s4 => wpAny (model X.prog X.w) X.A (throw (.ref a) : Sem Flow) (SP X pins D) X.xe s4) X.xe { s' with heap := h3 } := by
          rw [hf]
          refine HandSPX.setFlight_upZ fl3 fun h4 hh4 up4 => wpAny_throw (tk _ _ ?_)
          exact ⟨a, B, sI, pins, σ', H', cls, d, rfl, J, nb, (up.trans up3).trans up4, .inr (.inr (by rw [hs]; exact hh4)), na, os, ag, w⟩
        first
          | exact wpAny_bind (wpAny_pure (wpAny_bind fin))
          | exact wpAny_bind fin
      | @as_ x n c i ts b₀ suite np pos' hds2 l2 hi hln hc hsu r ih =>
        intro w
        obtain ⟨b, hb1, hyes, hno⟩ := w
        refine wpAny_handleBy_cons (codeAny_handlers_test (test hc ((PySem.W.exm_one (M := model X.prog X.w) J3.kIn LT hb1).here ?_))) (by intro q; cases q)
        cases b with
        | false =>
          show wpAny _ X.A (handleBy (.ref a) X.env hds2) _ _ _
          exact ih (hno rfl)
        | true =>
          refine codeAny_handlers_suite_as ?_
          refine HandSPX.lands_againZ fl3 fun h4 fl4 up4 => ?_
          have J4 : Inv X pins σ' H' { s' with heap := h4 } := J.landed nb fl4.1 ((up.trans up3).trans up4) os ag
          obtain ⟨oe4, vs4, he4, hz4, hd4⟩ := fl4.there
          have S4 := J4.suite he4 hd4 na nL nF
          refine store_ok (X := X.suite a ((a, oe4) :: (X.pn ++ pins))) (v := .ref a) S4 hN hi (.inl hln) rfl (fun s5 S5 => ?_) (.inr hln)
          refine wpAny_mono ((hsu a oe4 cls d (X.pn ++ pins) hz4 ⟨_, hd4⟩).run [] s5 _ H' _ S5 (hyes rfl a na)) (fun f s6 hsp => ?_) (fun _ _ z => False.elim z)
          have end_ : ∀ {σ6 : L2.St} {H6 : Hp} {Q : Shared → Prop}, Inv (X.suite a ((a, oe4) :: (X.pn ++ pins))) [] σ6 H6 s6 → (∀ s7, Inv X pins (σ6.set i none) H6 s7 → Q s7) →
              wpAny (model X.prog X.w) X.A (do bindName X.env n .none; unbindBehindTheSuite X.env n pos') (fun _ s7 => Q s7) X.xe s6 := fun {σ6 H6 Q} S6 hq => gone_ok (S6.unsuite ok) hN hi hln hq
          cases f with
          | next =>
            obtain ⟨σ6, H6, S6, q6⟩ := hsp
            exact end_ S6 fun s7 J7 => ⟨_, _, J7, q6⟩
          | brk =>
            obtain ⟨σ6, H6, S6, q6⟩ := hsp
            exact end_ S6 fun s7 J7 => ⟨_, _, J7, q6⟩
          | cont =>
            obtain ⟨σ6, H6, S6, q6⟩ := hsp
            exact end_ S6 fun s7 J7 => ⟨_, _, J7, q6⟩
          | ret u =>
            obtain ⟨v6, σ6, H6, S6, r6, q6⟩ := hsp
            exact end_ S6 fun s7 J7 => ⟨_, _, _, J7, r6, q6⟩
      | @plain x c ts b₀ suite np pos' hds2 l2 hc hsu r ih =>
        intro w
        obtain ⟨b, hb1, hyes, hno⟩ := w
        refine wpAny_handleBy_cons (codeAny_handlers_test (test hc ((PySem.W.exm_one (M := model X.prog X.w) J3.kIn LT hb1).here ?_))) (by intro q; cases q)
        cases b with
        | false =>
          show wpAny _ X.A (handleBy (.ref a) X.env hds2) _ _ _
          exact ih (hno rfl)
        | true =>
          refine codeAny_handlers_suite ?_
          refine HandSPX.lands_againZ fl3 fun h4 fl4 up4 => ?_
          have J4 : Inv X pins σ' H' { s' with heap := h4 } := J.landed nb fl4.1 ((up.trans up3).trans up4) os ag
          obtain ⟨oe4, vs4, he4, hz4, hd4⟩ := fl4.there
          have S4 := J4.suite he4 hd4 na nL nF
          refine wpAny_mono ((hsu a oe4 cls d (X.pn ++ pins) hz4 ⟨_, hd4⟩).run [] _ _ H' _ S4 (hyes rfl a na)) (fun f s6 hsp => ?_) (fun _ _ z => False.elim z)
          cases f with
          | next =>
            obtain ⟨σ6, H6, S6, q6⟩ := hsp
            exact ⟨_, _, S6.unsuite ok, q6⟩
          | brk =>
            obtain ⟨σ6, H6, S6, q6⟩ := hsp
            exact ⟨_, _, S6.unsuite ok, q6⟩
          | cont =>
            obtain ⟨σ6, H6, S6, q6⟩ := hsp
            exact ⟨_, _, S6.unsuite ok, q6⟩
          | ret u =>
            obtain ⟨v6, σ6, H6, S6, r6, q6⟩ := hsp
            exact ⟨_, _, _, S6.unsuite ok, r6, q6⟩
    exact go hh w
  · intro f s1 hsp
    cases f with
    | next =>
      obtain ⟨σ', H', J', q⟩ := hsp
      exact wpAny_execs_nil ⟨σ', H', J'.ofTry ok, q⟩
    | brk =>
      obtain ⟨σ', H', J', q⟩ := hsp
      exact ⟨σ', H', J'.ofTry ok, q⟩
    | cont =>
      obtain ⟨σ', H', J', q⟩ := hsp
      exact ⟨σ', H', J'.ofTry ok, q⟩
    | ret u =>
      obtain ⟨v, σ', H', J', r, q⟩ := hsp
      exact ⟨v, σ', H', J'.ofTry ok, r, q⟩
end
theorem w_try {tb : WX → TS} {K : PySem.W.Frag} {Wout : WX} {l : List (Option Cl)} {D : Ends} {σ : L2.St} {H : Hp} (k : tb (wN K Wout D l) D σ H) : tTryN tb K Wout l D σ H := k
theorem w_cbs {r : L2.St → List V → Hp → VK → Prop} {t : TA} {σ : L2.St} {H : Hp} {Q : VK} (k : t σ H fun vs H1 => r σ vs H1 Q) : tCBS r t σ H Q := k
theorem w_cks {n m : Nat} {r : L2.St → List V → List V → Hp → VK → Prop} {t tk : TA} {σ : L2.St} {H : Hp} {Q : VK} (k : t σ H fun vs H1 => tk σ H1 fun zs H2 => vs.length = n ∧ zs.length = m ∧ r σ vs zs H2 Q) : tCKS n m r t tk σ H Q := k
theorem w_sfld {K : PySem.W.Frag} {ta tv : TE} {f : Str} {nx : L2.St → Hp → Prop} {rt : VK} {bk ct : L2.St → Hp → Prop} {σ : L2.St} {H : Hp} (k : tv σ H fun y H1 => ta σ H1 fun x H2 => ∃ a C dx fs, x = .ref a ∧ H2 a = some (.ins C dx fs) ∧ Cls K C ∧ NoAttr K C f ∧ fs.length < 1000 ∧ nx σ (upd H2 a (.ins C dx (putF f y fs)))) : sFld K ta tv f ⟨nx, rt, bk, ct⟩ σ H := k
theorem w_fld {K : PySem.W.Frag} {ta : TE} {f : Str} {σ : L2.St} {H : Hp} {Q : VK} (k : ta σ H fun x H1 => ∃ a C dx fs v, x = .ref a ∧ H1 a = some (.ins C dx fs) ∧ Cls K C ∧ NoAttr K C f ∧ fs.lookup f = some v ∧ Q v H1) : tFld K ta f σ H Q := k
theorem w_mth {C : Addr} {m : Str} {r : List V → Hp → VK → Prop} {ta : TE} {t : TA} {σ : L2.St} {H : Hp} {Q : VK} (k : ta σ H fun x H1 => ∃ a dx fs, x = .ref a ∧ H1 a = some (.ins C dx fs) ∧ fs.lookup m = none ∧ t σ H1 fun vs H2 => r (x :: vs) H2 Q) : tMth C m r ta t σ H Q := k
theorem w_xf {a : Addr} {cls : Value} {d : Option Addr} {C : Addr} {f : Str} {te : TE} {σ : L2.St} {H : Hp} {Q : VK} (k : te σ H fun x H1 => x = .ref a ∧ cls = .ref C ∧ ∃ (dd : Addr) (fs : List (Str × V)) (v : V), d = some dd ∧ H1 dd = some (.xd fs) ∧ fs.lookup f = some v ∧ Q v H1) : tXf a cls d C f te σ H Q := k
/-- the fields of such an error can be read -/
theorem Er.xf {K : PySem.W.Frag} {mg : Str → Option Value} {x f : Str} {C fI : Addr} (T : Er K mg x f C fI) : XfC K C := by
  obtain ⟨nm, qn, N, bs, bm, sn, sub, ab, col, dd, k0, k1, k2, k3, k5, hC, hbm⟩ := T.oex.cls
  refine ⟨T.ei.hga, T.ei.hgt, T.oex.exC, ?_⟩
  unfold PySem.W.hasDictIn PySem.W.clsIn
  rw [hC]
  rfl
/-- which clause takes it -/
theorem exm_of {K : PySem.W.Frag} {C D : Addr} {b : Bool} (hD : PySem.W.subIn K (.ref D) (.type "BaseException") = some true) (i : (PySem.W.clsIn K D).isSome = true) (ty : PySem.W.typeIn K (.ref D) = some (.type "type")) (h : PySem.W.subIn K (.ref C) (.ref D) = some b) : PySem.W.exmOne K (.ref C) (.ref D) = some b := by
  unfold PySem.W.exmOne
  rw [hD]
  show PySem.W.kitCls K (.ref C) (.ref D) = some b
  unfold PySem.W.kitCls
  show (if ((PySem.W.clsIn K D).isSome && PySem.W.typeIn K (.ref D) == some (.type "type")) = true then PySem.W.subIn K (.ref C) (.ref D) else none) = some b
  rw [i, ty, h]
  rfl
theorem Er.exm {K : PySem.W.Frag} {mg : Str → Option Value} {x f : Str} {C fI B : Addr} {b : Bool} (T : Er K mg x f C fI) (h : PySem.W.subIn K (.ref B) (.ref C) = some b) : PySem.W.exmOne K (.ref B) (.ref C) = some b := exm_of T.oex.exC T.ei.hcl T.oex.tyC h
/-! ### new lists, not where the modules' table may stand -/
def NewL4 (xs : List V) (H : Hp) (Q : VK) : Prop := ∀ p, H p = none → p ≠ sysModules → Q (.ref p) (upd H p (.lst xs))
theorem size4 {X : Cx} {pins : List (Addr × Obj)} {σ : L2.St} {H : Hp} {s : Shared} (I : Inv X pins σ H s) : s.heap.objs.size ≠ sysModules := by
  obtain ⟨o, es, ep, e, _⟩ := I.mod.glob
  have := Heap.lt_size (I.bk _ _ e)
  intro z
  rw [z] at this
  revert this
  decide
/-- an index of a list, within a try's body (the reading names no part of that context) -/
theorem ix_listT {X : Cx} {K : PySem.W.Frag} (e : X.K = K) : IxR X (rIxL K) := by
  subst e
  exact ix_list
/-- never reached -/
theorem ps_never {X : Cx} {st : Stmt} : PS X st (fun _ _ _ => False) := ⟨fun _ _ _ _ _ _ h => h.elim⟩
theorem pe_never {X : Cx} {e : Expr} : PE X e (fun _ _ _ => False) := ⟨fun _ _ _ _ _ _ h => h.elim⟩
end Dz

set_option Elab.async false
set_option linter.all false
set_option maxRecDepth 100000
set_option maxHeartbeats 2000000
/-! repr of data with empty dicts in it. -/
namespace Dz
open PySem PySem.Spec PyProof.Rows L2
mutual
inductive Dq (K : PySem.W.Frag) (H : Hp) : V → PyData → Prop
  | non : Dq K H .non .none
  | bl (b : Bool) : Dq K H (.bl b) (.bool b)
  | int (i : Int) : Dq K H (.int i) (.int i)
  | str (x : Str) : Dq K H (.str x) (.str x)
  | lst {a : Addr} {xs : List V} {ds : List PyData} : a ≠ sysModules → SqL K H a xs → DqAll K H xs ds → Dq K H (.ref a) (.list ds)
  | tup {a : Addr} {xs : List V} {ds : List PyData} : SqT K H a xs → DqAll K H xs ds → Dq K H (.ref a) (.tuple ds)
  | dct {a : Addr} : H a = some (.dK []) → Dq K H (.ref a) (.dict [])
inductive DqAll (K : PySem.W.Frag) (H : Hp) : List V → List PyData → Prop
  | nil : DqAll K H [] []
  | cons {v : V} {vs : List V} {d : PyData} {ds : List PyData} : Dq K H v d → DqAll K H vs ds → DqAll K H (v :: vs) (d :: ds)
end
section
variable {X : Cx} {pins : List (Addr × Obj)} {σ : L2.St} {H : Hp} {s : Shared}
mutual
theorem Dq.reads (I : Inv X pins σ H s) : ∀ (d : PyData) (v : V) (u : Value), Dq X.K H v d → RelV v u → ∃ as, Reads s.heap u d as ∧ sysModules ∉ as
  | .none, _, _, h, r => by cases h; cases r; exact ⟨_, Reads.none, fun z => nomatch z⟩
  | .bool b, _, _, h, r => by cases h; cases r; exact ⟨_, Reads.bool b, fun z => nomatch z⟩
  | .int i, _, _, h, r => by
    cases h
    obtain ⟨t, rfl⟩ := r
    exact ⟨_, Reads.int i t, fun z => nomatch z⟩
  | .str x, _, _, h, r => by
    cases h
    obtain ⟨t, rfl⟩ := r
    exact ⟨_, Reads.str x t, fun z => nomatch z⟩
  | .list ds, _, _, h, r => by
    cases h with
    | lst na hs ha =>
      cases r
      obtain ⟨its, rv, ⟨o, n, ho, hc, _, hd⟩, _⟩ := I.list hs
      obtain ⟨as, hr, hn⟩ := Dq.readsAll I ds _ its ha rv
      exact ⟨_, Reads.list ho hc hd hr, fun z => by
        rcases List.mem_cons.mp z with e | z
        · exact na e.symm
        · exact hn z⟩
  | .tuple ds, _, _, h, r => by
    cases h with
    | tup hs ha =>
      cases r
      obtain ⟨its, rv, ⟨o, ho, hc, n, hd⟩, _⟩ := I.tuple hs
      obtain ⟨as, hr, hn⟩ := Dq.readsAll I ds _ its ha rv
      exact ⟨_, Reads.tuple ho hc hd hr, hn⟩
  | .dict kvs, _, _, h, r => by
    cases h with
    | dct hs =>
      cases r
      obtain ⟨_, na, vs, kv, o, es, ep, ho, hx, hd, _, pr, _⟩ := dk_of I.hok hs
      cases kv
      cases pr' : es.toList with
      | nil =>
        refine ⟨_, Reads.dict (kvs := []) ho hx.1 hd (by rw [pr']; exact .nil) (by rw [pr']; exact .nil), fun z => ?_⟩
        have z' : sysModules = _ := List.mem_singleton.mp z
        rw [← z'] at na
        exact absurd na (by decide)
      | cons e l =>
        rw [pr'] at pr
        exact absurd pr.length (by simp)
theorem Dq.readsAll (I : Inv X pins σ H s) : ∀ (ds : List PyData) (vs : List V) (us : List Value), DqAll X.K H vs ds → Vals vs us → ∃ as, ReadsAll s.heap us ds as ∧ sysModules ∉ as
  | [], _, _, h, r => by cases h; cases r; exact ⟨_, ReadsAll.nil, fun z => nomatch z⟩
  | d :: ds, _, _, h, r => by
    cases h with
    | cons h1 h2 =>
      cases r with
      | cons r1 r2 =>
        obtain ⟨as, q1, n1⟩ := Dq.reads I d _ _ h1 r1
        obtain ⟨bs, q2, n2⟩ := Dq.readsAll I ds _ _ h2 r2
        exact ⟨_, ReadsAll.cons q1 q2, fun z => by
          rcases List.mem_append.mp z with z | z
          · exact n1 z
          · exact n2 z⟩
end
end
/-- repr(x) -/
def rShowQ (K : PySem.W.Frag) : List V → Hp → VK → Prop := fun xs H Q => ∃ v d, xs = [v] ∧ Dq K H v d ∧ d.showable = true ∧ d.depth ≤ 60 ∧ d.shown.length ≤ sizeLine ∧ Q (.str d.shown) H
theorem call_showQ {X : Cx} {k : Nat} (hg : Calm X.A) (hr : Room k X.A) : CallR X (.builtin "repr") (rShowQ X.K) := by
  intro pins s σ H xs us Q I r h
  obtain ⟨v, d, rfl, hd, hs, hp, hz, q⟩ := h
  cases r with
  | @cons _ u _ _ rv rn =>
  cases rn
  have hu := hr.units
  obtain ⟨as, rd, nas⟩ := Dq.reads I _ _ _ hd rv
  cases hd with
  | non => cases rv; exact PySem.P.repr_of_none ⟨.str _, H, I.tok _, ⟨_, rfl⟩, q⟩
  | bl b => cases rv; exact PySem.P.repr_of_bool ⟨.str _, H, I.tok _, ⟨_, rfl⟩, q⟩
  | int i =>
    obtain ⟨t, rfl⟩ := rv
    exact PySem.P.repr_of_int (of_decide_eq_true hs) ⟨.str _, H, I.tok _, ⟨_, rfl⟩, q⟩
  | str x =>
    obtain ⟨t, rfl⟩ := rv
    exact PySem.P.repr_of_str ⟨.str _, H, I.tok _, ⟨_, rfl⟩, q⟩ hz
  | lst h0 h1 h2 =>
    cases rv
    exact repr_of_reads' rd hs (fun _ => nas) hg (by omega) (fun _ _ e => e) (fun h' u tk hk => ⟨.str _, H, I.kept hk, ⟨_, rfl⟩, q⟩) hz
  | tup h1 h2 =>
    cases rv
    exact repr_of_reads' rd hs (fun _ => nas) hg (by omega) (fun _ _ e => e) (fun h' u tk hk => ⟨.str _, H, I.kept hk, ⟨_, rfl⟩, q⟩) hz
  | dct h1 =>
    cases rv
    exact repr_of_reads' rd hs (fun _ => nas) hg (by omega) (fun _ _ e => e) (fun h' u tk hk => ⟨.str _, H, I.kept hk, ⟨_, rfl⟩, q⟩) hz
/-- data that repr shows: at most B signs, at most k deep -/
structure Sq (d : PyData) (B k : Nat) : Prop where
  ok : d.showable = true
  dp : d.depth ≤ k
  ln : d.shown.length ≤ B
theorem Sq.more {d : PyData} {B k B' k' : Nat} (h : Sq d B k) (e : B ≤ B' := by omega) (f : k ≤ k' := by omega) : Sq d B' k' := ⟨h.ok, Nat.le_trans h.dp f, Nat.le_trans h.ln e⟩
theorem Sh.q {d : PyData} {B k : Nat} (h : Sh d B k) : Sq d B k := ⟨h.ok, h.dp, h.ln⟩
theorem Sq.dct : Sq (.dict []) 2 1 := ⟨rfl, Nat.le_refl 1, by decide +kernel⟩
theorem sq_all {ds : List PyData} {B k : Nat} (h : ∀ d ∈ ds, Sq d B k) : PyData.showableAll ds = true ∧ PyData.depthAll ds ≤ k := by
  induction ds with
  | nil => exact ⟨rfl, Nat.zero_le _⟩
  | cons d ds ih =>
    have a := h d List.mem_cons_self
    obtain ⟨b1, b3⟩ := ih fun e he => h e (List.mem_cons_of_mem _ he)
    refine ⟨?_, ?_⟩
    · show (d.showable && PyData.showableAll ds) = true
      rw [a.ok, b1]; rfl
    · show max d.depth (PyData.depthAll ds) ≤ k
      have := a.dp
      omega
theorem Sq.list {ds : List PyData} {B k : Nat} (h : ∀ d ∈ ds, Sq d B k) : Sq (.list ds) ((B + 2) * ds.length + 3) (k + 1) := by
  obtain ⟨b1, b3⟩ := sq_all h
  exact ⟨b1, Nat.succ_le_succ b3, sh_list fun d hd => (h d hd).ln⟩
theorem Sq.tup {ds : List PyData} {B k : Nat} (h : ∀ d ∈ ds, Sq d B k) : Sq (.tuple ds) ((B + 2) * ds.length + 3) (k + 1) := by
  obtain ⟨b1, b3⟩ := sq_all h
  exact ⟨b1, Nat.succ_le_succ b3, sh_tup fun d hd => (h d hd).ln⟩
theorem w_showQ {K : PySem.W.Frag} {H : Hp} {Q : VK} {v : V} {d : PyData} {B k : Nat} (dp : Dq K H v d) (s : Sq d B k) (q : Q (.str d.shown) H) (hk : k ≤ 60 := by decide) (hB : B ≤ 16777216 := by decide) : rShowQ K [v] H Q :=
  ⟨v, d, rfl, dp, s.ok, Nat.le_trans s.dp hk, Nat.le_trans s.ln (Nat.le_trans hB (by decide)), q⟩
/-! ### the lists that are shown -/
def tLst4 (t : TA) : TE := fun σ H Q => t σ H fun xs H1 => xs.length ≤ sizeLine ∧ NewL4 xs H1 Q
theorem pe_lst4 {X : Cx} {es : List Expr} {t : TA} {pos : Pos} (h : PA X es t) : PE X (.List es pos) (tLst4 t) := by
  refine ⟨fun pins s σ H Q I hq => ?_⟩
  refine wpAny_List_spliced (thn (h.run pos pins s σ H _ I hq) ?_)
  rintro us s1 ⟨xs, H1, I1, r, z, q⟩
  refine ⟨by rw [← r.length]; exact z, ?_⟩
  exact ⟨.ref s1.heap.objs.size, upd H1 s1.heap.objs.size (.lst xs), I1.laid (t' := s1.toks) (fun b u e => Heap.get?_push_of_some _ e) (Nat.le_refl _) ⟨z, us, 0, r, Heap.get?_push_size _ rfl⟩, rfl, q _ (I1.hok.fresh (Nat.le_refl _)) (size4 I1)⟩
def rCat4 : R2 := fun x y H Q => ∃ l b xs ys, x = .ref l ∧ y = .ref b ∧ H l = some (.lst xs) ∧ H b = some (.lst ys) ∧ xs.length + ys.length ≤ sizeLine ∧ NewL4 (xs ++ ys) H Q
theorem op_cat4 {X : Cx} : OpR X (binaryOp .Add) rCat4 := by
  intro pins s σ H x y v u Q I rx ry h
  obtain ⟨l, b, xs, zs, rfl, rfl, hH, hB, hz, q⟩ := h
  cases rx
  cases ry
  obtain ⟨z, its, n, r, hl, e⟩ := I.lstM hH
  obtain ⟨z2, its2, n2, r2, hl2, e2⟩ := I.lstM hB
  refine PySem.P.add_list e e2 ?_ (by rw [List.size_toArray, List.size_toArray]; omega)
  have ea : its.toArray ++ its2.toArray = (its ++ its2).toArray := by simp
  rw [ea]
  exact ⟨.ref _, _, I.lnew (t' := s.toks) (r.append r2) (by rw [List.length_append]; omega), rfl, q _ I.fresh (size4 I)⟩
section
variable {σ : L2.St} {H : Hp} {Q : VK} {t : TA} {xs ys : List V}
theorem w_lst4 (k : t σ H fun xs H1 => xs.length ≤ sizeLine ∧ NewL4 xs H1 Q) : tLst4 t σ H Q := k
theorem w_cat4 {l b : Addr} (h1 : H l = some (.lst xs)) (h2 : H b = some (.lst ys)) (hz : xs.length + ys.length ≤ sizeLine) (k : NewL4 (xs ++ ys) H Q) : rCat4 (.ref l) (.ref b) H Q := ⟨l, b, xs, ys, rfl, rfl, h1, h2, hz, k⟩
theorem newL4_mk (k : ∀ p G, H p = none → p ≠ sysModules → Same H G → G p = some (.lst xs) → Q (.ref p) G) : NewL4 xs H Q := fun p np n1 => k p _ np n1 (same_new np) upd_same
end
end Dz

set_option Elab.async false
set_option linter.all false
set_option maxRecDepth 100000
set_option maxHeartbeats 2000000
local macro_rules | `(tactic| walk_at "vc1") => `(tactic| first
  | with_reducible refine Dz.w_seq ?_
  | with_reducible refine Dz.w_asg ?_
  | with_reducible refine Dz.w_gn ?_
  | with_reducible refine Dz.w_gsub ?_
  | with_reducible refine Dz.w_ret ?_
  | with_reducible refine Dz.w_drop ?_
  | with_reducible refine Dz.w_ifS ?_
  | with_reducible refine Dz.w_next ?_
  | ((with_reducible refine Dz.w_varE ?_); (refine ⟨_, rfl, ?_⟩))
  | with_reducible refine Dz.w_c ?_
  | with_reducible refine Dz.w_op ?_
  | with_reducible refine Dz.w_un ?_
  | with_reducible refine Dz.w_rI0 ?_
  | with_reducible refine Dz.w_rU ?_
  | with_reducible refine Dz.w_nil ?_
  | with_reducible refine Dz.w_cons ?_
  | with_reducible refine Dz.w_lst ?_
  | with_reducible refine Dz.w_tup ?_
  | with_reducible refine Dz.w_cb ?_
  | with_reducible refine Dz.w_test ?_
  | with_reducible refine Dz.w_B ?_
  | with_reducible refine Dz.w_bl ?_
  | with_reducible refine Dz.w_notV ?_
  | with_reducible refine Dz.w_andV ?_
  | with_reducible refine Dz.w_orV ?_
  | with_reducible refine Dz.w_not ?_
  | with_reducible refine Dz.w_and ?_
  | with_reducible refine Dz.w_or ?_
  | with_reducible refine Dz.w_ifE ?_
  | with_reducible refine Dz.w_lc ?_
  | with_reducible refine Dz.w_for ?_
  | with_reducible refine Dz.w_iR1 ?_
  | with_reducible refine Dz.w_iL ?_
  | with_reducible refine Dz.w_iT ?_
  | with_reducible refine Dz.w_iS ?_
  | with_reducible refine Dz.w_gcons ?_
  | with_reducible refine Dz.w_gnil ?_
  | with_reducible refine Dz.w_tyes ?_
  | with_reducible refine Dz.w_sl ?_
  | with_reducible refine Dz.w_nopart ?_
  | with_reducible refine Dz.w_part ?_
  | with_reducible refine Dz.w_int ?_
  | with_reducible refine Dz.w_m1 ?_
  | with_reducible refine Dz.w_strA ?_
  | with_reducible refine Dz.w_chain ?_
  | with_reducible refine Dz.w_vei ?_
  | with_reducible refine Dz.w_revL ?_
  | with_reducible refine Dz.w_dnew ?_
  | with_reducible refine Dz.w_ost ?_
  | with_reducible refine Dz.w_ck ?_
  | with_reducible refine Dz.w_par ?_
  | with_reducible refine Dz.w_pair ?_
  | with_reducible refine Dz.w_bm ?_
  | with_reducible refine Dz.w_bm0 ?_
  | with_reducible refine Dz.w_rz ?_
  | with_reducible refine Dz.w_mke ?_
  | with_reducible refine Dz.w_try ?_
  | with_reducible refine Dz.w_cbs ?_
  | with_reducible refine Dz.w_cks ?_
  | with_reducible refine Dz.w_sfld ?_
  | with_reducible refine Dz.w_fld ?_
  | with_reducible refine Dz.w_mth ?_
  | with_reducible refine Dz.w_xf ?_
  | with_reducible refine Dz.w_lst4 ?_
  | with_reducible refine Dz.w_nn ?_
  | ((with_reducible refine Dz.w_rEq ?_ ?_); (exact rfl))
  | ((with_reducible refine Dz.w_rNe ?_ ?_); (exact rfl)))
local macro_rules | `(tactic| walk_at "vc") => `(tactic| ((try dsimp only); repeat (walk_at "vc1"; (try dsimp only))))
namespace K06
open PySem PySem.Spec PyProof.Rows L2 Dz
def top (i : Nat) : Stmt := PySem.Challenge.pw_drowsetree_k06_devices_refused.main.body.getD i (.Pass ⟨0, 0, 0, 0⟩)
abbrev s_NoName_init : Stmt := inClass (top 3) 0
theorem sc_NoName_init : FnScope ["self", "found"] ["self", "found"] (defScope s_NoName_init) := ⟨rfl, rfl, rfl, by decide +kernel, rfl, by decide +kernel, by decide +kernel⟩
abbrev s_NoNumber_init : Stmt := inClass (top 4) 0
theorem sc_NoNumber_init : FnScope ["self", "found"] ["self", "found"] (defScope s_NoNumber_init) := ⟨rfl, rfl, rfl, by decide +kernel, rfl, by decide +kernel, by decide +kernel⟩
abbrev s_is_truth : Stmt := top 8
theorem sc_is_truth : FnScope ["thing"] ["thing"] (defScope s_is_truth) := ⟨rfl, rfl, rfl, by decide +kernel, rfl, by decide +kernel, by decide +kernel⟩
abbrev s_is_number : Stmt := top 9
theorem sc_is_number : FnScope ["thing"] ["thing"] (defScope s_is_number) := ⟨rfl, rfl, rfl, by decide +kernel, rfl, by decide +kernel, by decide +kernel⟩
abbrev s_is_at_least : Stmt := top 10
theorem sc_is_at_least : FnScope ["thing", "low"] ["thing", "low"] (defScope s_is_at_least) := ⟨rfl, rfl, rfl, by decide +kernel, rfl, by decide +kernel, by decide +kernel⟩
abbrev s_is_whole : Stmt := top 11
theorem sc_is_whole : FnScope ["thing", "low", "high"] ["thing", "low", "high"] (defScope s_is_whole) := ⟨rfl, rfl, rfl, by decide +kernel, rfl, by decide +kernel, by decide +kernel⟩
abbrev s_is_name : Stmt := top 12
theorem sc_is_name : FnScope ["thing"] ["thing"] (defScope s_is_name) := ⟨rfl, rfl, rfl, by decide +kernel, rfl, by decide +kernel, by decide +kernel⟩
abbrev s__is_made_of : Stmt := top 13
theorem sc__is_made_of : FnScope ["text", "signs", "sign"] ["text", "signs"] (defScope s__is_made_of) := ⟨rfl, rfl, rfl, by decide +kernel, rfl, by decide +kernel, by decide +kernel⟩
abbrev s_Device_init : Stmt := inClass (top 23) 0
theorem sc_Device_init : FnScope ["self", "name", "parent", "burn", "sip", "wake", "fall", "rest"] ["self", "name", "parent", "burn", "sip", "wake", "fall", "rest"] (defScope s_Device_init) := ⟨rfl, rfl, rfl, by decide +kernel, rfl, by decide +kernel, by decide +kernel⟩
abbrev s_Device_told : Stmt := inClass (top 23) 8
theorem sc_Device_told : FnScope ["self"] ["self"] (defScope s_Device_told) := ⟨rfl, rfl, rfl, by decide +kernel, rfl, by decide +kernel, by decide +kernel⟩
abbrev s__need_whole : Stmt := top 24
theorem sc__need_whole : FnScope ["thing", "high"] ["thing", "high"] (defScope s__need_whole) := ⟨rfl, rfl, rfl, by decide +kernel, rfl, by decide +kernel, by decide +kernel⟩
abbrev s__law_cell : Stmt := top 26
theorem sc__law_cell : FnScope ["_law_script", "_law_k"] ["_law_script", "_law_k"] (defScope s__law_cell) := ⟨rfl, rfl, rfl, by decide +kernel, rfl, by decide +kernel, by decide +kernel⟩
abbrev s__law_bag : Stmt := top 27
theorem sc__law_bag : FnScope ["_law_cell_here"] ["_law_cell_here"] (defScope s__law_bag) := ⟨rfl, rfl, rfl, by decide +kernel, rfl, by decide +kernel, by decide +kernel⟩
abbrev s__law_take : Stmt := top 28
theorem sc__law_take : FnScope ["_law_bag_here", "_law_below", "_law_digit", "_law_number"] ["_law_bag_here", "_law_below"] (defScope s__law_take) := ⟨rfl, rfl, rfl, by decide +kernel, rfl, by decide +kernel, by decide +kernel⟩
abbrev s__law_names : Stmt := top 29
theorem sc__law_names : FnScope ["_law_bag_here", "_law_size", "_law_letters", "_law_way", "_law_first", "_law_step", "_law_stem", "_law_k", "_law_at", "_law_head", "_law_tail"] ["_law_bag_here", "_law_size"] (defScope s__law_names) := ⟨rfl, rfl, rfl, by decide +kernel, rfl, by decide +kernel, by decide +kernel⟩
abbrev s__law_is_name : Stmt := top 30
theorem sc__law_is_name : FnScope ["_law_thing", "_law_sign"] ["_law_thing"] (defScope s__law_is_name) := ⟨rfl, rfl, rfl, by decide +kernel, rfl, by decide +kernel, by decide +kernel⟩
abbrev s__law_is_whole : Stmt := top 31
theorem sc__law_is_whole : FnScope ["_law_thing", "_law_high"] ["_law_thing", "_law_high"] (defScope s__law_is_whole) := ⟨rfl, rfl, rfl, by decide +kernel, rfl, by decide +kernel, by decide +kernel⟩
abbrev s__law_due : Stmt := top 32
theorem sc__law_due : FnScope ["_law_row", "_law_thing", "_law_high"] ["_law_row"] (defScope s__law_due) := ⟨rfl, rfl, rfl, by decide +kernel, rfl, by decide +kernel, by decide +kernel⟩
abbrev s__law_asked : Stmt := top 33
theorem sc__law_asked : FnScope ["_law_row", "_law_way", "_law_thing", "e"] ["_law_row", "_law_way"] (defScope s__law_asked) := ⟨rfl, rfl, rfl, by decide +kernel, rfl, by decide +kernel, by decide +kernel⟩
abbrev s__law_bad_name : Stmt := top 34
theorem sc__law_bad_name : FnScope ["_law_bag_here", "_law_name", "_law_signs", "_law_at", "_law_bent"] ["_law_bag_here", "_law_name"] (defScope s__law_bad_name) := ⟨rfl, rfl, rfl, by decide +kernel, rfl, by decide +kernel, by decide +kernel⟩
abbrev s__law_bad_number : Stmt := top 35
theorem sc__law_bad_number : FnScope ["_law_bag_here", "_law_high"] ["_law_bag_here", "_law_high"] (defScope s__law_bad_number) := ⟨rfl, rfl, rfl, by decide +kernel, rfl, by decide +kernel, by decide +kernel⟩
abbrev s__law_spoilt : Stmt := top 36
theorem sc__law_spoilt : FnScope ["_law_bag_here", "_law_row", "_law_at"] ["_law_bag_here", "_law_row"] (defScope s__law_spoilt) := ⟨rfl, rfl, rfl, by decide +kernel, rfl, by decide +kernel, by decide +kernel⟩
abbrev s_law : Stmt := top 37
theorem sc_law : FnScope ["_law_script", "_law_k", "_law_bag_here", "_law_spoils", "_law_way", "_law_names_here", "_law_cost", "_law_row", "_law_turn", "_law_due_here", "_law_kept", "_law_told", "e"] ["_law_script"] (defScope s_law) := ⟨rfl, rfl, rfl, by decide +kernel, rfl, by decide +kernel, by decide +kernel⟩
/-- where things stand -/
structure Ad where
  f_NoName_init : Addr
  f_NoNumber_init : Addr
  f_is_truth : Addr
  f_is_number : Addr
  f_is_at_least : Addr
  f_is_whole : Addr
  f_is_name : Addr
  f__is_made_of : Addr
  f_Device_init : Addr
  f_Device_told : Addr
  f__need_whole : Addr
  f__law_cell : Addr
  f__law_bag : Addr
  f__law_take : Addr
  f__law_names : Addr
  f__law_is_name : Addr
  f__law_is_whole : Addr
  f__law_due : Addr
  f__law_asked : Addr
  f__law_bad_name : Addr
  f__law_bad_number : Addr
  f__law_spoilt : Addr
  f_law : Addr
  C_WakeError : Addr
  C_NoName : Addr
  C_NoNumber : Addr
  C_Device : Addr
/-- what the top has written -/
structure Txt (K : PySem.W.Frag) (mg : Str → Option Value) (A : Ad) : Prop where
  z_all : mg "all" = none
  z_bool : mg "bool" = none
  z_int : mg "int" = none
  z_isinstance : mg "isinstance" = none
  z_len : mg "len" = none
  z_list : mg "list" = none
  z_max : mg "max" = none
  z_min : mg "min" = none
  z_range : mg "range" = none
  z_repr : mg "repr" = none
  z_str : mg "str" = none
  z_sum : mg "sum" = none
  z_tuple : mg "tuple" = none
  c__LETTERS : Gv mg "_LETTERS" (.str "abcdefghijklmnopqrstuvwxyz")
  c__NAME_SIGNS : Gv mg "_NAME_SIGNS" (.int 8)
  c__MOST_BURN : Gv mg "_MOST_BURN" (.int 100)
  c__MOST_TURNS : Gv mg "_MOST_TURNS" (.int 5)
  c__MOST_REST : Gv mg "_MOST_REST" (.int 9)
  d_is_truth : Df K mg "is_truth" s_is_truth A.f_is_truth
  d_is_number : Df K mg "is_number" s_is_number A.f_is_number
  d_is_at_least : Df K mg "is_at_least" s_is_at_least A.f_is_at_least
  d_is_whole : Df K mg "is_whole" s_is_whole A.f_is_whole
  d_is_name : Df K mg "is_name" s_is_name A.f_is_name
  d__is_made_of : Df K mg "_is_made_of" s__is_made_of A.f__is_made_of
  d__need_whole : Df K mg "_need_whole" s__need_whole A.f__need_whole
  d__law_cell : Df K mg "_law_cell" s__law_cell A.f__law_cell
  d__law_bag : Df K mg "_law_bag" s__law_bag A.f__law_bag
  d__law_take : Df K mg "_law_take" s__law_take A.f__law_take
  d__law_names : Df K mg "_law_names" s__law_names A.f__law_names
  d__law_is_name : Df K mg "_law_is_name" s__law_is_name A.f__law_is_name
  d__law_is_whole : Df K mg "_law_is_whole" s__law_is_whole A.f__law_is_whole
  d__law_due : Df K mg "_law_due" s__law_due A.f__law_due
  d__law_asked : Df K mg "_law_asked" s__law_asked A.f__law_asked
  d__law_bad_name : Df K mg "_law_bad_name" s__law_bad_name A.f__law_bad_name
  d__law_bad_number : Df K mg "_law_bad_number" s__law_bad_number A.f__law_bad_number
  d__law_spoilt : Df K mg "_law_spoilt" s__law_spoilt A.f__law_spoilt
  d_law : Df K mg "law" s_law A.f_law
  m_WakeError : mg "WakeError" = some (.ref A.C_WakeError)
  up_WakeError : ∃ mc, UpC K A.C_WakeError mc
  e_NoName : Er K mg "NoName" "found" A.C_NoName A.f_NoName_init
  n_NoName_init : ∃ fd, Fun K "__init__" "NoName.__init__" s_NoName_init A.f_NoName_init fd
  e_NoNumber : Er K mg "NoNumber" "found" A.C_NoNumber A.f_NoNumber_init
  n_NoNumber_init : ∃ fd, Fun K "__init__" "NoNumber.__init__" s_NoNumber_init A.f_NoNumber_init fd
  x_NoName_NoName : PySem.W.subIn K (.ref A.C_NoName) (.ref A.C_NoName) = some true
  x_NoName_NoNumber : PySem.W.subIn K (.ref A.C_NoName) (.ref A.C_NoNumber) = some false
  x_NoNumber_NoName : PySem.W.subIn K (.ref A.C_NoNumber) (.ref A.C_NoName) = some false
  x_NoNumber_NoNumber : PySem.W.subIn K (.ref A.C_NoNumber) (.ref A.C_NoNumber) = some true
  m_Device : mg "Device" = some (.ref A.C_Device)
  cls_Device : Cls K A.C_Device
  mk_Device : Mk K A.C_Device A.f_Device_init
  nf_Device__told : NoAttr K A.C_Device "_told"
  n_Device_init : ∃ fd, FunD K "__init__" "Device.__init__" (defArgs s_Device_init) (defBody s_Device_init) (defScope s_Device_init) [] ([("parent", .non), ("burn", .int 5), ("sip", .int 1), ("wake", .int 1), ("fall", .int 1), ("rest", .int 0)] : List (Str × V)) A.f_Device_init fd
  me_Device_told : Meth K A.C_Device "told" A.f_Device_told
  n_Device_told : ∃ fd, Fun K "told" "Device.told" s_Device_told A.f_Device_told fd
section
variable {P : Program} {w : World} {K : PySem.W.Frag} {mg : Str → Option Value} {base : Heap} {A : Ad}
theorem kb_Device_init_2_parent_burn_sip_wake_fall_rest {K : PySem.W.Frag} {f : Addr} {fd : FuncData} (F : FunD K "__init__" "Device.__init__" (defArgs s_Device_init) (defBody s_Device_init) (defScope s_Device_init) [] ([("parent", .non), ("burn", .int 5), ("sip", .int 1), ("wake", .int 1), ("fall", .int 1), ("rest", .int 0)] : List (Str × V)) f fd) : ∃ g, KBn K fd ["self", "name", "parent", "burn", "sip", "wake", "fall", "rest"] 2 ["parent", "burn", "sip", "wake", "fall", "rest"] g (fun vs zs => perm [0, 1, 2, 3, 4, 5, 6, 7] (vs ++ ([] : List (Str × V)).map (·.2) ++ zs)) := by
  obtain ⟨mv, h⟩ := kb_k F (ps := ["self", "name", "parent", "burn", "sip", "wake", "fall", "rest"]) 2 ["parent", "burn", "sip", "wake", "fall", "rest"] ([] : List (Str × V)) (fun us mv ws => perm [0, 1, 2, 3, 4, 5, 6, 7] (us ++ mv ++ ws)) (by decide) (by decide) (fun r1 r2 r3 => vals_perm ((r1.append r2).append r3) _) (fun D doc pm an cdv ct us mv ws h1 h2 h3 => match us, h1, mv, h2, ws, h3 with | [a0, a1], _, [], _, [c0, c1, c2, c3, c4, c5], _ => (show _ = _ from rfl))
  exact ⟨_, h⟩
theorem kb_Device_init_2_rest_fall_sip_burn_parent {K : PySem.W.Frag} {f : Addr} {fd : FuncData} (F : FunD K "__init__" "Device.__init__" (defArgs s_Device_init) (defBody s_Device_init) (defScope s_Device_init) [] ([("parent", .non), ("burn", .int 5), ("sip", .int 1), ("wake", .int 1), ("fall", .int 1), ("rest", .int 0)] : List (Str × V)) f fd) : ∃ g, KBn K fd ["self", "name", "parent", "burn", "sip", "wake", "fall", "rest"] 2 ["rest", "fall", "sip", "burn", "parent"] g (fun vs zs => perm [0, 1, 7, 6, 5, 2, 4, 3] (vs ++ ([("wake", .int 1)] : List (Str × V)).map (·.2) ++ zs)) := by
  obtain ⟨mv, h⟩ := kb_k F (ps := ["self", "name", "parent", "burn", "sip", "wake", "fall", "rest"]) 2 ["rest", "fall", "sip", "burn", "parent"] ([("wake", .int 1)] : List (Str × V)) (fun us mv ws => perm [0, 1, 7, 6, 5, 2, 4, 3] (us ++ mv ++ ws)) (by decide) (by decide) (fun r1 r2 r3 => vals_perm ((r1.append r2).append r3) _) (fun D doc pm an cdv ct us mv ws h1 h2 h3 => match us, h1, mv, h2, ws, h3 with | [a0, a1], _, [b0], _, [c0, c1, c2, c3, c4], _ => ⟨_, _, _, _, _, _, rfl, rfl, (show _ = _ from rfl)⟩)
  exact ⟨_, h⟩
theorem kb_Device_init_2_sip_burn {K : PySem.W.Frag} {f : Addr} {fd : FuncData} (F : FunD K "__init__" "Device.__init__" (defArgs s_Device_init) (defBody s_Device_init) (defScope s_Device_init) [] ([("parent", .non), ("burn", .int 5), ("sip", .int 1), ("wake", .int 1), ("fall", .int 1), ("rest", .int 0)] : List (Str × V)) f fd) : ∃ g, KBn K fd ["self", "name", "parent", "burn", "sip", "wake", "fall", "rest"] 2 ["sip", "burn"] g (fun vs zs => perm [0, 1, 2, 7, 6, 3, 4, 5] (vs ++ ([("parent", .non), ("wake", .int 1), ("fall", .int 1), ("rest", .int 0)] : List (Str × V)).map (·.2) ++ zs)) := by
  obtain ⟨mv, h⟩ := kb_k F (ps := ["self", "name", "parent", "burn", "sip", "wake", "fall", "rest"]) 2 ["sip", "burn"] ([("parent", .non), ("wake", .int 1), ("fall", .int 1), ("rest", .int 0)] : List (Str × V)) (fun us mv ws => perm [0, 1, 2, 7, 6, 3, 4, 5] (us ++ mv ++ ws)) (by decide) (by decide) (fun r1 r2 r3 => vals_perm ((r1.append r2).append r3) _) (fun D doc pm an cdv ct us mv ws h1 h2 h3 => match us, h1, mv, h2, ws, h3 with | [a0, a1], _, [b0, b1, b2, b3], _, [c0, c1], _ => ⟨_, _, _, _, _, _, rfl, rfl, ⟨_, _, _, _, _, _, rfl, rfl, ⟨_, _, _, _, _, _, rfl, rfl, ⟨_, _, _, _, _, _, rfl, rfl, (show _ = _ from rfl)⟩⟩⟩⟩)
  exact ⟨_, h⟩
theorem kb_Device_init_2_burn {K : PySem.W.Frag} {f : Addr} {fd : FuncData} (F : FunD K "__init__" "Device.__init__" (defArgs s_Device_init) (defBody s_Device_init) (defScope s_Device_init) [] ([("parent", .non), ("burn", .int 5), ("sip", .int 1), ("wake", .int 1), ("fall", .int 1), ("rest", .int 0)] : List (Str × V)) f fd) : ∃ g, KBn K fd ["self", "name", "parent", "burn", "sip", "wake", "fall", "rest"] 2 ["burn"] g (fun vs zs => perm [0, 1, 2, 7, 3, 4, 5, 6] (vs ++ ([("parent", .non), ("sip", .int 1), ("wake", .int 1), ("fall", .int 1), ("rest", .int 0)] : List (Str × V)).map (·.2) ++ zs)) := by
  obtain ⟨mv, h⟩ := kb_k F (ps := ["self", "name", "parent", "burn", "sip", "wake", "fall", "rest"]) 2 ["burn"] ([("parent", .non), ("sip", .int 1), ("wake", .int 1), ("fall", .int 1), ("rest", .int 0)] : List (Str × V)) (fun us mv ws => perm [0, 1, 2, 7, 3, 4, 5, 6] (us ++ mv ++ ws)) (by decide) (by decide) (fun r1 r2 r3 => vals_perm ((r1.append r2).append r3) _) (fun D doc pm an cdv ct us mv ws h1 h2 h3 => match us, h1, mv, h2, ws, h3 with | [a0, a1], _, [b0, b1, b2, b3, b4], _, [c0], _ => ⟨_, _, _, _, _, _, rfl, rfl, ⟨_, _, _, _, _, _, rfl, rfl, ⟨_, _, _, _, _, _, rfl, rfl, ⟨_, _, _, _, _, _, rfl, rfl, ⟨_, _, _, _, _, _, rfl, rfl, (show _ = _ from rfl)⟩⟩⟩⟩⟩)
  exact ⟨_, h⟩
/-- the error's own __init__ -/
theorem ok_NoName_init (T : Txt K mg A) : Kp P w K mg base CX0 1 A.f_NoName_init ["self", "found"] [] (spErr "found" A.C_NoName) := by
  obtain ⟨fd, F⟩ := T.n_NoName_init
  obtain ⟨mc, up⟩ := T.up_WakeError
  refine ⟨fd, fnG_nx (k := 0) F sc_NoName_init (fun vs H Q E h => ?_) (fun cdv Ar outer s H vs Q E hcl hr h => ?_), F.binds (fun _ _ _ _ _ _ us hl => match us, hl with | [_, _], _ => rfl)⟩
  · obtain ⟨a, y, rfl, ha, q⟩ := h
    rfl
  · obtain ⟨a, y, rfl, ha, q⟩ := h
    refine ⟨_, (pss_cons (ps_expr (pe_upinit (by rfl) T.m_WakeError up (pa_cons (pv 0) (pa_cons pe_str pa_nil))))
      (pss_one (ps_ost (pv 0) (pv 1)))), ?_⟩
    walk_at "vc"
    refine ⟨a, _, _, rfl, (by show 1 ≤ 1000; decide), T.e_NoName.oex, ha, ?_⟩
    walk_at "vc"
    exact ⟨a, _, rfl, T.e_NoName.oex, T.e_NoName.nof, .inl ⟨ha, q⟩⟩
/-- the error's own __init__ -/
theorem ok_NoNumber_init (T : Txt K mg A) : Kp P w K mg base CX0 1 A.f_NoNumber_init ["self", "found"] [] (spErr "found" A.C_NoNumber) := by
  obtain ⟨fd, F⟩ := T.n_NoNumber_init
  obtain ⟨mc, up⟩ := T.up_WakeError
  refine ⟨fd, fnG_nx (k := 0) F sc_NoNumber_init (fun vs H Q E h => ?_) (fun cdv Ar outer s H vs Q E hcl hr h => ?_), F.binds (fun _ _ _ _ _ _ us hl => match us, hl with | [_, _], _ => rfl)⟩
  · obtain ⟨a, y, rfl, ha, q⟩ := h
    rfl
  · obtain ⟨a, y, rfl, ha, q⟩ := h
    refine ⟨_, (pss_cons (ps_expr (pe_upinit (by rfl) T.m_WakeError up (pa_cons (pv 0) (pa_cons pe_str pa_nil))))
      (pss_one (ps_ost (pv 0) (pv 1)))), ?_⟩
    walk_at "vc"
    refine ⟨a, _, _, rfl, (by show 1 ≤ 1000; decide), T.e_NoNumber.oex, ha, ?_⟩
    walk_at "vc"
    exact ⟨a, _, rfl, T.e_NoNumber.oex, T.e_NoNumber.nof, .inl ⟨ha, q⟩⟩
theorem ok__law_cell (T : Txt K mg A)   : Kp P w K mg base CX0 1 A.f__law_cell ["_law_script", "_law_k"] [] (spCel K) := by
  obtain ⟨fd, F⟩ := T.d__law_cell.ex
  refine ⟨fd, fnG_nx (k := 0) F sc__law_cell (fun vs H Q E h => ?_) (fun cdv Ar outer s H vs Q E hcl hr h => ?_), F.binds (fun _ _ _ _ _ _ us hl => match us, hl with | [_, _], _ => rfl)⟩
  · obtain ⟨a, ns, k, rfl, hS, hl, h0, h1, q⟩ := h
    rfl
  · obtain ⟨a, ns, k, rfl, hS, hl, h0, h1, q⟩ := h
    have hu64 := hr.units
    have hu := hu_of hr
    refine ⟨_, (pss_cons (ps_if (pt_cmpR op_lt (pv 1) (pe_callB call_len_seq (by rfl) T.z_len (by decide +kernel) (pa_cons (pv 0) pa_nil)) (nomark _)) (pss_one (ps_ret (pe_ix ix_list (pv 0) (pv 1) (fun _ _ => rfl)))) pss_nil)
      (pss_one (ps_ret (pe_op op_add (pe_op op_add (pe_op op_mulW pe_int (pv 1)) pe_int) (pe_op op_mod (pe_callB (cr_sum rfl) (by rfl) T.z_sum (by decide +kernel) (pa_cons (pe_slice sl_list (pv 0) po_none (po_some pe_int)) pa_nil)) pe_int))))), ?_⟩
    walk_at "vc"
    refine ⟨a, _, rfl, .inl hS, ?_⟩
    walk_at "vc"
    refine w_ite (fun c0 => ?_) (fun c0 => ?_)
    · obtain ⟨z, _, hz⟩ := map_at h0 c0
      walk_at "vc"
      refine w_ixL hS hz ?_
      exact q z H (Same.refl H)
    · walk_at "vc"
      refine w_rI (mulW_small (by decide) (by omega)) ?_
      walk_at "vc"
      refine ⟨a, _, rfl, hS, fun p np => ?_⟩
      obtain ⟨ms, e⟩ := cut_ints ns none (some 1)
      rw [e]
      walk_at "vc"
      refine ⟨p, ms, rfl, .of upd_same, ?_⟩
      walk_at "vc"
      refine w_rI (show (0 : Int) < 1000003 by decide) ?_
      walk_at "vc"
      exact q _ _ (same_new np)

theorem ok__law_bag (T : Txt K mg A)   : Kp P w K mg base CX0 1 A.f__law_bag ["_law_cell_here"] [] (spBag) := by
  obtain ⟨fd, F⟩ := T.d__law_bag.ex
  refine ⟨fd, fnG_nx (k := 0) F sc__law_bag (fun vs H Q E h => ?_) (fun cdv Ar outer s H vs Q E hcl hr h => ?_), F.binds (fun _ _ _ _ _ _ us hl => match us, hl with | [_], _ => rfl)⟩
  · obtain ⟨z, rfl, q⟩ := h
    rfl
  · obtain ⟨z, rfl, q⟩ := h
    have hu64 := hr.units
    have hu := hu_of hr
    refine ⟨_, (pss_one (ps_ret (pe_lst (pa_cons (pe_callB (call_max2 rfl) (by rfl) T.z_max (by decide +kernel) (pa_cons pe_int (pa_cons (pe_op op_sub (pv 0) (pe_op op_pow pe_int pe_int)) pa_nil))) (pa_cons (pe_op op_mod (pv 0) pe_int) (pa_cons pe_int pa_nil)))))), ?_⟩
    walk_at "vc"
    refine w_rI ⟨by decide, by decide, by decide⟩ ?_
    walk_at "vc"
    refine ⟨_, _, rfl, ?_⟩
    walk_at "vc"
    refine w_rI (show (0 : Int) < 2147483629 by decide) ?_
    walk_at "vc"
    refine ⟨sz_ok (by simp), fun p np => ?_⟩
    exact q p _ np (same_new np) ⟨_, _, 0, upd_same, by split <;> omega, Int.emod_nonneg _ (by decide), Int.emod_lt_of_pos _ (by decide), by decide, by decide⟩

theorem ok__law_take (T : Txt K mg A)   : Kp P w K mg base CX0 1 A.f__law_take ["_law_bag_here", "_law_below"] [] (spTake) := by
  obtain ⟨fd, F⟩ := T.d__law_take.ex
  refine ⟨fd, fnG_nx (k := 0) F sc__law_take (fun vs H Q E h => ?_) (fun cdv Ar outer s H vs Q E hcl hr h => ?_), F.binds (fun _ _ _ _ _ _ us hl => match us, hl with | [_, _], _ => rfl)⟩
  · obtain ⟨p, n, c, rfl, ⟨a, b, k, hp, h0, h1, h2, h3, h4⟩, hc, n0, nn, q⟩ := h
    rfl
  · obtain ⟨p, n, c, rfl, ⟨a, b, k, hp, h0, h1, h2, h3, h4⟩, hc, n0, nn, q⟩ := h
    have hu64 := hr.units
    have hu := hu_of hr
    refine ⟨_, (pss_cons (ps_if (pt_cmpR op_gt (pe_ix ix_list (pv 0) pe_int (fun _ _ => rfl)) pe_int (nomark _)) (pss_cons (ps_set (i := 2) sc__law_take.nd rfl (Or.inl rfl) (pe_op op_mod (pe_ix ix_list (pv 0) pe_int (fun _ _ => rfl)) (pv 1)))
      (pss_cons (ps_asg (pe_op op_fdivW (pe_ix ix_list (pv 0) pe_int (fun _ _ => rfl)) (pv 1)) (pg_sub (pv 0) pe_int set_list))
      (pss_one (ps_ret (pv 2))))) pss_nil)
      (pss_cons (ps_asg (pe_op op_add (pe_ix ix_list (pv 0) pe_int (fun _ _ => rfl)) pe_int) (pg_sub (pv 0) pe_int set_list))
      (pss_cons (ps_set (i := 3) sc__law_take.nd rfl (Or.inl rfl) (pe_op op_mod (pe_op op_pow (pe_op op_add (pe_op op_add (pe_ix ix_list (pv 0) pe_int (fun _ _ => rfl)) (pe_op op_mulW pe_int (pe_ix ix_list (pv 0) pe_int (fun _ _ => rfl)))) pe_int) pe_int) pe_int))
      (pss_cons (ps_set (i := 3) sc__law_take.nd rfl (Or.inl rfl) (pe_op op_mod (pe_op op_pow (pe_op op_add (pv 3) (pe_op op_mulW pe_int (pe_ix ix_list (pv 0) pe_int (fun _ _ => rfl)))) pe_int) pe_int))
      (pss_one (ps_ret (pe_op op_mod (pe_op op_fdivW (pv 3) pe_int) (pv 1)))))))), ?_⟩
    walk_at "vc"
    refine w_ixL (.of hp) atI0 ?_
    walk_at "vc"
    refine w_ite (fun c0 => ?_) (fun c0 => ?_)
    · walk_at "vc"
      refine w_ixL (.of hp) atI0 ?_
      walk_at "vc"
      refine w_rI (show 0 < n from n0) ?_
      walk_at "vc"
      refine w_ixL (.of hp) atI0 ?_
      walk_at "vc"
      refine w_rI (wide_div n0 nn (by decide) (by decide)) ?_
      walk_at "vc"
      refine w_setL hp rfl ?_
      walk_at "vc"
      exact q _ _ (Int.emod_nonneg _ (by omega)) (Int.emod_lt_of_pos _ n0) Bt.at_ ⟨a / n, b, k, upd_same, Int.ediv_nonneg h0 (by omega), h1, h2, h3, by omega⟩
    · walk_at "vc"
      refine w_ixL (.of hp) atI2 ?_
      walk_at "vc"
      refine w_setL hp rfl ?_
      have hp' : (upd H p (.lst [.int a, .int b, .int (k + 1)])) p = some (.lst [.int a, .int b, .int (k + 1)]) := upd_same
      walk_at "vc"
      refine w_ixL (.of hp') atI1 ?_
      walk_at "vc"
      refine w_ixL (.of hp') atI2 ?_
      walk_at "vc"
      refine w_rI (mulW_small (by decide) (by omega)) ?_
      walk_at "vc"
      refine w_rI ⟨by decide, by decide, take_num h1 h2 h3 (by omega) (by decide) (by decide)⟩ ?_
      walk_at "vc"
      refine w_rI (show (0 : Int) < 2147483647 by decide) ?_
      walk_at "vc"
      refine w_ixL (.of hp') atI2 ?_
      walk_at "vc"
      refine w_rI (mulW_small (by decide) (by omega)) ?_
      walk_at "vc"
      refine w_rI ⟨by decide, by decide, take_num2 (Int.emod_nonneg _ (by decide)) (Int.emod_lt_of_pos _ (by decide)) h3 (by omega)⟩ ?_
      walk_at "vc"
      refine w_rI (show (0 : Int) < 2147483587 by decide) ?_
      walk_at "vc"
      refine w_rI (wide_div (b := 10) (by decide) (by decide) (by decide) (by decide)) ?_
      walk_at "vc"
      refine w_rI (show 0 < n from n0) ?_
      exact q _ _ (Int.emod_nonneg _ (by omega)) (Int.emod_lt_of_pos _ n0) Bt.at_ ⟨a, b, k + 1, upd_same, h0, h1, h2, by omega, by omega⟩

def atl (v : V) (low : Int) : Bool := match v with
  | .int i => decide (low ≤ i)
  | _ => false
def whl (v : V) (low high : Int) : Bool := match v with
  | .int i => decide (low ≤ i) && decide (i ≤ high)
  | _ => false
def LT : Str := "abcdefghijklmnopqrstuvwxyz"
def allIn (z t : Str) : Bool := z.cps.toList.all fun c => decide (c ∈ t.cps.toList)
def nam (v : V) : Bool := match v with
  | .str z => decide ((z.length : Int) ≤ 8) && (!decide (V.str z = V.str "") && allIn z LT)
  | _ => false
def numb (v : V) : Bool := match v with
  | .int _ => true
  | _ => false
theorem nb_not {v : V} (h : isInt v = false) : numb v = false := by cases v <;> first | rfl | cases h
theorem nb_not2 {v : V} (h : isBool v = true) : numb v = false := by cases v <;> first | rfl | cases h
theorem nb_int {v : V} (h : numb v = true) : ∃ i, v = .int i := by cases v <;> first | exact ⟨_, rfl⟩ | cases h
theorem nb_atl {v : V} {low : Int} (h : numb v = false) : atl v low = false := by cases v <;> first | rfl | cases h
theorem al_not {v : V} {low : Int} (h : isInt v = false) : atl v low = false := by cases v <;> first | rfl | cases h
theorem al_not2 {v : V} {low : Int} (h : isBool v = true) : atl v low = false := by cases v <;> first | rfl | cases h
theorem int_of {v : V} (h : isInt v = true) (h2 : isBool v = false) : ∃ i, v = .int i := by
  cases v with
  | int i => exact ⟨i, rfl⟩
  | bl b => cases h2
  | _ => cases h
theorem wh_not {v : V} {low high : Int} (h : isInt v = false) : whl v low high = false := by cases v <;> first | rfl | cases h
theorem wh_not2 {v : V} {low high : Int} (h : isBool v = true) : whl v low high = false := by cases v <;> first | rfl | cases h
theorem wh_al {v : V} {low high : Int} (h : atl v low = false) : whl v low high = false := by
  cases v <;> first | rfl | skip
  rename_i i
  have h' : decide (low ≤ i) = false := h
  show (decide (low ≤ i) && decide (i ≤ high)) = false
  rw [h']
  rfl
theorem al_int {v : V} {low : Int} (h : atl v low = true) : ∃ i, v = .int i ∧ decide (low ≤ i) = true := by cases v <;> first | exact ⟨_, rfl, h⟩ | cases h
theorem nam_not {v : V} (h : isStr v = false) : nam v = false := by cases v <;> first | rfl | cases h
theorem str_of {v : V} (h : isStr v = true) : ∃ z, v = .str z := by cases v <;> first | exact ⟨_, rfl⟩ | cases h
/-- a question about a thing that stands, at most a text of a thousand signs -/
def Sml (v : V) : Prop := ∀ z, v = .str z → z.length ≤ 1000 ∧ Asc z
def spIs (K : PySem.W.Frag) (f : V → Bool) : Sp := fun vs H Q _ => ∃ p v, vs = [v] ∧ Kn K p H v ∧ Sml v ∧ ∀ H', Same H H' → Q (.bl (f v)) H'
def spIs0 (K : PySem.W.Frag) (f : V → Bool) : Sp := fun vs H Q _ => ∃ p v, vs = [v] ∧ Kn K p H v ∧ ∀ H', Same H H' → Q (.bl (f v)) H'
def spIs2 (K : PySem.W.Frag) (f : V → Int → Bool) : Sp := fun vs H Q _ => ∃ p v i, vs = [v, .int i] ∧ Kn K p H v ∧ ∀ H', Same H H' → Q (.bl (f v i)) H'
def spIs3 (K : PySem.W.Frag) (f : V → Int → Int → Bool) : Sp := fun vs H Q _ => ∃ p v i j, vs = [v, .int i, .int j] ∧ Kn K p H v ∧ ∀ H', Same H H' → Q (.bl (f v i j)) H'
def spIsB (K : PySem.W.Frag) : Sp := fun vs H Q _ => ∃ p v, vs = [v] ∧ Kn K p H v ∧ ∀ H', Same H H' → Q (.bl (isBool v)) H'
def spMade : Sp := fun vs H Q _ => ∃ z t : Str, vs = [.str z, .str t] ∧ z.length ≤ 1000 ∧ ∀ H', Same H H' → Q (.bl (!decide (V.str z = V.str "") && allIn z t)) H'

theorem ok_is_truth (T : Txt K mg A)   : Kp P w K mg base CX0 1 A.f_is_truth ["thing"] [] (spIsB K) := by
  obtain ⟨fd, F⟩ := T.d_is_truth.ex
  refine ⟨fd, fnG_nx (k := 0) F sc_is_truth (fun vs H Q E h => ?_) (fun cdv Ar outer s H vs Q E hcl hr h => ?_), F.binds (fun _ _ _ _ _ _ us hl => match us, hl with | [_], _ => rfl)⟩
  · obtain ⟨p, v, rfl, kn, q⟩ := h
    rfl
  · obtain ⟨p, v, rfl, kn, q⟩ := h
    have hu64 := hr.units
    have hu := hu_of hr
    refine ⟨_, (pss_one (ps_ret (pe_callB call_isBool (by rfl) T.z_isinstance (by decide +kernel) (pa_cons (pv 0) (pa_cons (pe_bltn (v := .ty "bool") rfl T.z_bool (by decide +kernel) rfl) pa_nil))))), ?_⟩
    walk_at "vc"
    exact ⟨p, v, rfl, kn, q H (Same.refl H)⟩

theorem ok_is_number (T : Txt K mg A) (G_is_truth : Kp P w K mg base CX0 1 A.f_is_truth ["thing"] [] (spIsB K))  : Kp P w K mg base CX0 2 A.f_is_number ["thing"] [] (spIs0 K numb) := by
  obtain ⟨fd, F⟩ := T.d_is_number.ex
  refine ⟨fd, fnG_nx (k := 1) F sc_is_number (fun vs H Q E h => ?_) (fun cdv Ar outer s H vs Q E hcl hr h => ?_), F.binds (fun _ _ _ _ _ _ us hl => match us, hl with | [_], _ => rfl)⟩
  · obtain ⟨p, v, rfl, kn, q⟩ := h
    rfl
  · obtain ⟨p, v, rfl, kn, q⟩ := h
    have hu64 := hr.units
    have hu := hu_of hr
    refine ⟨_, (pss_one (ps_ret (pe_and (pe_callB call_isInt (by rfl) T.z_isinstance (by decide +kernel) (pa_cons (pv 0) (pa_cons (pe_bltn (v := .ty "int") rfl T.z_int (by decide +kernel) rfl) pa_nil))) (pe_one (pe_not (pe_fn (callK0 G_is_truth hcl (hr.mono (by decide)) pass0) (by rfl) T.d_is_truth.mg T.d_is_truth.kp (pa_cons (pv 0) pa_nil))))))), ?_⟩
    walk_at "vc"
    refine ⟨p, v, rfl, kn, ?_⟩
    walk_at "vc"
    refine w_iteB (fun c => ?_) (fun c => ?_)
    · walk_at "vc"
      refine ⟨p, v, rfl, kn, fun H1 e1 => ?_⟩
      walk_at "vc"
      cases c2 : isBool v with
      | true =>
        have := q H1 e1
        rw [nb_not2 c2] at this
        exact this
      | false =>
        obtain ⟨i, rfl⟩ := int_of c c2
        exact q H1 e1
    · have := q H (Same.refl H)
      rw [nb_not c] at this
      exact this

theorem ok_is_at_least (T : Txt K mg A) (G_is_number : Kp P w K mg base CX0 2 A.f_is_number ["thing"] [] (spIs0 K numb))  : Kp P w K mg base CX0 3 A.f_is_at_least ["thing", "low"] [] (spIs2 K atl) := by
  obtain ⟨fd, F⟩ := T.d_is_at_least.ex
  refine ⟨fd, fnG_nx (k := 2) F sc_is_at_least (fun vs H Q E h => ?_) (fun cdv Ar outer s H vs Q E hcl hr h => ?_), F.binds (fun _ _ _ _ _ _ us hl => match us, hl with | [_, _], _ => rfl)⟩
  · obtain ⟨p, v, low, rfl, kn, q⟩ := h
    rfl
  · obtain ⟨p, v, low, rfl, kn, q⟩ := h
    have hu64 := hr.units
    have hu := hu_of hr
    refine ⟨_, (pss_one (ps_ret (pe_and (pe_fn (callK0 G_is_number hcl (hr.mono (by decide)) pass0) (by rfl) T.d_is_number.mg T.d_is_number.kp (pa_cons (pv 0) pa_nil)) (pe_one (pe_cmpR op_le (pv 1) (pv 0) (nomark _)))))), ?_⟩
    walk_at "vc"
    refine ⟨p, v, rfl, kn, fun H1 e1 => ?_⟩
    walk_at "vc"
    cases c : numb v with
    | true =>
      refine w_itT rfl ?_
      obtain ⟨i, rfl⟩ := nb_int c
      walk_at "vc"
      exact q H1 e1
    | false =>
      refine w_itF rfl ?_
      have := q H1 e1
      rw [nb_atl c] at this
      exact this

theorem ok_is_whole (T : Txt K mg A) (G_is_at_least : Kp P w K mg base CX0 3 A.f_is_at_least ["thing", "low"] [] (spIs2 K atl))  : Kp P w K mg base CX0 4 A.f_is_whole ["thing", "low", "high"] [] (spIs3 K whl) := by
  obtain ⟨fd, F⟩ := T.d_is_whole.ex
  refine ⟨fd, fnG_nx (k := 3) F sc_is_whole (fun vs H Q E h => ?_) (fun cdv Ar outer s H vs Q E hcl hr h => ?_), F.binds (fun _ _ _ _ _ _ us hl => match us, hl with | [_, _, _], _ => rfl)⟩
  · obtain ⟨p, v, low, high, rfl, kn, q⟩ := h
    rfl
  · obtain ⟨p, v, low, high, rfl, kn, q⟩ := h
    have hu64 := hr.units
    have hu := hu_of hr
    refine ⟨_, (pss_one (ps_ret (pe_and (pe_fn (callK0 G_is_at_least hcl (hr.mono (by decide)) pass0) (by rfl) T.d_is_at_least.mg T.d_is_at_least.kp (pa_cons (pv 0) (pa_cons (pv 1) pa_nil))) (pe_one (pe_cmpR op_le (pv 0) (pv 2) (nomark _)))))), ?_⟩
    walk_at "vc"
    refine ⟨p, v, low, rfl, kn, fun H1 e1 => ?_⟩
    walk_at "vc"
    cases c : atl v low with
    | true =>
      refine w_itT rfl ?_
      obtain ⟨i, rfl, hi⟩ := al_int c
      walk_at "vc"
      have := q H1 e1
      have e : whl (.int i) low high = decide (i ≤ high) := by
        show (decide (low ≤ i) && decide (i ≤ high)) = _
        rw [hi, Bool.true_and]
      rw [e] at this
      exact this
    | false =>
      refine w_itF rfl ?_
      have := q H1 e1
      rw [wh_al c] at this
      exact this

theorem ok__is_made_of (T : Txt K mg A)   : Kp P w K mg base CX0 1 A.f__is_made_of ["text", "signs"] [] (spMade) := by
  obtain ⟨fd, F⟩ := T.d__is_made_of.ex
  refine ⟨fd, fnG_nx (k := 0) F sc__is_made_of (fun vs H Q E h => ?_) (fun cdv Ar outer s H vs Q E hcl hr h => ?_), F.binds (fun _ _ _ _ _ _ us hl => match us, hl with | [_, _], _ => rfl)⟩
  · obtain ⟨z, t, rfl, hz, q⟩ := h
    rfl
  · obtain ⟨z, t, rfl, hz, q⟩ := h
    have hu64 := hr.units
    have hu := hu_of hr
    refine ⟨_, (pss_one (ps_ret (pe_and (pe_cmpR op_ne (pv 0) pe_str (nomark _)) (pe_one (pe_callB (cr_all rfl) (by rfl) T.z_all (by decide +kernel) (pa_cons (pe_lc (own := [("sign", 2)]) (by rfl) sc__is_made_of.nd (pi_str (pv 0)) (blkOk_by (own := [("sign", 2)]) (N := ["text", "signs", "sign"]) (sc := defScope s__is_made_of) (by decide +kernel)) (fun _ _ _ _ _ => pg_name (i := 2) sc__is_made_of.nd rfl (Or.inl rfl)) (fun _ _ _ _ _ => pts_nil) (fun _ _ _ _ _ => (pe_cmpR op_in_sign (pv 2) (pv 1) rfl))) pa_nil)))))), ?_⟩
    walk_at "vc"
    cases c : decide (V.str z = V.str "") with
    | true =>
      refine w_itF rfl ?_
      have := q H (Same.refl H)
      rw [c] at this
      exact this
    | false =>
      refine w_itT rfl ?_
      have hq := q
      rw [c] at hq
      walk_at "vc"
      refine w_str1 ?_
      refine lcs_go (wk_str (z := z)) (lcs_of z.cps.toList (fun _ => true) (fun c => .bl (decide (c ∈ t.cps.toList))) (by simp) (by have : z.cps.size = z.length := rfl; omega) (fun _ _ => trivial) ?_ ?_)
      · rintro i c x H' R S hc ⟨c', hc', rfl⟩ s1 kR kS
        have ec : c' = c := by
          rw [Array.getElem?_toList] at hc
          rw [hc] at hc'
          exact (Option.some.inj hc').symm
        subst ec
        walk_at "vc"
        refine ⟨rfl, ?_⟩
        walk_at "vc"
        refine w_itT rfl ?_
        walk_at "vc"
        refine ⟨c', t, rfl, rfl, ?_⟩
        exact kR rfl H' (Same.refl _)
      · intro D H' nD s1 hD
        rw [keep_all] at hD
        walk_at "vc"
        refine ⟨D, z.cps.toList.map fun c => decide (c ∈ t.cps.toList), rfl, .of (by rw [List.map_map]; exact hD), ?_⟩
        have e : (z.cps.toList.map fun c => decide (c ∈ t.cps.toList)).all id = allIn z t := by
          unfold allIn
          rw [List.all_map]
          rfl
        rw [e]
        exact hq H' s1

theorem ok_is_name (T : Txt K mg A) (G__is_made_of : Kp P w K mg base CX0 1 A.f__is_made_of ["text", "signs"] [] (spMade))  : Kp P w K mg base CX0 2 A.f_is_name ["thing"] [] (spIs K nam) := by
  obtain ⟨fd, F⟩ := T.d_is_name.ex
  refine ⟨fd, fnG_nx (k := 1) F sc_is_name (fun vs H Q E h => ?_) (fun cdv Ar outer s H vs Q E hcl hr h => ?_), F.binds (fun _ _ _ _ _ _ us hl => match us, hl with | [_], _ => rfl)⟩
  · obtain ⟨p, v, rfl, kn, sm, q⟩ := h
    rfl
  · obtain ⟨p, v, rfl, kn, sm, q⟩ := h
    have hu64 := hr.units
    have hu := hu_of hr
    refine ⟨_, (pss_one (ps_ret (pe_and (pe_callB call_isStr (by rfl) T.z_isinstance (by decide +kernel) (pa_cons (pv 0) (pa_cons (pe_bltn (v := .ty "str") rfl T.z_str (by decide +kernel) rfl) pa_nil))) (pe_and (pe_cmpR op_le (pe_callB call_len_str (by rfl) T.z_len (by decide +kernel) (pa_cons (pv 0) pa_nil)) (pe_gv (by rfl) T.c__NAME_SIGNS) (nomark _)) (pe_one (pe_fn (callK0 G__is_made_of hcl (hr.mono (by decide)) pass0) (by rfl) T.d__is_made_of.mg T.d__is_made_of.kp (pa_cons (pv 0) (pa_cons (pe_gv (by rfl) T.c__LETTERS) pa_nil)))))))), ?_⟩
    walk_at "vc"
    refine ⟨p, v, rfl, kn, ?_⟩
    walk_at "vc"
    refine w_iteB (fun c => ?_) (fun c => ?_)
    · obtain ⟨z, rfl⟩ := str_of c
      obtain ⟨hz, ha⟩ := sm z rfl
      walk_at "vc"
      refine ⟨z, rfl, sz_ok hz, ?_⟩
      walk_at "vc"
      have hq := q
      simp only [nam] at hq
      cases c2 : decide ((z.length : Int) ≤ 8) with
      | true =>
        refine w_itT rfl ?_
        rw [c2] at hq
        walk_at "vc"
        exact ⟨z, _, rfl, hz, fun H1 e1 => hq H1 e1⟩
      | false =>
        refine w_itF rfl ?_
        rw [c2] at hq
        exact hq H (Same.refl H)
    · have := q H (Same.refl H)
      rw [nam_not c] at this
      exact this


def intv : V → Int
  | .int i => i
  | _ => 0
/-- what is refused first: a name (true) or a number -/
def dueOf (n p b s w f r : V) : Option (Bool × V) :=
  if nam n = false then some (true, n) else if (!decide (p = .non) && !nam p) = true then some (true, p) else if whl b 0 100 = false then some (false, b) else if whl s 0 (intv b) = false then some (false, s) else
  if whl w 0 5 = false then some (false, w) else if whl f 0 5 = false then some (false, f) else if whl r 0 9 = false then some (false, r) else none
def spNeed (K : PySem.W.Frag) (C : Addr) : Sp := fun vs H Q E => ∃ p v high, vs = [v, .int high] ∧ Kn K p H v ∧ (whl v 0 high = true → ∀ H', Same H H' → Q .non H') ∧ (whl v 0 high = false → ∀ d H', Same H H' → H' d = some (.xd [("found", v)]) → E (.ref C) (some d) H')
def spTold (C : Addr) : Sp := fun vs H Q _ => ∃ x dx v, vs = [.ref x] ∧ H x = some (.ins C dx [("_told", v)]) ∧ Q v H
def spInit (K : PySem.W.Frag) (C N1 N2 : Addr) : Sp := fun vs H Q E => ∃ (q x dx : Addr) (n p b s w f r : V), vs = [.ref x, n, p, b, s, w, f, r] ∧ H x = some (.ins C dx []) ∧ Kn K q H n ∧ Kn K q H p ∧ Kn K q H b ∧ Kn K q H s ∧ Kn K q H w ∧ Kn K q H f ∧ Kn K q H r ∧ Sml n ∧ Sml p ∧
  (dueOf n p b s w f r = none → ∀ t H', Bt x H H' → H' x = some (.ins C dx [("_told", .ref t)]) → H' t = some (.tup [n, p, b, s, w, f, r]) → Q .non H') ∧
  (∀ nm v, dueOf n p b s w f r = some (nm, v) → ∀ d H', Same H H' → H' d = some (.xd [("found", v)]) → E (.ref (if nm = true then N1 else N2)) (some d) H')
theorem wh_int {v : V} {lo hi : Int} (h : whl v lo hi = true) : ∃ i, v = .int i := by cases v <;> first | exact ⟨_, rfl⟩ | cases h

theorem ok__need_whole (T : Txt K mg A) (G_is_whole : Kp P w K mg base CX0 4 A.f_is_whole ["thing", "low", "high"] [] (spIs3 K whl)) (G_NoNumber_init : Kp P w K mg base CX0 1 A.f_NoNumber_init ["self", "found"] [] (spErr "found" A.C_NoNumber))  : Kp P w K mg base (L2.CX P w) 5 A.f__need_whole ["thing", "high"] [] (spNeed K A.C_NoNumber) := by
  obtain ⟨fd, F⟩ := T.d__need_whole.ex
  refine ⟨fd, fnG_of (k := 4) F sc__need_whole (fun vs H Q E h => ?_) (fun cdv Ar outer s H vs Q E hcl hr h => ?_), F.binds (fun _ _ _ _ _ _ us hl => match us, hl with | [_, _], _ => rfl)⟩
  · obtain ⟨p, v, high, rfl, kn, q1, q2⟩ := h
    rfl
  · obtain ⟨p, v, high, rfl, kn, q1, q2⟩ := h
    have hu64 := hr.units
    have hu := hu_of hr
    refine ⟨_, (pss_one (ps_if (pt_not (pt_val (pe_fn (callK0 G_is_whole hcl (hr.mono (by decide)) pass0) (by rfl) T.d_is_whole.mg T.d_is_whole.kp (pa_cons (pv 0) (pa_cons pe_int (pa_cons (pv 1) pa_nil)))))) (pss_one (ps_rz rfl (takes_of rfl rfl rfl rfl) (pmk_err T.e_NoNumber G_NoNumber_init hcl (hr.mono (by decide)) (by rfl) (pa_cons (pv 0) pa_nil)))) pss_nil)), ?_⟩
    walk_at "vc"
    refine ⟨p, v, 0, high, rfl, kn, fun H1 e1 => ?_⟩
    walk_at "vc"
    cases c : whl v 0 high with
    | true =>
      refine w_itF rfl ?_
      walk_at "vc"
      exact q1 c H1 e1
    | false =>
      refine w_itT rfl ?_
      walk_at "vc"
      exact ⟨v, rfl, fun d nd => q2 c d _ (e1.trans (same_new nd)) upd_same⟩

theorem ok_Device_told (T : Txt K mg A)   : Kp P w K mg base CX0 1 A.f_Device_told ["self"] [] (spTold A.C_Device) := by
  obtain ⟨fd, F⟩ := T.n_Device_told
  refine ⟨fd, fnG_nx (k := 0) F sc_Device_told (fun vs H Q E h => ?_) (fun cdv Ar outer s H vs Q E hcl hr h => ?_), F.binds (fun _ _ _ _ _ _ us hl => match us, hl with | [_], _ => rfl)⟩
  · obtain ⟨x, dx, v, rfl, hx, q⟩ := h
    rfl
  · obtain ⟨x, dx, v, rfl, hx, q⟩ := h
    have hu64 := hr.units
    have hu := hu_of hr
    refine ⟨_, (pss_one (ps_ret (pe_fld (pv 0) rfl))), ?_⟩
    walk_at "vc"
    exact ⟨x, _, dx, _, v, rfl, hx, T.cls_Device, T.nf_Device__told, rfl, q⟩

theorem ok_Device_init (T : Txt K mg A) (G_is_name : Kp P w K mg base CX0 2 A.f_is_name ["thing"] [] (spIs K nam)) (G__need_whole : Kp P w K mg base (L2.CX P w) 5 A.f__need_whole ["thing", "high"] [] (spNeed K A.C_NoNumber)) (G_NoName_init : Kp P w K mg base CX0 1 A.f_NoName_init ["self", "found"] [] (spErr "found" A.C_NoName))  : Kx P w K mg base (L2.CX P w) 6 "__init__" "Device.__init__" s_Device_init [] ([("parent", .non), ("burn", .int 5), ("sip", .int 1), ("wake", .int 1), ("fall", .int 1), ("rest", .int 0)] : List (Str × V)) A.f_Device_init ["self", "name", "parent", "burn", "sip", "wake", "fall", "rest"] (spInit K A.C_Device A.C_NoName A.C_NoNumber) := by
  obtain ⟨fd, F⟩ := T.n_Device_init
  refine ⟨fd, fnG_D (k := 5) F sc_Device_init (fun vs H Q E h => ?_) (fun cdv Ar outer s H vs Q E hcl hr h => ?_), F⟩
  · obtain ⟨q, x, dx, n, p, b, s', w', f, r, rfl, hx, kn, kp, kb, ks, kw, kf, kr, sn, sp, q1, q2⟩ := h
    rfl
  · obtain ⟨q, x, dx, n, p, b, s', w', f, r, rfl, hx, kn, kp, kb, ks, kw, kf, kr, sn, sp, q1, q2⟩ := h
    have hu64 := hr.units
    have hu := hu_of hr
    refine ⟨_, (pss_cons (ps_if (pt_not (pt_val (pe_fn (callK0 G_is_name hcl (hr.mono (by decide)) pass0) (by rfl) T.d_is_name.mg T.d_is_name.kp (pa_cons (pv 1) pa_nil)))) (pss_one (ps_rz rfl (takes_of rfl rfl rfl rfl) (pmk_err T.e_NoName G_NoName_init hcl (hr.mono (by decide)) (by rfl) (pa_cons (pv 1) pa_nil)))) pss_nil)
      (pss_cons (ps_if (PW.pt (pw_and (pt_cmpR op_notN (pv 2) pe_non (nomark _)) (pw_and1 (pt_not (pt_val (pe_fn (callK0 G_is_name hcl (hr.mono (by decide)) pass0) (by rfl) T.d_is_name.mg T.d_is_name.kp (pa_cons (pv 2) pa_nil))))))) (pss_one (ps_rz rfl (takes_of rfl rfl rfl rfl) (pmk_err T.e_NoName G_NoName_init hcl (hr.mono (by decide)) (by rfl) (pa_cons (pv 2) pa_nil)))) pss_nil)
      (pss_cons (ps_expr (pe_fnS (callS G__need_whole hcl (hr.mono (by decide)) (takes_of rfl rfl rfl rfl)) (by rfl) T.d__need_whole.mg T.d__need_whole.kp (pa_cons (pv 3) (pa_cons (pe_gv (by rfl) T.c__MOST_BURN) pa_nil))))
      (pss_cons (ps_expr (pe_fnS (callS G__need_whole hcl (hr.mono (by decide)) (takes_of rfl rfl rfl rfl)) (by rfl) T.d__need_whole.mg T.d__need_whole.kp (pa_cons (pv 4) (pa_cons (pv 3) pa_nil))))
      (pss_cons (ps_expr (pe_fnS (callS G__need_whole hcl (hr.mono (by decide)) (takes_of rfl rfl rfl rfl)) (by rfl) T.d__need_whole.mg T.d__need_whole.kp (pa_cons (pv 5) (pa_cons (pe_gv (by rfl) T.c__MOST_TURNS) pa_nil))))
      (pss_cons (ps_expr (pe_fnS (callS G__need_whole hcl (hr.mono (by decide)) (takes_of rfl rfl rfl rfl)) (by rfl) T.d__need_whole.mg T.d__need_whole.kp (pa_cons (pv 6) (pa_cons (pe_gv (by rfl) T.c__MOST_TURNS) pa_nil))))
      (pss_cons (ps_expr (pe_fnS (callS G__need_whole hcl (hr.mono (by decide)) (takes_of rfl rfl rfl rfl)) (by rfl) T.d__need_whole.mg T.d__need_whole.kp (pa_cons (pv 7) (pa_cons (pe_gv (by rfl) T.c__MOST_REST) pa_nil))))
      (pss_one (ps_fld (pv 0) (pe_tup (pa_cons (pv 1) (pa_cons (pv 2) (pa_cons (pv 3) (pa_cons (pv 4) (pa_cons (pv 5) (pa_cons (pv 6) (pa_cons (pv 7) pa_nil)))))))) rfl))))))))), ?_⟩
    unfold dueOf at q1 q2
    walk_at "vc"
    refine ⟨q, n, rfl, kn, sn, fun H1 e1 => ?_⟩
    walk_at "vc"
    cases c1 : nam n with
    | false =>
      refine w_itT rfl ?_
      walk_at "vc"
      exact ⟨n, rfl, fun d nd => q2 true n (by rw [if_pos c1]) d _ (e1.trans (same_new nd)) upd_same⟩
    | true =>
      rw [if_neg (by rw [c1]; decide)] at q1 q2
      refine w_itF rfl ?_
      walk_at "vc"
      apply w_both (P := ∀ G, Same H G → ((!decide (p = .non) && !nam p) = true → False) → _)
      · intro rest
        cases c0 : decide (p = .non) with
        | true =>
          refine w_itF rfl ?_
          refine w_itF rfl ?_
          exact rest H1 e1 (by rw [c0]; simp)
        | false =>
          refine w_itT rfl ?_
          walk_at "vc"
          refine ⟨q, p, rfl, kp.same e1, sp, fun H2 e2 => ?_⟩
          walk_at "vc"
          cases c2 : nam p with
          | false =>
            refine w_itT rfl ?_
            walk_at "vc"
            exact ⟨p, rfl, fun d nd => q2 true p (by rw [if_pos (by rw [c0, c2]; rfl)]) d _ ((e1.trans e2).trans (same_new nd)) upd_same⟩
          | true =>
            refine w_itF rfl ?_
            exact rest H2 (e1.trans e2) (by rw [c0, c2]; simp)
      · intro G0 g0 np
        rw [if_neg np] at q1 q2
        walk_at "vc"
        refine ⟨q, b, _, rfl, kb.same g0, fun c H1' h1 => ?_, fun c d H' e hd => q2 false b (by rw [if_pos c]) d _ (g0.trans e) hd⟩
        rw [if_neg (by rw [c]; decide)] at q1 q2
        have g1 := g0.trans h1
        obtain ⟨bi, rfl⟩ := wh_int c
        have ib : intv (.int bi) = bi := rfl
        rw [ib] at q1 q2
        walk_at "vc"
        refine ⟨q, s', bi, rfl, ks.same g1, fun c H2' h2 => ?_, fun c d H' e hd => q2 false s' (by rw [if_pos c]) d _ (g1.trans e) hd⟩
        rw [if_neg (by rw [c]; decide)] at q1 q2
        have g2 := g1.trans h2
        walk_at "vc"
        refine ⟨q, w', _, rfl, kw.same g2, fun c H3' h3 => ?_, fun c d H' e hd => q2 false w' (by rw [if_pos c]) d _ (g2.trans e) hd⟩
        rw [if_neg (by rw [c]; decide)] at q1 q2
        have g3 := g2.trans h3
        walk_at "vc"
        refine ⟨q, f, _, rfl, kf.same g3, fun c H4' h4 => ?_, fun c d H' e hd => q2 false f (by rw [if_pos c]) d _ (g3.trans e) hd⟩
        rw [if_neg (by rw [c]; decide)] at q1 q2
        have g4 := g3.trans h4
        walk_at "vc"
        refine ⟨q, r, _, rfl, kr.same g4, fun c H5' h5 => ?_, fun c d H' e hd => q2 false r (by rw [if_pos c]) d _ (g4.trans e) hd⟩
        rw [if_neg (by rw [c]; decide)] at q1 q2
        have g5 := g4.trans h5
        walk_at "vc"
        refine ⟨sz_ok (by simp), fun t nt => ?_⟩
        walk_at "vc"
        have hx5 := g5 _ _ hx
        have tx : x ≠ t := ne_of_none hx5 nt
        refine ⟨x, _, dx, [], rfl, (by rw [upd_ne tx]; exact hx5), T.cls_Device, T.nf_Device__told, by decide, ?_⟩
        walk_at "vc"
        exact q1 rfl t _ (((Bt.of g5).trans (.new nt)).trans Bt.at_) upd_same (by rw [upd_ne tx.symm, upd_same])


def AskAns (n p b s w f r : V) (H : Hp) (la : Addr) : Prop := match dueOf n p b s w f r with
  | none => ∃ t, H la = some (.lst [.str "told", .ref t]) ∧ H t = some (.tup [n, p, b, s, w, f, r])
  | some (nm, v) => H la = some (.lst [.str (if nm = true then "name" else "number"), v])
theorem ans_ok {n p b s w f r : V} {H : Hp} {la t : Addr} (h : dueOf n p b s w f r = none) (a : H la = some (.lst [.str "told", .ref t])) (c : H t = some (.tup [n, p, b, s, w, f, r])) : AskAns n p b s w f r H la := by
  unfold AskAns
  rw [h]
  exact ⟨t, a, c⟩
theorem ans_no {n p b s w f r v : V} {nm : Bool} {H : Hp} {la : Addr} (h : dueOf n p b s w f r = some (nm, v)) (a : H la = some (.lst [.str (if nm = true then "name" else "number"), v])) : AskAns n p b s w f r H la := by
  unfold AskAns
  rw [h]
  exact a
theorem same_new2 {H : Hp} {x dx : Addr} {o u : HO} (nx : H x = none) (nd : H dx = none) : Same H (upd (upd H dx u) x o) := fun b o' e => by rw [upd_ne (ne_of_none e nx), upd_ne (ne_of_none e nd)]; exact e
theorem bt_fresh {H G G' : Hp} {x : Addr} (e : Same H G) (nx : H x = none) (b : Bt x G G') : Same H G' := fun a o h => b a o (ne_of_none h nx) (e _ _ h)
def spAsk (K : PySem.W.Frag) : Sp := fun vs H Q _ => ∃ (q l : Addr) (way : Int) (n p b s w f r : V), vs = [.ref l, .int way] ∧ H l = some (.lst [n, p, b, s, w, f, r]) ∧ Kn K q H n ∧ Kn K q H p ∧ Kn K q H b ∧ Kn K q H s ∧ Kn K q H w ∧ Kn K q H f ∧ Kn K q H r ∧ Sml n ∧ Sml p ∧
  ∀ la H', Same H H' → la ≠ sysModules → (if way = 0 then AskAns n p b s w f r H' la else if way = 1 then AskAns n p b s (.int 1) f r H' la else AskAns n .non b s (.int 1) (.int 1) (.int 0) H' la) → Q (.ref la) H'
theorem sml_non : Sml .non := fun _ h => nomatch h

theorem ok__law_asked (T : Txt K mg A) (G_Device_init : Kx P w K mg base (L2.CX P w) 6 "__init__" "Device.__init__" s_Device_init [] ([("parent", .non), ("burn", .int 5), ("sip", .int 1), ("wake", .int 1), ("fall", .int 1), ("rest", .int 0)] : List (Str × V)) A.f_Device_init ["self", "name", "parent", "burn", "sip", "wake", "fall", "rest"] (spInit K A.C_Device A.C_NoName A.C_NoNumber)) (G_Device_told : Kp P w K mg base CX0 1 A.f_Device_told ["self"] [] (spTold A.C_Device))  : Kp P w K mg base CX0 8 A.f__law_asked ["_law_row", "_law_way"] [] (spAsk K) := by
  obtain ⟨fd, F⟩ := T.d__law_asked.ex
  refine ⟨fd, fnG_nx (k := 7) F sc__law_asked (fun vs H Q E h => ?_) (fun cdv Ar outer s H vs Q E hcl hr h => ?_), F.binds (fun _ _ _ _ _ _ us hl => match us, hl with | [_, _], _ => rfl)⟩
  · obtain ⟨q', l, way, n, p, b, s', w', f, r, rfl, hl, kn, kp, kb, ks, kw, kf, kr, sn, sp, q⟩ := h
    rfl
  · obtain ⟨q', l, way, n, p, b, s', w', f, r, rfl, hl, kn, kp, kb, ks, kw, kf, kr, sn, sp, q⟩ := h
    have hu64 := hr.units
    have hu := hu_of hr
    refine ⟨_, (pss_one (ps_tryN rfl rfl sc__law_asked.nd takes0 (fun W pn xe tkW po => (pss_cons (ps_if (pt_cmpR op_eq (pv 1) pe_int (nomark _)) (pss_one (ps_set (i := 2) sc__law_asked.nd rfl (Or.inl rfl) (pe_fnKS (callKS_mk G_Device_init T.mk_Device hcl (hr.mono (by decide)) (fun _ F => kb_Device_init_2_parent_burn_sip_wake_fall_rest F) tkW) (by rfl) T.m_Device T.mk_Device.kp (pa_cons (pe_ix (ix_listT (K := K) rfl) (pv 0) pe_int (fun _ _ => rfl)) pa_nil) (pk_cons (pe_ix (ix_listT (K := K) rfl) (pv 0) pe_int (fun _ _ => rfl)) (pk_cons (pe_ix (ix_listT (K := K) rfl) (pv 0) pe_int (fun _ _ => rfl)) (pk_cons (pe_ix (ix_listT (K := K) rfl) (pv 0) pe_int (fun _ _ => rfl)) (pk_cons (pe_ix (ix_listT (K := K) rfl) (pv 0) pe_int (fun _ _ => rfl)) (pk_cons (pe_ix (ix_listT (K := K) rfl) (pv 0) pe_int (fun _ _ => rfl)) (pk_cons (pe_ix (ix_listT (K := K) rfl) (pv 0) pe_int (fun _ _ => rfl)) pk_nil))))))))) (pss_one (ps_if (pt_cmpR op_eq (pv 1) pe_int (nomark _)) (pss_one (ps_set (i := 2) sc__law_asked.nd rfl (Or.inl rfl) (pe_fnKS (callKS_mk G_Device_init T.mk_Device hcl (hr.mono (by decide)) (fun _ F => kb_Device_init_2_rest_fall_sip_burn_parent F) tkW) (by rfl) T.m_Device T.mk_Device.kp (pa_cons (pe_ix (ix_listT (K := K) rfl) (pv 0) pe_int (fun _ _ => rfl)) pa_nil) (pk_cons (pe_ix (ix_listT (K := K) rfl) (pv 0) pe_int (fun _ _ => rfl)) (pk_cons (pe_ix (ix_listT (K := K) rfl) (pv 0) pe_int (fun _ _ => rfl)) (pk_cons (pe_ix (ix_listT (K := K) rfl) (pv 0) pe_int (fun _ _ => rfl)) (pk_cons (pe_ix (ix_listT (K := K) rfl) (pv 0) pe_int (fun _ _ => rfl)) (pk_cons (pe_ix (ix_listT (K := K) rfl) (pv 0) pe_int (fun _ _ => rfl)) pk_nil)))))))) (pss_one (ps_set (i := 2) sc__law_asked.nd rfl (Or.inl rfl) (pe_fnKS (callKS_mk G_Device_init T.mk_Device hcl (hr.mono (by decide)) (fun _ F => kb_Device_init_2_sip_burn F) tkW) (by rfl) T.m_Device T.mk_Device.kp (pa_cons (pe_ix (ix_listT (K := K) rfl) (pv 0) pe_int (fun _ _ => rfl)) pa_nil) (pk_cons (pe_ix (ix_listT (K := K) rfl) (pv 0) pe_int (fun _ _ => rfl)) (pk_cons (pe_ix (ix_listT (K := K) rfl) (pv 0) pe_int (fun _ _ => rfl)) pk_nil))))))))
      (pss_one (ps_ret (pe_lst4 (pa_cons pe_str (pa_cons (pe_mth0 (pv 2) T.cls_Device T.me_Device_told (callK0 G_Device_told hcl (hr.mono (by decide)) pass0)) pa_nil))))))) (.as_ (i := 3) rfl rfl ⟨by rfl, by decide, Or.inl T.e_NoName.mg⟩ (fun a oe cls d pn hz hf => (pss_one (ps_ret (pe_lst4 (pa_cons pe_str (pa_cons (pe_xf T.e_NoName.xf T.e_NoName.nof hz hf (pv 3)) pa_nil)))))) (.as_ (i := 3) rfl rfl ⟨by rfl, by decide, Or.inl T.e_NoNumber.mg⟩ (fun a oe cls d pn hz hf => (pss_one (ps_ret (pe_lst4 (pa_cons pe_str (pa_cons (pe_xf T.e_NoNumber.xf T.e_NoNumber.nof hz hf (pv 3)) pa_nil)))))) .never)))), ?_⟩
    walk_at "vc"
    refine w_ite (fun c0 => ?_) (fun c0 => ?_)
    · have c0 : way = 0 := by simpa using c0
      walk_at "vc"
      refine w_ixL (.of hl) (atI_nat (j := 0) rfl) ?_
      walk_at "vc"
      refine w_ixL (.of hl) (atI_nat (j := 1) rfl) ?_
      walk_at "vc"
      refine w_ixL (.of hl) (atI_nat (j := 2) rfl) ?_
      walk_at "vc"
      refine w_ixL (.of hl) (atI_nat (j := 3) rfl) ?_
      walk_at "vc"
      refine w_ixL (.of hl) (atI_nat (j := 4) rfl) ?_
      walk_at "vc"
      refine w_ixL (.of hl) (atI_nat (j := 5) rfl) ?_
      walk_at "vc"
      refine w_ixL (.of hl) (atI_nat (j := 6) rfl) ?_
      walk_at "vc"
      refine w_ckl rfl rfl ?_
      intro x dx nx nd nxd
      have e0 := same_new2 (o := .ins A.C_Device dx []) (u := .own x) nx nd
      refine ⟨q', x, dx, n, p, b, s', w', f, r, rfl, upd_same, (kn.same e0), (kp.same e0), (kb.same e0), (ks.same e0), (kw.same e0), (kf.same e0), (kr.same e0), sn, sp, fun hd t H' bt hx ht => ⟨rfl, ?_⟩, fun nm v hd d H' e hdd => ?_⟩
      · have e1 := bt_fresh e0 nx bt
        walk_at "vc"
        refine ⟨x, dx, _, rfl, hx, rfl, ?_⟩
        walk_at "vc"
        refine ⟨x, dx, _, rfl, hx, ?_⟩
        walk_at "vc"
        refine ⟨sz_ok (by simp), newL4_mk fun la G nla n4 sl hla => ?_⟩
        exact q la G (e1.trans sl) n4 (by rw [if_pos c0]; exact ans_ok hd hla (sl _ _ ht))
      · have e1 := e0.trans e
        cases nm with
        | true =>
          refine ⟨true, T.e_NoName.exm T.x_NoName_NoName, fun _ a na => ?_, fun z => nomatch z⟩
          walk_at "vc"
          refine ⟨rfl, rfl, d, _, v, rfl, hdd, rfl, ?_⟩
          walk_at "vc"
          refine ⟨sz_ok (by simp), newL4_mk fun la G nla n4 sl hla => ?_⟩
          exact q la G (e1.trans sl) n4 (by rw [if_pos c0]; exact ans_no hd hla)
        | false =>
          refine ⟨false, T.e_NoName.exm T.x_NoNumber_NoName, (fun z => nomatch z), fun _ => ⟨true, T.e_NoNumber.exm T.x_NoNumber_NoNumber, fun _ a na => ?_, fun z => nomatch z⟩⟩
          walk_at "vc"
          refine ⟨rfl, rfl, d, _, v, rfl, hdd, rfl, ?_⟩
          walk_at "vc"
          refine ⟨sz_ok (by simp), newL4_mk fun la G nla n4 sl hla => ?_⟩
          exact q la G (e1.trans sl) n4 (by rw [if_pos c0]; exact ans_no hd hla)
    · have c0 : ¬ way = 0 := by simpa using c0
      walk_at "vc"
      refine w_ite (fun c1 => ?_) (fun c1 => ?_)
      · have c1 : way = 1 := by simpa using c1
        walk_at "vc"
        refine w_ixL (.of hl) (atI_nat (j := 0) rfl) ?_
        walk_at "vc"
        refine w_ixL (.of hl) (atI_nat (j := 6) rfl) ?_
        walk_at "vc"
        refine w_ixL (.of hl) (atI_nat (j := 5) rfl) ?_
        walk_at "vc"
        refine w_ixL (.of hl) (atI_nat (j := 3) rfl) ?_
        walk_at "vc"
        refine w_ixL (.of hl) (atI_nat (j := 2) rfl) ?_
        walk_at "vc"
        refine w_ixL (.of hl) (atI_nat (j := 1) rfl) ?_
        walk_at "vc"
        refine w_ckl rfl rfl ?_
        intro x dx nx nd nxd
        have e0 := same_new2 (o := .ins A.C_Device dx []) (u := .own x) nx nd
        refine ⟨q', x, dx, n, p, b, s', .int 1, f, r, rfl, upd_same, (kn.same e0), (kp.same e0), (kb.same e0), (ks.same e0), (.int _), (kf.same e0), (kr.same e0), sn, sp, fun hd t H' bt hx ht => ⟨rfl, ?_⟩, fun nm v hd d H' e hdd => ?_⟩
        · have e1 := bt_fresh e0 nx bt
          walk_at "vc"
          refine ⟨x, dx, _, rfl, hx, rfl, ?_⟩
          walk_at "vc"
          refine ⟨x, dx, _, rfl, hx, ?_⟩
          walk_at "vc"
          refine ⟨sz_ok (by simp), newL4_mk fun la G nla n4 sl hla => ?_⟩
          exact q la G (e1.trans sl) n4 (by rw [if_neg c0, if_pos c1]; exact ans_ok hd hla (sl _ _ ht))
        · have e1 := e0.trans e
          cases nm with
          | true =>
            refine ⟨true, T.e_NoName.exm T.x_NoName_NoName, fun _ a na => ?_, fun z => nomatch z⟩
            walk_at "vc"
            refine ⟨rfl, rfl, d, _, v, rfl, hdd, rfl, ?_⟩
            walk_at "vc"
            refine ⟨sz_ok (by simp), newL4_mk fun la G nla n4 sl hla => ?_⟩
            exact q la G (e1.trans sl) n4 (by rw [if_neg c0, if_pos c1]; exact ans_no hd hla)
          | false =>
            refine ⟨false, T.e_NoName.exm T.x_NoNumber_NoName, (fun z => nomatch z), fun _ => ⟨true, T.e_NoNumber.exm T.x_NoNumber_NoNumber, fun _ a na => ?_, fun z => nomatch z⟩⟩
            walk_at "vc"
            refine ⟨rfl, rfl, d, _, v, rfl, hdd, rfl, ?_⟩
            walk_at "vc"
            refine ⟨sz_ok (by simp), newL4_mk fun la G nla n4 sl hla => ?_⟩
            exact q la G (e1.trans sl) n4 (by rw [if_neg c0, if_pos c1]; exact ans_no hd hla)
      · have c1 : ¬ way = 1 := by simpa using c1
        walk_at "vc"
        refine w_ixL (.of hl) (atI_nat (j := 0) rfl) ?_
        walk_at "vc"
        refine w_ixL (.of hl) (atI_nat (j := 3) rfl) ?_
        walk_at "vc"
        refine w_ixL (.of hl) (atI_nat (j := 2) rfl) ?_
        walk_at "vc"
        refine w_ckl rfl rfl ?_
        intro x dx nx nd nxd
        have e0 := same_new2 (o := .ins A.C_Device dx []) (u := .own x) nx nd
        refine ⟨q', x, dx, n, .non, b, s', .int 1, .int 1, .int 0, rfl, upd_same, (kn.same e0), .non, (kb.same e0), (ks.same e0), (.int _), (.int _), (.int _), sn, sml_non, fun hd t H' bt hx ht => ⟨rfl, ?_⟩, fun nm v hd d H' e hdd => ?_⟩
        · have e1 := bt_fresh e0 nx bt
          walk_at "vc"
          refine ⟨x, dx, _, rfl, hx, rfl, ?_⟩
          walk_at "vc"
          refine ⟨x, dx, _, rfl, hx, ?_⟩
          walk_at "vc"
          refine ⟨sz_ok (by simp), newL4_mk fun la G nla n4 sl hla => ?_⟩
          exact q la G (e1.trans sl) n4 (by rw [if_neg c0, if_neg c1]; exact ans_ok hd hla (sl _ _ ht))
        · have e1 := e0.trans e
          cases nm with
          | true =>
            refine ⟨true, T.e_NoName.exm T.x_NoName_NoName, fun _ a na => ?_, fun z => nomatch z⟩
            walk_at "vc"
            refine ⟨rfl, rfl, d, _, v, rfl, hdd, rfl, ?_⟩
            walk_at "vc"
            refine ⟨sz_ok (by simp), newL4_mk fun la G nla n4 sl hla => ?_⟩
            exact q la G (e1.trans sl) n4 (by rw [if_neg c0, if_neg c1]; exact ans_no hd hla)
          | false =>
            refine ⟨false, T.e_NoName.exm T.x_NoNumber_NoName, (fun z => nomatch z), fun _ => ⟨true, T.e_NoNumber.exm T.x_NoNumber_NoNumber, fun _ a na => ?_, fun z => nomatch z⟩⟩
            walk_at "vc"
            refine ⟨rfl, rfl, d, _, v, rfl, hdd, rfl, ?_⟩
            walk_at "vc"
            refine ⟨sz_ok (by simp), newL4_mk fun la G nla n4 sl hla => ?_⟩
            exact q la G (e1.trans sl) n4 (by rw [if_neg c0, if_neg c1]; exact ans_no hd hla)


theorem all_filter {α : Type} (p : α → Bool) : ∀ cs : List α, cs.all p = (cs.filter fun c => !p c).isEmpty
  | [] => rfl
  | c :: cs => by
    rw [List.all_cons, List.filter_cons, all_filter p cs]
    cases h : p c <;> simp
theorem nam_of {z : Str} (h8 : (z.length : Int) ≤ 8) (h1 : ¬ (z.length : Int) < 1) : nam (.str z) = (z.cps.toList.filter fun c => !decide (c ∈ LT.cps.toList)).isEmpty := by
  have hne : decide (V.str z = V.str "") = false := by
    refine decide_eq_false fun e => ?_
    have e' : z = "" := V.str.inj e
    rw [e'] at h1
    exact h1 (by decide)
  show (decide ((z.length : Int) ≤ 8) && (!decide (V.str z = V.str "") && allIn z LT)) = _
  rw [decide_eq_true h8, hne]
  unfold allIn
  exact all_filter _ _
theorem nam_short {z : Str} (h : (z.length : Int) < 1) : nam (.str z) = false := by
  have e : z = "" := by
    have h0 : z.cps.size = 0 := by
      have : z.length = z.cps.size := rfl
      omega
    cases z with
    | mk a =>
      have : a = #[] := Array.eq_empty_of_size_eq_zero h0
      rw [this]
      rfl
  subst e
  rfl
theorem nam_long {z : Str} (h : ¬ (z.length : Int) ≤ 8) : nam (.str z) = false := by
  show (decide ((z.length : Int) ≤ 8) && _) = false
  rw [decide_eq_false h]
  rfl


theorem lt_asc : ∀ c ∈ LT.cps.toList, c < 128 := by decide +kernel
theorem lt_len : LT.length = 26 := by decide +kernel

theorem ok__law_is_whole (T : Txt K mg A)   : Kp P w K mg base CX0 1 A.f__law_is_whole ["_law_thing", "_law_high"] [] (spIs2 K (fun v i => whl v 0 i)) := by
  obtain ⟨fd, F⟩ := T.d__law_is_whole.ex
  refine ⟨fd, fnG_nx (k := 0) F sc__law_is_whole (fun vs H Q E h => ?_) (fun cdv Ar outer s H vs Q E hcl hr h => ?_), F.binds (fun _ _ _ _ _ _ us hl => match us, hl with | [_, _], _ => rfl)⟩
  · obtain ⟨p, v, high, rfl, kn, q⟩ := h
    rfl
  · obtain ⟨p, v, high, rfl, kn, q⟩ := h
    have hu64 := hr.units
    have hu := hu_of hr
    refine ⟨_, (pss_one (ps_ret (pe_and (pe_callB call_isInt (by rfl) T.z_isinstance (by decide +kernel) (pa_cons (pv 0) (pa_cons (pe_bltn (v := .ty "int") rfl T.z_int (by decide +kernel) rfl) pa_nil))) (pe_and (pe_not (pe_callB call_isBool (by rfl) T.z_isinstance (by decide +kernel) (pa_cons (pv 0) (pa_cons (pe_bltn (v := .ty "bool") rfl T.z_bool (by decide +kernel) rfl) pa_nil)))) (pe_one (pe_chain op_le op_le pe_int (pv 0) (pv 1))))))), ?_⟩
    change ∀ H', Same H H' → Q (.bl (whl v 0 high)) H' at q
    walk_at "vc"
    refine ⟨p, v, rfl, kn, ?_⟩
    walk_at "vc"
    refine w_iteB (fun c => ?_) (fun c => ?_)
    · walk_at "vc"
      refine ⟨p, v, rfl, kn, ?_⟩
      walk_at "vc"
      cases c2 : isBool v with
      | true =>
        refine w_itF rfl ?_
        have := q H (Same.refl H)
        rw [wh_not2 c2] at this
        exact this
      | false =>
        obtain ⟨i, rfl⟩ := int_of c c2
        refine w_itT rfl ?_
        walk_at "vc"
        have hq := q
        simp only [whl] at hq
        refine w_ite (fun c3 => ?_) (fun c3 => ?_)
        · rw [decide_eq_true c3] at hq
          walk_at "vc"
          exact hq H (Same.refl H)
        · rw [decide_eq_false c3] at hq
          exact hq H (Same.refl H)
    · have := q H (Same.refl H)
      rw [wh_not c] at this
      exact this

theorem ok__law_is_name (T : Txt K mg A)   : Kp P w K mg base CX0 1 A.f__law_is_name ["_law_thing"] [] (spIs K nam) := by
  obtain ⟨fd, F⟩ := T.d__law_is_name.ex
  refine ⟨fd, fnG_nx (k := 0) F sc__law_is_name (fun vs H Q E h => ?_) (fun cdv Ar outer s H vs Q E hcl hr h => ?_), F.binds (fun _ _ _ _ _ _ us hl => match us, hl with | [_], _ => rfl)⟩
  · obtain ⟨p, v, rfl, kn, sm, q⟩ := h
    rfl
  · obtain ⟨p, v, rfl, kn, sm, q⟩ := h
    have hu64 := hr.units
    have hu := hu_of hr
    refine ⟨_, (pss_cons (ps_if (PW.pt (pw_or (pt_not (pt_val (pe_callB call_isStr (by rfl) T.z_isinstance (by decide +kernel) (pa_cons (pv 0) (pa_cons (pe_bltn (v := .ty "str") rfl T.z_str (by decide +kernel) rfl) pa_nil))))) (pw_or1 (pt_not (pt_chain op_le op_le pe_int (pe_callB call_len_str (by rfl) T.z_len (by decide +kernel) (pa_cons (pv 0) pa_nil)) pe_int))))) (pss_one (ps_ret pe_bl)) pss_nil)
      (pss_one (ps_ret (pe_cmpR (op_eqD hu64) (pe_lc (own := [("_law_sign", 1)]) (by rfl) sc__law_is_name.nd (pi_str (pv 0)) (blkOk_by (own := [("_law_sign", 1)]) (N := ["_law_thing", "_law_sign"]) (sc := defScope s__law_is_name) (by decide +kernel)) (fun _ _ _ _ _ => pg_name (i := 1) sc__law_is_name.nd rfl (Or.inl rfl)) (fun _ _ _ _ _ => pts_one (pt_cmpR op_notIn_sign (pv 1) pe_str rfl)) (fun _ _ _ _ _ => (pv 1))) (pe_lst pa_nil) (nomark _))))), ?_⟩
    walk_at "vc"
    refine ⟨p, v, rfl, kn, ?_⟩
    walk_at "vc"
    cases c : isStr v with
    | false =>
      refine w_itT rfl ?_
      refine w_itT rfl ?_
      walk_at "vc"
      have := q H (Same.refl H)
      rw [nam_not c] at this
      exact this
    | true =>
      obtain ⟨z, rfl⟩ := str_of c
      obtain ⟨hz, ha⟩ := sm z rfl
      refine w_itF rfl ?_
      walk_at "vc"
      refine ⟨z, rfl, sz_ok hz, ?_⟩
      walk_at "vc"
      refine w_ite (fun c1 => ?_) (fun c1 => ?_)
      · walk_at "vc"
        cases c2 : decide ((z.length : Int) ≤ 8) with
        | true =>
          refine w_itF rfl ?_
          walk_at "vc"
          refine w_str1 ?_
          refine lcs_go (wk_str (z := z)) (lcs_of z.cps.toList (fun c => !decide (c ∈ LT.cps.toList)) (fun c => .str ⟨#[c]⟩) (by simp) (by have : z.cps.size = z.length := rfl; omega) (fun _ _ => trivial) ?_ ?_)
          · rintro i c x H' R S hc ⟨c', hc', rfl⟩ s1 kR kS
            have ec : c' = c := by
              rw [Array.getElem?_toList] at hc
              rw [hc] at hc'
              exact (Option.some.inj hc').symm
            subst ec
            walk_at "vc"
            refine ⟨rfl, ?_⟩
            walk_at "vc"
            refine ⟨c', _, rfl, rfl, ?_⟩
            walk_at "vc"
            refine w_iteB (fun c3 => ?_) (fun c3 => ?_)
            · walk_at "vc"
              exact kR c3 H' (Same.refl _)
            · exact kS c3 H' (Same.refl _)
          · intro D H' nD s1 hD
            walk_at "vc"
            refine ⟨sz_ok (by simp), fun l nl => ?_⟩
            have nDl : D ≠ l := ne_of_none hD nl
            have es : (z.cps.toList.filter fun c => !decide (c ∈ LT.cps.toList)).map (fun c => V.str ⟨#[c]⟩) = ((z.cps.toList.filter fun c => !decide (c ∈ LT.cps.toList)).map fun c => (⟨#[c]⟩ : Str)).map V.str := by rw [List.map_map]; rfl
            rw [es] at hD
            refine ⟨.list _, .list [], .lst (.of (by rw [upd_ne nDl]; exact hD)) (dp_strs _), .lst (.of upd_same) .nil, shaped_strs ?_, by decide +kernel, ?_⟩
            · intro y hy
              obtain ⟨c4, hc4, rfl⟩ := List.mem_map.mp hy
              exact (one_sign (ha c4 (List.mem_filter.mp hc4).1)).2
            · rw [eqv_nil]
              have := q _ (s1.trans (same_new (o := .lst []) nl))
              rw [nam_of (of_decide_eq_true c2) (by omega)] at this
              simpa [List.isEmpty_iff] using this
        | false =>
          refine w_itT rfl ?_
          walk_at "vc"
          have := q H (Same.refl H)
          rw [nam_long (of_decide_eq_false c2)] at this
          exact this
      · walk_at "vc"
        refine w_itT (by rfl) ?_
        walk_at "vc"
        have := q H (Same.refl H)
        rw [nam_short (by omega)] at this
        exact this


/-- text of a row's thing -/
def ShT (z : Str) : Prop := z.length ≤ 40 ∧ Asc z
inductive Flat : V → Prop
  | int (i : Int) (h : i.natAbs < 2 ^ 110) : Flat (.int i)
  | str (z : Str) (h : ShT z) : Flat (.str z)
/-- a thing of a row: what stood in B is not it; not at p -/
inductive Th (B : Hp) (p : Addr) (H : Hp) : V → Prop
  | flat {v : V} (h : Flat v) : Th B p H v
  | bl (b : Bool) : Th B p H (.bl b)
  | non : Th B p H .non
  | lst {a : Addr} {y : V} (f : B a = none) (n : a ≠ p) (m : a ≠ sysModules) (e : H a = some (.lst [y])) (h : Flat y) : Th B p H (.ref a)
  | tup {a : Addr} {y : V} (f : B a = none) (n : a ≠ p) (e : H a = some (.tup [y])) (h : Flat y) : Th B p H (.ref a)
  | dct {a : Addr} (f : B a = none) (n : a ≠ p) (e : H a = some (.dK [])) : Th B p H (.ref a)
theorem Th.kn {K : PySem.W.Frag} {B H : Hp} {p : Addr} {v : V} (h : Th B p H v) : Kn K p H v := by
  cases h with
  | flat h =>
    cases h with
    | int i _ => exact .int i
    | str z _ => exact .str z
  | bl b => exact .bl b
  | non => exact .non
  | lst _ n _ e _ => exact .lst n e
  | tup _ n e _ => exact .tup n e
  | dct _ n e => exact .dct n e
theorem Th.sml {B H : Hp} {p : Addr} {v : V} (h : Th B p H v) : Sml v := by
  intro z e
  subst e
  cases h with
  | flat h =>
    cases h with
    | str z h => exact ⟨Nat.le_trans h.1 (by decide), h.2⟩
theorem Th.mono {B H H' : Hp} {p : Addr} {v : V} (h : Th B p H v) (e : ∀ a o, a ≠ p → B a = none → H a = some o → H' a = some o) : Th B p H' v := by
  cases h with
  | flat h => exact .flat h
  | bl b => exact .bl b
  | non => exact .non
  | lst f n m q h => exact .lst f n m (e _ _ n f q) h
  | tup f n q h => exact .tup f n (e _ _ n f q) h
  | dct f n q => exact .dct f n (e _ _ n f q)
theorem Th.bt {B H H' : Hp} {p : Addr} {v : V} (h : Th B p H v) (e : Bt p H H') : Th B p H' v := h.mono fun a o n _ q => e a o n q
theorem Th.same {B H H' : Hp} {p : Addr} {v : V} (h : Th B p H v) (e : Same H H') : Th B p H' v := h.mono fun a o _ _ q => e a o q
/-- seen from an older heap -/
theorem Th.old {B B' H : Hp} {p : Addr} {v : V} (h : Th B p H v) (e : Bt p B' B) : Th B' p H v := by
  have nn : ∀ {a : Addr}, a ≠ p → B a = none → B' a = none := fun {a} n f => e.back n f
  cases h with
  | flat h => exact .flat h
  | bl b => exact .bl b
  | non => exact .non
  | lst f n m q h => exact .lst (nn n f) n m q h
  | tup f n q h => exact .tup (nn n f) n q h
  | dct f n q => exact .dct (nn n f) n q
/-- what repr shows of it -/
theorem flat_d {K : PySem.W.Frag} {H : Hp} {v : V} (h : Flat v) : ∃ d, Dq K H v d ∧ Sq d 1921 0 := by
  cases h with
  | int i h => exact ⟨_, .int i, (Sh.int (Nat.lt_of_lt_of_le (PySem.Flt.log2_lt_of (k := 110) (by decide) h) (by decide))).q⟩
  | str z h => exact ⟨_, .str z, (Sh.str h.2).q.more (by have := h.1; omega)⟩
theorem Th.d {K : PySem.W.Frag} {B H : Hp} {p : Addr} {v : V} (h : Th B p H v) : ∃ d, Dq K H v d ∧ Sq d 2000 1 := by
  cases h with
  | flat h =>
    obtain ⟨d, a, b⟩ := flat_d (K := K) (H := H) h
    exact ⟨d, a, b.more⟩
  | bl b => exact ⟨_, .bl b, (Sh.bl b).q.more⟩
  | non => exact ⟨_, .non, Sh.non.q.more⟩
  | lst f n m q h =>
    obtain ⟨d, a, b⟩ := flat_d (K := K) (H := H) h
    exact ⟨_, .lst m (.of q) (.cons a .nil), (Sq.list (ds := [d]) fun x hx => by rw [List.mem_singleton.mp hx]; exact b).more (by show (1921 + 2) * 1 + 3 ≤ 2000; decide)⟩
  | tup f n q h =>
    obtain ⟨d, a, b⟩ := flat_d (K := K) (H := H) h
    exact ⟨_, .tup (.of q) (.cons a .nil), (Sq.tup (ds := [d]) fun x hx => by rw [List.mem_singleton.mp hx]; exact b).more (by show (1921 + 2) * 1 + 3 ≤ 2000; decide)⟩
  | dct f n q => exact ⟨_, .dct q, Sq.dct.more⟩


/-- a name of the law's own -/
def Nm (z : Str) : Prop := 1 ≤ z.length ∧ z.length ≤ 8 ∧ ∀ c ∈ z.cps.toList, c ∈ LT.cps.toList
theorem Nm.asc {z : Str} (h : Nm z) : Asc z := fun c hc => lt_asc c (h.2.2 c hc)
theorem Nm.nam {z : Str} (h : Nm z) : nam (.str z) = true := by
  rw [nam_of (by have := h.2.1; omega) (by have := h.1; omega), ← all_filter]
  exact List.all_eq_true.mpr fun c hc => decide_eq_true (h.2.2 c hc)
def LetS (z : Str) : Prop := ∀ c ∈ z.cps.toList, c ∈ LT.cps.toList
theorem let_app {x y : Str} (hx : LetS x) (hy : LetS y) : LetS (x ++ y) := fun c hc => by
  have e : (x ++ y).cps.toList = x.cps.toList ++ y.cps.toList := by
    show (x.cps ++ y.cps).toList = _
    simp
  rw [e] at hc
  rcases List.mem_append.mp hc with h | h
  · exact hx c h
  · exact hy c h
theorem let_cut {z : Str} {lo hi : Option Int} (h : LetS z) : LetS (cutS z lo hi) := fun c hc => h c (cut_mem hc)
theorem let_one {c : Nat} (h : c ∈ LT.cps.toList) : LetS ⟨#[c]⟩ := fun d hd => by
  have : d = c := by simpa using hd
  rw [this]; exact h
theorem cut_take {z : Str} {k : Int} (h : 0 ≤ k) : ((cutS z none (some k)).length : Int) ≤ k := by
  have e : (cutS z none (some k)).length = ((z.cps.toList.drop (HT.sIx z.length 0 none)).take (HT.sIx z.length z.length (some k) - HT.sIx z.length 0 none)).length := by
    show Array.size _ = _
    simp [cutS]
  rw [e, List.length_take]
  obtain ⟨n, rfl⟩ : ∃ n : Nat, k = n := ⟨k.toNat, (Int.toNat_of_nonneg h).symm⟩
  rw [HT.sIx_nat]
  show ((min (min n z.length - 0) _ : Nat) : Int) ≤ n
  omega
theorem cut_two {z : Str} {k : Int} (h : 0 ≤ k) : (cutS z none (some k)).length + (cutS z (some k) none).length ≤ z.length := by
  obtain ⟨n, rfl⟩ : ∃ n : Nat, k = n := ⟨k.toNat, (Int.toNat_of_nonneg h).symm⟩
  have e1 : (cutS z none (some (n : Int))).length = ((z.cps.toList.drop (HT.sIx z.length 0 none)).take (HT.sIx z.length z.length (some (n : Int)) - HT.sIx z.length 0 none)).length := by
    show Array.size _ = _
    simp [cutS]
  have e2 : (cutS z (some (n : Int)) none).length = ((z.cps.toList.drop (HT.sIx z.length 0 (some (n : Int)))).take (HT.sIx z.length z.length none - HT.sIx z.length 0 (some (n : Int)))).length := by
    show Array.size _ = _
    simp [cutS]
  have lz : z.cps.toList.length = z.length := Array.length_toList
  rw [e1, e2, List.length_take, List.length_take, List.length_drop, List.length_drop, HT.sIx_nat, HT.sIx_nat, lz]
  show min (min n z.length - 0) (z.length - 0) + min (z.length - min n z.length) (z.length - min n z.length) ≤ z.length
  omega
def spNames : Sp := fun vs H Q _ => ∃ p c m, vs = [.ref p, .int m] ∧ Bg H p c ∧ c ≤ 100000 ∧ 0 ≤ m ∧ m ≤ 10 ∧ ∀ l (zs : List Str) H', H l = none → (zs.length : Int) = m → (∀ z ∈ zs, Nm z) → l ≠ p → Bt p H H' → Bg H' p (c + 20) → H' l = some (.lst (zs.map V.str)) → Q (.ref l) H'

theorem ok__law_names (T : Txt K mg A) (G__law_take : Kp P w K mg base CX0 1 A.f__law_take ["_law_bag_here", "_law_below"] [] (spTake))  : Kp P w K mg base CX0 2 A.f__law_names ["_law_bag_here", "_law_size"] [] (spNames) := by
  obtain ⟨fd, F⟩ := T.d__law_names.ex
  refine ⟨fd, fnG_nx (k := 1) F sc__law_names (fun vs H Q E h => ?_) (fun cdv Ar outer s H vs Q E hcl hr h => ?_), F.binds (fun _ _ _ _ _ _ us hl => match us, hl with | [_, _], _ => rfl)⟩
  · obtain ⟨p, c, m, rfl, b, hc, m0, m9, q⟩ := h
    rfl
  · obtain ⟨p, c, m, rfl, b, hc, m0, m9, q⟩ := h
    have hu64 := hr.units
    have hu := hu_of hr
    refine ⟨_, (pss_cons (ps_set (i := 2) sc__law_names.nd rfl (Or.inr rfl) pe_str)
      (pss_cons (ps_set (i := 3) sc__law_names.nd rfl (Or.inl rfl) (pe_fn (callK0 G__law_take hcl (hr.mono (by decide)) pass0) (by rfl) T.d__law_take.mg T.d__law_take.kp (pa_cons (pv 0) (pa_cons pe_int pa_nil))))
      (pss_cons (ps_set (i := 4) sc__law_names.nd rfl (Or.inr rfl) (pe_fn (callK0 G__law_take hcl (hr.mono (by decide)) pass0) (by rfl) T.d__law_take.mg T.d__law_take.kp (pa_cons (pv 0) (pa_cons pe_int pa_nil))))
      (pss_cons (ps_set (i := 5) sc__law_names.nd rfl (Or.inr rfl) (pe_ix ix_list (pe_lst (pa_cons pe_int (pa_cons pe_int (pa_cons pe_int (pa_cons pe_int pa_nil))))) (pe_fn (callK0 G__law_take hcl (hr.mono (by decide)) pass0) (by rfl) T.d__law_take.mg T.d__law_take.kp (pa_cons (pv 0) (pa_cons pe_int pa_nil))) (fun _ _ => rfl)))
      (pss_cons (ps_set (i := 6) sc__law_names.nd rfl (Or.inr rfl) (pe_join pe_str (pe_lc (own := [("_law_k", 7)]) (by rfl) sc__law_names.nd (pi_range1 (by rfl) T.z_range (pa_cons pe_int pa_nil)) (blkOk_by (own := [("_law_k", 7)]) (N := ["_law_bag_here", "_law_size", "_law_letters", "_law_way", "_law_first", "_law_step", "_law_stem", "_law_k", "_law_at", "_law_head", "_law_tail"]) (sc := defScope s__law_names) (by decide +kernel)) (fun _ _ _ _ _ => pg_name (i := 7) sc__law_names.nd rfl (Or.inl rfl)) (fun _ _ _ _ _ => pts_nil) (fun _ _ _ _ _ => (pe_ix ix_str (pv 2) (pe_fn (callK0 G__law_take hcl (hr.mono (by decide)) pass0) (by rfl) T.d__law_take.mg T.d__law_take.kp (pa_cons (pv 0) (pa_cons pe_int pa_nil))) (fun _ _ => rfl))))))
      (pss_cons (ps_set (i := 8) sc__law_names.nd rfl (Or.inr rfl) (pe_fn (callK0 G__law_take hcl (hr.mono (by decide)) pass0) (by rfl) T.d__law_take.mg T.d__law_take.kp (pa_cons (pv 0) (pa_cons pe_int pa_nil))))
      (pss_cons (ps_if (pt_cmpR op_eq (pv 3) pe_int (nomark _)) (pss_one (ps_ret (pe_lc (own := [("_law_k", 7)]) (by rfl) sc__law_names.nd (pi_range1 (by rfl) T.z_range (pa_cons (pv 1) pa_nil)) (blkOk_by (own := [("_law_k", 7)]) (N := ["_law_bag_here", "_law_size", "_law_letters", "_law_way", "_law_first", "_law_step", "_law_stem", "_law_k", "_law_at", "_law_head", "_law_tail"]) (sc := defScope s__law_names) (by decide +kernel)) (fun _ _ _ _ _ => pg_name (i := 7) sc__law_names.nd rfl (Or.inl rfl)) (fun _ _ _ _ _ => pts_nil) (fun _ _ _ _ _ => (pe_op op_add_str (pe_ix ix_str (pv 2) (pv 4) (fun _ _ => rfl)) (pe_slice sl_str (pv 6) po_none (po_some (pe_op op_mod (pe_op op_add (pv 8) (pe_op op_mulW pe_int (pv 7))) pe_int)))))))) pss_nil)
      (pss_cons (ps_set (i := 6) sc__law_names.nd rfl (Or.inr rfl) (pe_slice sl_str (pv 6) po_none (po_some (pe_fn (callK0 G__law_take hcl (hr.mono (by decide)) pass0) (by rfl) T.d__law_take.mg T.d__law_take.kp (pa_cons (pv 0) (pa_cons pe_int pa_nil))))))
      (pss_cons (ps_asg (pe_tup (pa_cons (pe_slice sl_str (pv 6) po_none (po_some (pv 8))) (pa_cons (pe_slice sl_str (pv 6) (po_some (pv 8)) po_none) pa_nil))) (pg_tup rfl (pgs_cons (pg_name (i := 9) sc__law_names.nd rfl (Or.inr rfl)) (pgs_cons (pg_name (i := 10) sc__law_names.nd rfl (Or.inr rfl)) pgs_nil))))
      (pss_one (ps_ret (pe_lc (own := [("_law_k", 7)]) (by rfl) sc__law_names.nd (pi_range1 (by rfl) T.z_range (pa_cons (pv 1) pa_nil)) (blkOk_by (own := [("_law_k", 7)]) (N := ["_law_bag_here", "_law_size", "_law_letters", "_law_way", "_law_first", "_law_step", "_law_stem", "_law_k", "_law_at", "_law_head", "_law_tail"]) (sc := defScope s__law_names) (by decide +kernel)) (fun _ _ _ _ _ => pg_name (i := 7) sc__law_names.nd rfl (Or.inl rfl)) (fun _ _ _ _ _ => pts_nil) (fun _ _ _ _ _ => (pe_op op_add_str (pe_op op_add_str (pv 9) (pe_ix ix_str (pv 2) (pe_op op_mod (pe_op op_add (pv 4) (pe_op op_mulW (pv 5) (pv 7))) pe_int) (fun _ _ => rfl))) (pv 10))))))))))))))), ?_⟩
    walk_at "vc"
    refine take_now b (by omega) (by decide) (by decide) fun way H1 w0 w9 e1 b1 => ?_
    walk_at "vc"
    refine take_now b1 (by omega) (by decide) (by decide) fun first H2 f0 f9 e2 b2 => ?_
    walk_at "vc"
    refine ⟨sz_ok (by simp), newL_mk fun l G nl s1 hl => ?_⟩
    walk_at "vc"
    refine take_now (b2.same s1) (by omega) (by decide) (by decide) fun x H3 x0 x1 e3 b3 => ?_
    obtain ⟨step, nm, hz⟩ := pick (ns := [1, 5, 7, 11]) rfl x0 x1 (by show (4 : Int) ≤ 4; decide)
    have st9 : 1 ≤ step ∧ step ≤ 11 := by
      simp only [List.mem_cons, List.not_mem_nil, or_false] at nm
      omega
    walk_at "vc"
    refine w_ixL (.of (e3 _ _ (b2.ne nl) hl)) hz ?_
    walk_at "vc"
    refine w_rng1 (by decide) ?_
    refine lcs_go wk_range ?_
    intro D nD
    have e13 : Bt p H H3 := ((e1.trans e2).trans (.of s1)).trans e3
    refine ⟨fun i H' => ∃ zs : List Str, H' D = some (.lst (zs.map V.str)) ∧ zs.length = i ∧ (∀ z ∈ zs, z.length = 1 ∧ LetS z) ∧ Bt p H H' ∧ Bg H' p (c + 3 + i) ∧ D ≠ p, ⟨[], upd_same, rfl, (fun _ h => nomatch h), e13.trans (.new nD), (b3.same (same_new nD)).more (by omega), b3.ne nD⟩, fun _ _ _ _ => trivial, ?_, ?_⟩
    · rintro i y H' hi rfl ⟨zs, hD, hl', ho, e4, b4, nDp⟩
      have hi7 : i < 7 := hi
      walk_at "vc"
      refine ⟨rfl, ?_⟩
      walk_at "vc"
      refine w_itT rfl ?_
      walk_at "vc"
      refine take_now b4 (by omega) (by decide) (by decide) fun u H5 u0 u1 e5 b5 => ?_
      obtain ⟨sg, sm, hs⟩ := at_sign (z := LT) u0 (by rw [lt_len]; exact u1)
      walk_at "vc"
      refine w_ixS (z := LT) (sz_ok (by rw [lt_len]; decide)) hs ?_
      have hD5 : H5 D = some (.lst (zs.map V.str)) := e5 _ _ nDp hD
      refine ⟨_, hD5, by rw [List.length_map, sizeLine_eq]; omega, zs ++ [⟨#[sg]⟩], ?_, by rw [List.length_append, hl']; rfl, ?_, ?_, ?_, nDp⟩
      · rw [upd_same, List.map_append]; rfl
      · intro z hz
        rcases List.mem_append.mp hz with h | h
        · exact ho z h
        · rw [List.mem_singleton.mp h]; exact ⟨rfl, let_one sm⟩
      · exact (e4.trans e5).put (e13.back nDp nD)
      · exact (b5.put nDp).more (by omega)
    · rintro H' ⟨zs, hD, hl', ho, e4, b4, nDp⟩
      have hsum : (zs.map (·.length)).sum = zs.length := by
        clear hD hl'
        induction zs with
        | nil => rfl
        | cons z zs ih =>
          rw [List.map_cons, List.sum_cons, (ho z List.mem_cons_self).1, ih fun y hy => ho y (List.mem_cons_of_mem _ hy), List.length_cons]
          omega
      have h7 : zs.length = 7 := hl'
      have hj : (Txt.join "" zs).length = zs.length := by rw [TL.join_eq]; exact (join_len "" rfl zs).trans hsum
      have hL : LetS (Txt.join "" zs) := fun c hc => by
        rw [TL.join_eq] at hc
        obtain ⟨y, hy, hc'⟩ := join_mem "" rfl zs c hc
        exact (ho y hy).2 c hc'
      walk_at "vc"
      refine ⟨_, D, zs, rfl, rfl, .inl (.of hD), ?_, ?_⟩
      · rw [hsum]
        show zs.length + zs.length * 0 ≤ 16777216
        omega
      generalize Txt.join "" zs = tx at hj hL
      walk_at "vc"
      refine take_now b4 (by omega) (by decide) (by decide) fun at_ H6 at0 at9 e6 b6 => ?_
      have e46 : Bt p H H6 := e4.trans e6
      walk_at "vc"
      refine w_ite (fun c0 => ?_) (fun c0 => ?_)
      · obtain ⟨sg, sm, hs⟩ := at_sign (z := LT) f0 (by rw [lt_len]; exact f9)
        walk_at "vc"
        refine w_rng1 (by omega) ?_
        refine lcs_go wk_range (lcs_of (List.range m.toNat) (fun _ => true) (fun k => .str (⟨#[sg]⟩ ++ cutS tx none (some ((at_ + 3 * (k : Int)) % 8)))) (by simp) (by omega) (fun _ _ => trivial) ?_ ?_)
        · rintro i k y G' R S hk rfl s2 kR kS
          have ek : k = i := by
            rw [List.getElem?_range (by
              have := (List.getElem?_eq_some_iff.mp hk).1
              simpa using this)] at hk
            exact (Option.some.inj hk).symm
          subst ek
          have kb : k < m.toNat := by
            have := (List.getElem?_eq_some_iff.mp hk).1
            simpa using this
          walk_at "vc"
          refine ⟨rfl, ?_⟩
          walk_at "vc"
          refine w_itT rfl ?_
          walk_at "vc"
          refine w_ixS (z := LT) (sz_ok (by rw [lt_len]; decide)) hs ?_
          walk_at "vc"
          refine w_rI (mulW_small (by decide) (by omega)) ?_
          walk_at "vc"
          refine w_rI (show (0 : Int) < 8 by decide) ?_
          walk_at "vc"
          refine w_slS (sz_ok (by omega)) ?_
          walk_at "vc"
          have k1 : (⟨#[sg]⟩ : Str).length = 1 := rfl
          have k2 := cut_len tx none (some ((at_ + 3 * (k : Int)) % 8))
          refine ⟨_, _, rfl, rfl, sz_ok (by omega), ?_⟩
          exact kR rfl G' (Same.refl _)
        · intro D2 G' nD2 s2 hD2
          rw [keep_all] at hD2
          have es : (List.range m.toNat).map (fun (k : Nat) => V.str (⟨#[sg]⟩ ++ cutS tx none (some ((at_ + 3 * (k : Int)) % 8)))) = ((List.range m.toNat).map fun (k : Nat) => (⟨#[sg]⟩ ++ cutS tx none (some ((at_ + 3 * (k : Int)) % 8)) : Str)).map V.str := by rw [List.map_map]; rfl
          rw [es] at hD2
          refine q D2 _ G' (e46.back (b6.ne nD2) nD2) (by rw [List.length_map, List.length_range]; omega) (fun z hz => ?_) (b6.ne nD2) (e46.trans (.of s2)) ((b6.same s2).more (by omega)) hD2
          obtain ⟨k, _, rfl⟩ := List.mem_map.mp hz
          have k1 : (⟨#[sg]⟩ : Str).length = 1 := rfl
          have k2 := cut_len tx none (some ((at_ + 3 * (k : Int)) % 8))
          have k3 := app_len ⟨#[sg]⟩ (cutS tx none (some ((at_ + 3 * (k : Int)) % 8)))
          exact ⟨by omega, by omega, let_app (let_one sm) (let_cut hL)⟩
      · walk_at "vc"
        refine take_now b6 (by omega) (by decide) (by decide) fun cu H7 cu0 cu9 e7 b7 => ?_
        walk_at "vc"
        refine w_slS (sz_ok (by omega)) ?_
        have hL2 : LetS (cutS tx none (some cu)) := let_cut hL
        have l2 := cut_len tx none (some cu)
        generalize cutS tx none (some cu) = ty at hL2 l2
        walk_at "vc"
        refine w_slS (sz_ok (by omega)) ?_
        walk_at "vc"
        refine w_slS (sz_ok (by omega)) ?_
        walk_at "vc"
        refine ⟨sz_ok (by simp), newT_mk fun t J nt sJ ht => ?_⟩
        refine w_gtup (.of ht) rfl ?_
        walk_at "vc"
        have c2 := cut_two (z := ty) at0
        have hLh : LetS (cutS ty none (some at_)) := let_cut hL2
        have hLt : LetS (cutS ty (some at_) none) := let_cut hL2
        generalize cutS ty none (some at_) = hd_ at c2 hLh
        generalize cutS ty (some at_) none = tl_ at c2 hLt
        have e47 : Bt p H J := (e46.trans e7).trans (.of sJ)
        have b8 := b7.same sJ
        refine w_rng1 (by omega) ?_
        have pick26 : ∀ k : Nat, ∃ sg, sg ∈ LT.cps.toList ∧ atI LT.cps.toList ((first + step * (k : Int)) % 26) = some sg := fun k => at_sign (z := LT) (Int.emod_nonneg _ (by decide)) (by rw [lt_len]; exact Int.emod_lt_of_pos _ (by decide))
        refine lcs_go wk_range (lcs_of (List.range m.toNat) (fun _ => true) (fun k => .str (hd_ ++ ⟨#[(pick26 k).choose]⟩ ++ tl_)) (by simp) (by omega) (fun _ _ => trivial) ?_ ?_)
        · rintro i k y G' R S hk rfl s2 kR kS
          have ek : k = i := by
            rw [List.getElem?_range (by
              have := (List.getElem?_eq_some_iff.mp hk).1
              simpa using this)] at hk
            exact (Option.some.inj hk).symm
          subst ek
          have kb : k < m.toNat := by
            have := (List.getElem?_eq_some_iff.mp hk).1
            simpa using this
          walk_at "vc"
          refine ⟨rfl, ?_⟩
          walk_at "vc"
          refine w_itT rfl ?_
          walk_at "vc"
          refine w_rI (mulW_small (by omega) (by omega)) ?_
          walk_at "vc"
          refine w_rI (show (0 : Int) < 26 by decide) ?_
          refine w_ixS (z := LT) (sz_ok (by rw [lt_len]; decide)) (pick26 k).choose_spec.2 ?_
          walk_at "vc"
          have k1 : (⟨#[(pick26 k).choose]⟩ : Str).length = 1 := rfl
          have k2 := app_len hd_ ⟨#[(pick26 k).choose]⟩
          refine ⟨_, _, rfl, rfl, sz_ok (by omega), ?_⟩
          walk_at "vc"
          refine ⟨_, _, rfl, rfl, sz_ok (by omega), ?_⟩
          exact kR rfl G' (Same.refl _)
        · intro D2 G' nD2 s2 hD2
          rw [keep_all] at hD2
          have es : (List.range m.toNat).map (fun (k : Nat) => V.str (hd_ ++ ⟨#[(pick26 k).choose]⟩ ++ tl_)) = ((List.range m.toNat).map fun (k : Nat) => (hd_ ++ ⟨#[(pick26 k).choose]⟩ ++ tl_ : Str)).map V.str := by rw [List.map_map]; rfl
          rw [es] at hD2
          refine q D2 _ G' (e47.back (b8.ne nD2) nD2) (by rw [List.length_map, List.length_range]; omega) (fun z hz => ?_) (b8.ne nD2) (e47.trans (.of s2)) ((b8.same s2).more (by omega)) hD2
          obtain ⟨k, _, rfl⟩ := List.mem_map.mp hz
          have k1 : (⟨#[(pick26 k).choose]⟩ : Str).length = 1 := rfl
          have k2 := app_len hd_ ⟨#[(pick26 k).choose]⟩
          have k3 := app_len (hd_ ++ ⟨#[(pick26 k).choose]⟩) tl_
          exact ⟨by omega, by omega, let_app (let_app hLh (let_one (pick26 k).choose_spec.1)) hLt⟩

end
end K06

set_option Elab.async false
set_option linter.all false
set_option maxRecDepth 100000
set_option maxHeartbeats 2000000
namespace K06
open PySem PySem.Spec PyProof.Rows L2 Dz
section
variable {P : Program} {w : World} {K : PySem.W.Frag} {mg : Str → Option Value} {base : Heap} {A : Ad}

def BS : Str := " ABCXYZ0123456789!#$&'()*+,-./:;<=>?@\x5b]^_{|}~"
theorem bs_len : BS.length = 45 := by decide +kernel
theorem bs_asc : ∀ c ∈ BS.cps.toList, c < 128 := by decide +kernel
def spBadN : Sp := fun vs H Q _ => ∃ p c z, vs = [.ref p, .str z] ∧ Bg H p c ∧ c ≤ 200000 ∧ Nm z ∧ ∀ v H', Bt p H H' → Bg H' p (c + 5) → Th H p H' v → Q v H'
def spBadI : Sp := fun vs H Q _ => ∃ p c h, vs = [.ref p, .int h] ∧ Bg H p c ∧ c ≤ 200000 ∧ 0 ≤ h ∧ h ≤ 1000 ∧ ∀ v H', Bt p H H' → Bg H' p (c + 5) → Th H p H' v → Q v H'
theorem sh_lit {z : Str} (h : z.length ≤ 40) (a : ∀ c ∈ z.cps.toList, c < 128) : ShT z := ⟨h, a⟩

theorem ok__law_bad_number (T : Txt K mg A) (G__law_take : Kp P w K mg base CX0 1 A.f__law_take ["_law_bag_here", "_law_below"] [] (spTake))  : Kp P w K mg base CX0 2 A.f__law_bad_number ["_law_bag_here", "_law_high"] [] (spBadI) := by
  obtain ⟨fd, F⟩ := T.d__law_bad_number.ex
  refine ⟨fd, fnG_nx (k := 1) F sc__law_bad_number (fun vs H Q E h => ?_) (fun cdv Ar outer s H vs Q E hcl hr h => ?_), F.binds (fun _ _ _ _ _ _ us hl => match us, hl with | [_, _], _ => rfl)⟩
  · obtain ⟨p, c, h, rfl, b, hc, h0, h9, q⟩ := h
    rfl
  · obtain ⟨p, c, h, rfl, b, hc, h0, h9, q⟩ := h
    have hu64 := hr.units
    have hu := hu_of hr
    refine ⟨_, (pss_one (ps_ret (pe_ix ix_list (pe_lst4 (pa_cons (pe_un un_neg pe_int) (pa_cons (pe_op op_add (pv 1) pe_int) (pa_cons (pe_op op_add (pv 1) pe_int) (pa_cons pe_non (pa_cons pe_bl (pa_cons pe_bl (pa_cons (pe_callTy call_str_int (by rfl) T.z_str (by decide +kernel) (pa_cons (pv 1) pa_nil)) (pa_cons (pe_lst4 (pa_cons (pv 1) pa_nil)) (pa_cons (pe_op op_pow pe_int pe_int) (pa_cons (pe_tup (pa_cons pe_int pa_nil)) pa_nil))))))))))) (pe_fn (callK0 G__law_take hcl (hr.mono (by decide)) pass0) (by rfl) T.d__law_take.mg T.d__law_take.kp (pa_cons (pv 0) (pa_cons pe_int pa_nil))) (fun _ _ => rfl)))), ?_⟩
    walk_at "vc"
    have ht := int_sml (n := h) (by omega)
    refine ⟨h, rfl, Nat.lt_of_lt_of_le (PySem.Flt.log2_lt_of (k := 40) (by decide) (by have : h.natAbs ≤ 1000 := by omega
                                                                                       exact Nat.lt_of_le_of_lt this (by decide))) (by decide), ?_⟩
    walk_at "vc"
    refine ⟨sz_ok (by simp), newL4_mk fun l1 G1 n1 m1 s1 h1 => ?_⟩
    walk_at "vc"
    refine w_rI ⟨by decide, by decide, by decide⟩ ?_
    walk_at "vc"
    refine ⟨sz_ok (by simp), newT_mk fun t1 G2 n2 s2 h2 => ?_⟩
    walk_at "vc"
    refine ⟨sz_ok (by simp), newL4_mk fun l2 G3 n3 m3 s3 h3 => ?_⟩
    walk_at "vc"
    have b1 := ((b.same s1).same s2).same s3
    refine take_now b1 (by omega) (by decide) (by decide) fun u G4 u0 u1 e4 b4 => ?_
    obtain ⟨v, vm, hv⟩ := atI_mem (l := [.int (-1), .int (h + 1), .int (h + 1), .non, .bl true, .bl false, .str (Str.ofString (toString h)), .ref l1, .int (10 ^ Int.toNat 29), .ref t1]) u0 u1
    refine w_ixL (.of (e4 _ _ (((b.same s1).same s2).ne n3) h3)) hv ?_
    have p1 : l1 ≠ p := b.ne n1
    have p2 : t1 ≠ p := (b.same s1).ne n2
    refine q v G4 ((((Bt.of s1).trans (.of s2)).trans (.of s3)).trans e4) (b4.more (by omega)) ?_
    have ten : (10 : Int) ^ Int.toNat 29 = 100000000000000000000000000000 := by decide
    have hs : ShT (Str.ofString (toString h)) := ⟨by
      have h2 : (toString h).length ≤ 11 := int_text_length_le (k := 10) (by decide) (PySem.Flt.log2_lt_of (k := 10) (by decide) (by omega))
      rw [PySem.ofString_length]
      omega, ht.2⟩
    simp only [List.mem_cons, List.not_mem_nil, or_false] at vm
    rcases vm with rfl | rfl | rfl | rfl | rfl | rfl | rfl | rfl | rfl | rfl
    · exact .flat (.int _ (by decide))
    · exact .flat (.int _ (by omega))
    · exact .flat (.int _ (by omega))
    · exact .non
    · exact .bl _
    · exact .bl _
    · exact .flat (.str _ hs)
    · exact .lst n1 p1 m1 (e4 _ _ p1 (s3 _ _ (s2 _ _ h1))) (.int _ (by omega))
    · exact .flat (.int _ (by rw [ten]; decide))
    · exact .tup ((Bt.of s1).back p2 n2) p2 (e4 _ _ p2 (s3 _ _ h2)) (.int _ (by decide))

theorem ok__law_bad_name (T : Txt K mg A) (G__law_take : Kp P w K mg base CX0 1 A.f__law_take ["_law_bag_here", "_law_below"] [] (spTake))  : Kp P w K mg base CX0 2 A.f__law_bad_name ["_law_bag_here", "_law_name"] [] (spBadN) := by
  obtain ⟨fd, F⟩ := T.d__law_bad_name.ex
  refine ⟨fd, fnG_nx (k := 1) F sc__law_bad_name (fun vs H Q E h => ?_) (fun cdv Ar outer s H vs Q E hcl hr h => ?_), F.binds (fun _ _ _ _ _ _ us hl => match us, hl with | [_, _], _ => rfl)⟩
  · obtain ⟨p, c, z, rfl, b, hc, nz, q⟩ := h
    rfl
  · obtain ⟨p, c, z, rfl, b, hc, nz, q⟩ := h
    have hu64 := hr.units
    have hu := hu_of hr
    refine ⟨_, (pss_cons (ps_set (i := 2) sc__law_bad_name.nd rfl (Or.inl rfl) pe_str)
      (pss_cons (ps_set (i := 3) sc__law_bad_name.nd rfl (Or.inl rfl) (pe_fn (callK0 G__law_take hcl (hr.mono (by decide)) pass0) (by rfl) T.d__law_take.mg T.d__law_take.kp (pa_cons (pv 0) (pa_cons (pe_op op_add (pe_callB call_len_str (by rfl) T.z_len (by decide +kernel) (pa_cons (pv 1) pa_nil)) pe_int) pa_nil))))
      (pss_cons (ps_set (i := 4) sc__law_bad_name.nd rfl (Or.inl rfl) (pe_op op_add_str (pe_op op_add_str (pe_slice sl_str (pv 1) po_none (po_some (pv 3))) (pe_ix ix_str (pv 2) (pe_fn (callK0 G__law_take hcl (hr.mono (by decide)) pass0) (by rfl) T.d__law_take.mg T.d__law_take.kp (pa_cons (pv 0) (pa_cons (pe_callB call_len_str (by rfl) T.z_len (by decide +kernel) (pa_cons (pv 2) pa_nil)) pa_nil))) (fun _ _ => rfl))) (pe_slice sl_str (pv 1) (po_some (pe_op op_add (pv 3) (pe_fn (callK0 G__law_take hcl (hr.mono (by decide)) pass0) (by rfl) T.d__law_take.mg T.d__law_take.kp (pa_cons (pv 0) (pa_cons pe_int pa_nil))))) po_none)))
      (pss_one (ps_ret (pe_ix ix_list (pe_lst4 (pa_cons (pv 4) (pa_cons (pv 4) (pa_cons pe_str (pa_cons pe_str (pa_cons pe_non (pa_cons pe_int (pa_cons pe_bl (pa_cons (pe_lst4 (pa_cons (pv 1) pa_nil)) (pa_cons (pe_tup (pa_cons (pv 1) pa_nil)) (pa_cons pe_dnewK pa_nil))))))))))) (pe_fn (callK0 G__law_take hcl (hr.mono (by decide)) pass0) (by rfl) T.d__law_take.mg T.d__law_take.kp (pa_cons (pv 0) (pa_cons pe_int pa_nil))) (fun _ _ => rfl))))))), ?_⟩
    have z8 := nz.2.1
    walk_at "vc"
    refine ⟨z, rfl, sz_ok (by omega), ?_⟩
    walk_at "vc"
    refine take_now b (by omega) (by omega) (by omega) fun at_ H1 at0 at1 e1 b1 => ?_
    walk_at "vc"
    refine w_slS (sz_ok (by omega)) ?_
    walk_at "vc"
    refine ⟨BS, rfl, sz_ok (by rw [bs_len]; decide), ?_⟩
    walk_at "vc"
    refine take_now b1 (by omega) (by rw [bs_len]; decide) (by rw [bs_len]; decide) fun u H2 u0 u1 e2 b2 => ?_
    obtain ⟨sg, sm, hs⟩ := at_sign (z := BS) u0 u1
    walk_at "vc"
    refine w_ixS (z := BS) (sz_ok (by rw [bs_len]; decide)) hs ?_
    walk_at "vc"
    have k1 : (⟨#[sg]⟩ : Str).length = 1 := rfl
    have l1 := cut_len z none (some at_)
    refine ⟨_, _, rfl, rfl, sz_ok (by omega), ?_⟩
    have k2 := app_len (cutS z none (some at_)) ⟨#[sg]⟩
    walk_at "vc"
    refine take_now b2 (by omega) (by decide) (by decide) fun g H3 g0 g1 e3 b3 => ?_
    walk_at "vc"
    refine w_slS (sz_ok (by omega)) ?_
    have l2 := cut_len z (some (at_ + g)) none
    walk_at "vc"
    refine ⟨_, _, rfl, rfl, sz_ok (by omega), ?_⟩
    have k3 := app_len (cutS z none (some at_) ++ ⟨#[sg]⟩) (cutS z (some (at_ + g)) none)
    have hb : ShT (cutS z none (some at_) ++ ⟨#[sg]⟩ ++ cutS z (some (at_ + g)) none) := ⟨by omega, asc_app (asc_app (asc_cut nz.asc) (one_sign (bs_asc sg sm)).2) (asc_cut nz.asc)⟩
    generalize cutS z none (some at_) ++ ⟨#[sg]⟩ ++ cutS z (some (at_ + g)) none = bt at hb
    walk_at "vc"
    refine ⟨sz_ok (by simp), newL4_mk fun l1 G1 n1 m1 s1 h1 => ?_⟩
    walk_at "vc"
    refine ⟨sz_ok (by simp), newT_mk fun t1 G2 n2 s2 h2 => ?_⟩
    walk_at "vc"
    refine newD_mk fun d1 G3 n3 s3 h3 => ?_
    walk_at "vc"
    refine ⟨sz_ok (by simp), newL4_mk fun l2 G4 n4 m4 s4 h4 => ?_⟩
    walk_at "vc"
    have c1 := b3.same s1
    have c2 := c1.same s2
    have c3 := c2.same s3
    refine take_now (c3.same s4) (by omega) (by decide) (by decide) fun y H5 y0 y1 e5 b5 => ?_
    obtain ⟨v, vm, hv⟩ := atI_mem (l := [.str bt, .str bt, .str "", .str "abcdefghi", .non, .int 7, .bl true, .ref l1, .ref t1, .ref d1]) y0 y1
    refine w_ixL (.of (e5 _ _ (c3.ne n4) h4)) hv ?_
    have p1 : l1 ≠ p := b3.ne n1
    have p2 : t1 ≠ p := c1.ne n2
    have p3 : d1 ≠ p := c2.ne n3
    have e13 := (e1.trans e2).trans e3
    have g1 : Bt p H G1 := e13.trans (.of s1)
    have g2 : Bt p H G2 := g1.trans (.of s2)
    refine q v H5 (((g2.trans (.of s3)).trans (.of s4)).trans e5) (b5.more (by omega)) ?_
    have hz : ShT z := ⟨by omega, nz.asc⟩
    simp only [List.mem_cons, List.not_mem_nil, or_false] at vm
    rcases vm with rfl | rfl | rfl | rfl | rfl | rfl | rfl | rfl | rfl | rfl
    · exact .flat (.str _ hb)
    · exact .flat (.str _ hb)
    · exact .flat (.str _ (sh_lit (by decide) asc_empty))
    · exact .flat (.str _ (sh_lit (by decide +kernel) (by decide +kernel)))
    · exact .non
    · exact .flat (.int _ (by decide))
    · exact .bl _
    · exact .lst (e13.back p1 n1) p1 m1 (e5 _ _ p1 (s4 _ _ (s3 _ _ (s2 _ _ h1)))) (.str _ hz)
    · exact .tup (g1.back p2 n2) p2 (e5 _ _ p2 (s4 _ _ (s3 _ _ h2))) (.str _ hz)
    · exact .dct (g2.back p3 n3) p3 (e5 _ _ p3 (s4 _ _ h3))


theorem Th.upd {B H : Hp} {p l : Addr} {v : V} {xs : List V} {o : HO} (h : Th B p H v) (hl : H l = some (.lst xs)) (h7 : xs.length = 7) : Th B p (upd H l o) v := by
  have ne : ∀ {a : Addr} {u : HO}, H a = some u → u ≠ .lst xs → a ≠ l := fun {a u} e n z => by
    rw [z, hl] at e
    exact n (Option.some.inj e).symm
  cases h with
  | flat h => exact .flat h
  | bl b => exact .bl b
  | non => exact .non
  | lst f n m e h => exact .lst f n m (by rw [upd_ne (ne e fun z => by cases z; exact absurd h7 (by simp))]; exact e) h
  | tup f n e h => exact .tup f n (by rw [upd_ne (ne e fun z => by cases z)]; exact e) h
  | dct f n e => exact .dct f n (by rw [upd_ne (ne e fun z => by cases z)]; exact e)
theorem cut_ge {z : Str} {k : Int} (h : 1 ≤ k) (hz : 1 ≤ z.length) : 1 ≤ (cutS z none (some k)).length := by
  obtain ⟨n, rfl⟩ : ∃ n : Nat, k = n := ⟨k.toNat, (Int.toNat_of_nonneg (by omega)).symm⟩
  have e : (cutS z none (some (n : Int))).length = ((z.cps.toList.drop (HT.sIx z.length 0 none)).take (HT.sIx z.length z.length (some (n : Int)) - HT.sIx z.length 0 none)).length := by
    show Array.size _ = _
    simp [cutS]
  have lz : z.cps.toList.length = z.length := Array.length_toList
  rw [e, List.length_take, HT.sIx_nat]
  show 1 ≤ min (min n z.length - 0) z.cps.toList.length
  rw [lz]
  omega
def AH : Str := "abcdefgh"
theorem ah_len : AH.length = 8 := by decide +kernel
theorem ah_let : LetS AH := by
  show ∀ c ∈ AH.cps.toList, c ∈ LT.cps.toList
  decide +kernel
theorem nback {H H' : Hp} {q : Addr} (e : Same H H') (n : H' q = none) : H q = none := by
  cases h : H q with
  | none => rfl
  | some o => rw [e _ _ h] at n; cases n
def spSp : Sp := fun vs H Q _ => ∃ p c l xs, vs = [.ref p, .ref l] ∧ Bg H p c ∧ c ≤ 100000 ∧ H l = some (.lst xs) ∧ xs.length = 7 ∧ l ≠ p ∧ ∀ (j : Nat) v H', (∀ b o, b ≠ p → b ≠ l → H b = some o → H' b = some o) → Bg H' p (c + 15) → H' l = some (.lst (xs.set j v)) → Th H p H' v → Q .non H'

theorem ok__law_spoilt (T : Txt K mg A) (G__law_take : Kp P w K mg base CX0 1 A.f__law_take ["_law_bag_here", "_law_below"] [] (spTake)) (G__law_bad_name : Kp P w K mg base CX0 2 A.f__law_bad_name ["_law_bag_here", "_law_name"] [] (spBadN)) (G__law_bad_number : Kp P w K mg base CX0 2 A.f__law_bad_number ["_law_bag_here", "_law_high"] [] (spBadI))  : Kp P w K mg base CX0 3 A.f__law_spoilt ["_law_bag_here", "_law_row"] [] (spSp) := by
  obtain ⟨fd, F⟩ := T.d__law_spoilt.ex
  refine ⟨fd, fnG_nx (k := 2) F sc__law_spoilt (fun vs H Q E h => ?_) (fun cdv Ar outer s H vs Q E hcl hr h => ?_), F.binds (fun _ _ _ _ _ _ us hl => match us, hl with | [_, _], _ => rfl)⟩
  · obtain ⟨p, c, l, xs, rfl, b, hc, hl, h7, lp, q⟩ := h
    rfl
  · obtain ⟨p, c, l, xs, rfl, b, hc, hl, h7, lp, q⟩ := h
    have hu64 := hr.units
    have hu := hu_of hr
    refine ⟨_, (pss_cons (ps_set (i := 2) sc__law_spoilt.nd rfl (Or.inl rfl) (pe_fn (callK0 G__law_take hcl (hr.mono (by decide)) pass0) (by rfl) T.d__law_take.mg T.d__law_take.kp (pa_cons (pv 0) (pa_cons pe_int pa_nil))))
      (pss_one (ps_if (pt_cmpR op_lt (pv 2) pe_int (nomark _)) (pss_one (ps_asg (pe_fn (callK0 G__law_bad_name hcl (hr.mono (by decide)) pass0) (by rfl) T.d__law_bad_name.mg T.d__law_bad_name.kp (pa_cons (pv 0) (pa_cons (pe_slice sl_str pe_str po_none (po_some (pe_op op_add pe_int (pe_fn (callK0 G__law_take hcl (hr.mono (by decide)) pass0) (by rfl) T.d__law_take.mg T.d__law_take.kp (pa_cons (pv 0) (pa_cons pe_int pa_nil)))))) pa_nil))) (pg_sub (pv 1) (pv 2) set_list))) (pss_one (ps_asg (pe_fn (callK0 G__law_bad_number hcl (hr.mono (by decide)) pass0) (by rfl) T.d__law_bad_number.mg T.d__law_bad_number.kp (pa_cons (pv 0) (pa_cons (pe_ix ix_list (pe_lst (pa_cons pe_int (pa_cons pe_int (pa_cons pe_int (pa_cons pe_int (pa_cons pe_int pa_nil)))))) (pe_op op_sub (pv 2) pe_int) (fun _ _ => rfl)) pa_nil))) (pg_sub (pv 1) (pv 2) set_list)))))), ?_⟩
    walk_at "vc"
    refine take_now b (by omega) (by decide) (by decide) fun at_ H1 at0 at1 e1 b1 => ?_
    walk_at "vc"
    refine w_ite (fun c0 => ?_) (fun c0 => ?_)
    · walk_at "vc"
      refine take_now b1 (by omega) (by decide) (by decide) fun d H2 d0 d1 e2 b2 => ?_
      walk_at "vc"
      refine w_slS (z := AH) (sz_ok (by rw [ah_len]; decide)) ?_
      walk_at "vc"
      have k1 := cut_len AH none (some (1 + d))
      rw [ah_len] at k1
      refine ⟨p, _, _, rfl, b2, by omega, ⟨cut_ge (by omega) (by rw [ah_len]; decide), k1, let_cut ah_let⟩, fun v H3 e3 b3 th => ?_⟩
      walk_at "vc"
      have e13 := (e1.trans e2).trans e3
      have hl3 := e13 _ _ lp hl
      refine w_setL (j := at_.toNat) hl3 (by unfold ixN; rw [if_pos at0, h7, if_pos (by omega)]) ?_
      exact q at_.toNat v _ (fun a o n m e => by rw [upd_ne m]; exact e13 _ _ n e) ((b3.put lp).more (by omega)) upd_same ((th.old (e1.trans e2)).upd hl3 h7)
    · walk_at "vc"
      refine ⟨sz_ok (by simp), newL_mk fun l1 G1 n1 s1 h1 => ?_⟩
      obtain ⟨hi, hm, hz⟩ := pick (ns := [100, 100, 5, 5, 9]) (k := at_ - 2) (m := 5) rfl (by omega) (by omega) (by show (5 : Int) ≤ 5; decide)
      have hb : 0 ≤ hi ∧ hi ≤ 1000 := by
        simp only [List.mem_cons, List.not_mem_nil, or_false] at hm
        omega
      walk_at "vc"
      refine w_ixL (.of h1) hz ?_
      walk_at "vc"
      refine ⟨p, _, hi, rfl, b1.same s1, by omega, hb.1, hb.2, fun v H3 e3 b3 th => ?_⟩
      walk_at "vc"
      have e12 : Bt p H G1 := e1.trans (.of s1)
      have e13 := e12.trans e3
      have hl3 := e13 _ _ lp hl
      refine w_setL (j := at_.toNat) hl3 (by unfold ixN; rw [if_pos at0, h7, if_pos (by omega)]) ?_
      exact q at_.toNat v _ (fun a o n m e => by rw [upd_ne m]; exact e13 _ _ n e) ((b3.put lp).more (by omega)) upd_same ((th.old e12).upd hl3 h7)


def spDue (K : PySem.W.Frag) : Sp := fun vs H Q _ => ∃ (q l : Addr) (n p b s w f r : V), vs = [.ref l] ∧ H l = some (.lst [n, p, b, s, w, f, r]) ∧ Kn K q H n ∧ Kn K q H p ∧ Kn K q H b ∧ Kn K q H s ∧ Kn K q H w ∧ Kn K q H f ∧ Kn K q H r ∧ Sml n ∧ Sml p ∧
  ∀ la H', Same H H' → H la = none → la ≠ sysModules → AskAns n p b s w f r H' la → Q (.ref la) H'
def tests (b s w f r : V) : List (V × Int) := [(s, intv b), (w, 5), (f, 5), (r, 9)]
theorem due_tail {n p b s w f r : V} (c1 : nam n = true) (np : (!decide (p = .non) && !nam p) = true → False) (c3 : whl b 0 100 = true) :
    ((∀ x ∈ tests b s w f r, whl x.1 0 x.2 = true) → dueOf n p b s w f r = none) ∧ ∀ (i : Nat) (x : V × Int), (tests b s w f r)[i]? = some x → (∀ (j : Nat) (y : V × Int), j < i → (tests b s w f r)[j]? = some y → whl y.1 0 y.2 = true) → whl x.1 0 x.2 = false → dueOf n p b s w f r = some (false, x.1) := by
  unfold dueOf
  rw [if_neg (by rw [c1]; decide), if_neg np, if_neg (by rw [c3]; decide)]
  constructor
  · intro h
    rw [if_neg (by rw [h (s, intv b) (by simp [tests])]; decide), if_neg (by rw [h (w, 5) (by simp [tests])]; decide), if_neg (by rw [h (f, 5) (by simp [tests])]; decide), if_neg (by rw [h (r, 9) (by simp [tests])]; decide)]
  · intro i x hx ok bad
    match i, hx with
    | 0, hx =>
      cases hx
      exact if_pos bad
    | 1, hx =>
      cases hx
      rw [if_neg (by rw [ok 0 (s, intv b) (by decide) rfl]; decide)]
      exact if_pos bad
    | 2, hx =>
      cases hx
      rw [if_neg (by rw [ok 0 (s, intv b) (by decide) rfl]; decide), if_neg (by rw [ok 1 (w, 5) (by decide) rfl]; decide)]
      exact if_pos bad
    | 3, hx =>
      cases hx
      rw [if_neg (by rw [ok 0 (s, intv b) (by decide) rfl]; decide), if_neg (by rw [ok 1 (w, 5) (by decide) rfl]; decide), if_neg (by rw [ok 2 (f, 5) (by decide) rfl]; decide)]
      exact if_pos bad

theorem ok__law_due (T : Txt K mg A) (G__law_is_name : Kp P w K mg base CX0 1 A.f__law_is_name ["_law_thing"] [] (spIs K nam)) (G__law_is_whole : Kp P w K mg base CX0 1 A.f__law_is_whole ["_law_thing", "_law_high"] [] (spIs2 K (fun v i => whl v 0 i)))  : Kp P w K mg base CX0 2 A.f__law_due ["_law_row"] [] (spDue K) := by
  obtain ⟨fd, F⟩ := T.d__law_due.ex
  refine ⟨fd, fnG_nx (k := 1) F sc__law_due (fun vs H Q E h => ?_) (fun cdv Ar outer s H vs Q E hcl hr h => ?_), F.binds (fun _ _ _ _ _ _ us hl => match us, hl with | [_], _ => rfl)⟩
  · obtain ⟨q', l, n, p, b, s', w', f, r, rfl, hl, kn, kp, kb, ks, kw, kf, kr, sn, sp, q⟩ := h
    rfl
  · obtain ⟨q', l, n, p, b, s', w', f, r, rfl, hl, kn, kp, kb, ks, kw, kf, kr, sn, sp, q⟩ := h
    have hu64 := hr.units
    have hu := hu_of hr
    refine ⟨_, (pss_cons (ps_if (pt_not (pt_val (pe_fn (callK0 G__law_is_name hcl (hr.mono (by decide)) pass0) (by rfl) T.d__law_is_name.mg T.d__law_is_name.kp (pa_cons (pe_ix ix_list (pv 0) pe_int (fun _ _ => rfl)) pa_nil)))) (pss_one (ps_ret (pe_lst4 (pa_cons pe_str (pa_cons (pe_ix ix_list (pv 0) pe_int (fun _ _ => rfl)) pa_nil))))) pss_nil)
      (pss_cons (ps_if (PW.pt (pw_and (pt_cmpR op_notN (pe_ix ix_list (pv 0) pe_int (fun _ _ => rfl)) pe_non (nomark _)) (pw_and1 (pt_not (pt_val (pe_fn (callK0 G__law_is_name hcl (hr.mono (by decide)) pass0) (by rfl) T.d__law_is_name.mg T.d__law_is_name.kp (pa_cons (pe_ix ix_list (pv 0) pe_int (fun _ _ => rfl)) pa_nil))))))) (pss_one (ps_ret (pe_lst4 (pa_cons pe_str (pa_cons (pe_ix ix_list (pv 0) pe_int (fun _ _ => rfl)) pa_nil))))) pss_nil)
      (pss_cons (ps_if (pt_not (pt_val (pe_fn (callK0 G__law_is_whole hcl (hr.mono (by decide)) pass0) (by rfl) T.d__law_is_whole.mg T.d__law_is_whole.kp (pa_cons (pe_ix ix_list (pv 0) pe_int (fun _ _ => rfl)) (pa_cons pe_int pa_nil))))) (pss_one (ps_ret (pe_lst4 (pa_cons pe_str (pa_cons (pe_ix ix_list (pv 0) pe_int (fun _ _ => rfl)) pa_nil))))) pss_nil)
      (pss_cons (ps_for PassesOwn.never rfl (pi_list (pe_lst4 (pa_cons (pe_tup (pa_cons (pe_ix ix_list (pv 0) pe_int (fun _ _ => rfl)) (pa_cons (pe_ix ix_list (pv 0) pe_int (fun _ _ => rfl)) pa_nil))) (pa_cons (pe_tup (pa_cons (pe_ix ix_list (pv 0) pe_int (fun _ _ => rfl)) (pa_cons pe_int pa_nil))) (pa_cons (pe_tup (pa_cons (pe_ix ix_list (pv 0) pe_int (fun _ _ => rfl)) (pa_cons pe_int pa_nil))) (pa_cons (pe_tup (pa_cons (pe_ix ix_list (pv 0) pe_int (fun _ _ => rfl)) (pa_cons pe_int pa_nil))) pa_nil)))))) (pg_tup rfl (pgs_cons (pg_name (i := 1) sc__law_due.nd rfl (Or.inl rfl)) (pgs_cons (pg_name (i := 2) sc__law_due.nd rfl (Or.inl rfl)) pgs_nil))) (pss_one (ps_if (pt_not (pt_val (pe_fn (callK0 G__law_is_whole hcl (hr.mono (by decide)) pass0) (by rfl) T.d__law_is_whole.mg T.d__law_is_whole.kp (pa_cons (pv 1) (pa_cons (pv 2) pa_nil))))) (pss_one (ps_ret (pe_lst4 (pa_cons pe_str (pa_cons (pv 1) pa_nil))))) pss_nil)))
      (pss_one (ps_ret (pe_lst4 (pa_cons pe_str (pa_cons (pe_callTy call_tuple_of (by rfl) T.z_tuple (by decide +kernel) (pa_cons (pv 0) pa_nil)) pa_nil))))))))), ?_⟩
    walk_at "vc"
    refine w_ixL (.of hl) (atI_nat (j := 0) rfl) ?_
    walk_at "vc"
    refine ⟨q', n, rfl, kn, sn, fun H1 e1 => ?_⟩
    walk_at "vc"
    cases c1 : nam n with
    | false =>
      refine w_itT rfl ?_
      walk_at "vc"
      refine w_ixL (.of (e1 _ _ hl)) (atI_nat (j := 0) rfl) ?_
      walk_at "vc"
      refine ⟨sz_ok (by simp), newL4_mk fun la G nla n4 sl hla => ?_⟩
      exact q la G (e1.trans sl) (nback e1 nla) n4 (ans_no (nm := true) (v := n) (by unfold dueOf; rw [if_pos c1]) hla)
    | true =>
      refine w_itF rfl ?_
      walk_at "vc"
      refine w_ixL (.of (e1 _ _ hl)) (atI_nat (j := 1) rfl) ?_
      walk_at "vc"
      apply w_both (P := ∀ G, Same H G → ((!decide (p = .non) && !nam p) = true → False) → _)
      · intro rest
        cases c0 : decide (p = .non) with
        | true =>
          refine w_itF rfl ?_
          refine w_itF rfl ?_
          exact rest H1 e1 (by rw [c0]; simp)
        | false =>
          refine w_itT rfl ?_
          walk_at "vc"
          refine w_ixL (.of (e1 _ _ hl)) (atI_nat (j := 1) rfl) ?_
          walk_at "vc"
          refine ⟨q', p, rfl, kp.same e1, sp, fun H2 e2 => ?_⟩
          walk_at "vc"
          have e12 := e1.trans e2
          cases c2 : nam p with
          | false =>
            refine w_itT rfl ?_
            walk_at "vc"
            refine w_ixL (.of (e12 _ _ hl)) (atI_nat (j := 1) rfl) ?_
            walk_at "vc"
            refine ⟨sz_ok (by simp), newL4_mk fun la G nla n4 sl hla => ?_⟩
            exact q la G (e12.trans sl) (nback e12 nla) n4 (ans_no (nm := true) (v := p) (by unfold dueOf; rw [if_neg (by rw [c1]; decide), if_pos (by rw [c0, c2]; rfl)]) hla)
          | true =>
            refine w_itF rfl ?_
            exact rest H2 e12 (by rw [c0, c2]; simp)
      · intro G0 g0 np
        walk_at "vc"
        refine w_ixL (.of (g0 _ _ hl)) (atI_nat (j := 2) rfl) ?_
        walk_at "vc"
        refine ⟨q', b, 100, rfl, kb.same g0, fun G1 h1 => ?_⟩
        have g1 := g0.trans h1
        walk_at "vc"
        cases c3 : whl b 0 100 with
        | false =>
          refine w_itT rfl ?_
          walk_at "vc"
          refine w_ixL (.of (g1 _ _ hl)) (atI_nat (j := 2) rfl) ?_
          walk_at "vc"
          refine ⟨sz_ok (by simp), newL4_mk fun la G nla n4 sl hla => ?_⟩
          exact q la G (g1.trans sl) (nback g1 nla) n4 (ans_no (nm := false) (v := b) (by unfold dueOf; rw [if_neg (by rw [c1]; decide), if_neg np, if_pos c3]) hla)
        | true =>
          obtain ⟨d1, d2⟩ := due_tail (s := s') (w := w') (f := f) (r := r) c1 np c3
          obtain ⟨bi, rfl⟩ := wh_int c3
          refine w_itF rfl ?_
          walk_at "vc"
          refine w_ixL (.of (g1 _ _ hl)) (atI_nat (j := 3) rfl) ?_
          walk_at "vc"
          refine w_ixL (.of (g1 _ _ hl)) (atI_nat (j := 2) rfl) ?_
          walk_at "vc"
          refine ⟨sz_ok (by simp), newT_mk fun t1 J1 m1 r1 y1 => ?_⟩
          walk_at "vc"
          have j1 := g1.trans r1
          refine w_ixL (.of (j1 _ _ hl)) (atI_nat (j := 4) rfl) ?_
          walk_at "vc"
          refine ⟨sz_ok (by simp), newT_mk fun t2 J2 m2 r2 y2 => ?_⟩
          walk_at "vc"
          have j2 := j1.trans r2
          refine w_ixL (.of (j2 _ _ hl)) (atI_nat (j := 5) rfl) ?_
          walk_at "vc"
          refine ⟨sz_ok (by simp), newT_mk fun t3 J3 m3 r3 y3 => ?_⟩
          walk_at "vc"
          have j3 := j2.trans r3
          refine w_ixL (.of (j3 _ _ hl)) (atI_nat (j := 6) rfl) ?_
          walk_at "vc"
          refine ⟨sz_ok (by simp), newT_mk fun t4 J4 m4 r4 y4 => ?_⟩
          walk_at "vc"
          have j4 := j3.trans r4
          refine ⟨sz_ok (by simp), newL4_mk fun l5 J5 m5 _ r5 y5 => ?_⟩
          have j5 := j4.trans r5
          refine w_lst1 (.of y5) ?_
          have tups : ∀ (i : Nat) x, [V.ref t1, V.ref t2, V.ref t3, V.ref t4][i]? = some x → ∃ t v hi, x = .ref t ∧ J5 t = some (.tup [v, .int hi]) ∧ (tests (.int bi) s' w' f r)[i]? = some (v, hi) ∧ Kn K q' J5 v := by
            intro i x hx
            match i, hx with
            | 0, hx => cases hx; exact ⟨_, _, _, rfl, r5 _ _ (r4 _ _ (r3 _ _ (r2 _ _ y1))), rfl, ks.same j5⟩
            | 1, hx => cases hx; exact ⟨_, _, _, rfl, r5 _ _ (r4 _ _ (r3 _ _ y2)), rfl, kw.same j5⟩
            | 2, hx => cases hx; exact ⟨_, _, _, rfl, r5 _ _ (r4 _ _ y3), rfl, kf.same j5⟩
            | 3, hx => cases hx; exact ⟨_, _, _, rfl, r5 _ _ y4, rfl, kr.same j5⟩
          refine fors_go wk_list ⟨fun i σ H' => ∃ o1 o2 : Option V, σ = [some (.ref l), o1, o2] ∧ Same J5 H' ∧ ∀ j y, j < i → (tests (.int bi) s' w' f r)[j]? = some y → whl y.1 0 y.2 = true, ⟨_, _, rfl, Same.refl _, fun j y h => absurd h (Nat.not_lt_zero j)⟩, fun i σ H' _ ⟨_, _, _, s, _⟩ => s.seq (.of y5), ?_, ?_⟩
          · rintro i x σ H' hi hx ⟨o1, o2, rfl, sJ, ok⟩
            obtain ⟨t, v, hi', rfl, ht, hT, kv⟩ := tups i x hx
            refine w_gtup (.of (sJ _ _ ht)) rfl ?_
            walk_at "vc"
            refine ⟨q', v, hi', rfl, kv.same sJ, fun H2 e2 => ?_⟩
            walk_at "vc"
            have sJ2 := sJ.trans e2
            cases c4 : whl v 0 hi' with
            | false =>
              refine w_itT rfl ?_
              walk_at "vc"
              refine ⟨sz_ok (by simp), newL4_mk fun la G nla n4 sl hla => ?_⟩
              have jj := (j5.trans sJ2)
              exact q la G (jj.trans sl) (nback jj nla) n4 (ans_no (nm := false) (v := v) (d2 i (v, hi') hT ok c4) hla)
            | true =>
              refine w_itF rfl ?_
              walk_at "vc"
              refine ⟨_, _, rfl, sJ2, fun j y hj hy => ?_⟩
              by_cases e : j = i
              · subst e
                rw [hT] at hy
                cases hy
                exact c4
              · exact ok j y (by omega) hy
          · rintro σ H' ⟨o1, o2, rfl, sJ, ok⟩
            have jj := j5.trans sJ
            walk_at "vc"
            refine ⟨l, _, rfl, .inl ⟨.of (jj _ _ hl), fun t nt => ?_⟩⟩
            walk_at "vc"
            refine ⟨sz_ok (by simp), newL4_mk fun la G nla n4 sl hla => ?_⟩
            have jt := jj.trans (same_new (o := .tup [n, p, .int bi, s', w', f, r]) nt)
            refine q la G (jt.trans sl) (nback jt nla) n4 (ans_ok (d1 fun x hx => ?_) hla (sl _ _ upd_same))
            obtain ⟨j, hj⟩ := List.getElem?_of_mem hx
            exact ok j x ((List.getElem?_eq_some_iff.mp hj).1) hj

end
end K06

set_option Elab.async false
set_option linter.all false
set_option maxRecDepth 100000
set_option maxHeartbeats 2000000
namespace K06
open PySem PySem.Spec PyProof.Rows L2 Dz
section
variable {P : Program} {w : World} {K : PySem.W.Frag} {mg : Str → Option Value} {base : Heap} {A : Ad}

theorem Th.keep {B H H' : Hp} {p l : Addr} {v : V} {xs : List V} (h : Th B p H v) (hl : H l = some (.lst xs)) (h7 : xs.length = 7) (e : ∀ a o, a ≠ p → a ≠ l → H a = some o → H' a = some o) : Th B p H' v := by
  have ne : ∀ {a : Addr} {u : HO}, H a = some u → u ≠ .lst xs → a ≠ l := fun {a u} e n z => by
    rw [z, hl] at e
    exact n (Option.some.inj e).symm
  cases h with
  | flat h => exact .flat h
  | bl b => exact .bl b
  | non => exact .non
  | lst f n m q h => exact .lst f n m (e _ _ n (ne q fun z => by cases z; exact absurd h7 (by simp)) q) h
  | tup f n q h => exact .tup f n (e _ _ n (ne q fun z => by cases z) q) h
  | dct f n q => exact .dct f n (e _ _ n (ne q fun z => by cases z) q)
theorem flat_dS {K : PySem.W.Frag} {v : V} (h : Flat v) : ∃ d, Sq d 1921 0 ∧ ∀ H, Dq K H v d := by
  cases h with
  | int i h => exact ⟨_, (Sh.int (Nat.lt_of_lt_of_le (PySem.Flt.log2_lt_of (k := 110) (by decide) h) (by decide))).q, fun H => .int i⟩
  | str z h => exact ⟨_, (Sh.str h.2).q.more (by have := h.1; omega), fun H => .str z⟩
theorem Th.dS {K : PySem.W.Frag} {B H : Hp} {p : Addr} {v : V} (h : Th B p H v) : ∃ d, Sq d 2000 1 ∧ ∀ H', Same H H' → Dq K H' v d := by
  cases h with
  | flat h =>
    obtain ⟨d, b, a⟩ := flat_dS (K := K) h
    exact ⟨d, b.more, fun H' _ => a H'⟩
  | bl b => exact ⟨_, (Sh.bl b).q.more, fun _ _ => .bl b⟩
  | non => exact ⟨_, Sh.non.q.more, fun _ _ => .non⟩
  | lst f n m q h =>
    obtain ⟨d, b, a⟩ := flat_dS (K := K) h
    exact ⟨.list [d], (Sq.list (ds := [d]) fun x hx => by rw [List.mem_singleton.mp hx]; exact b).more (by show (1921 + 2) * 1 + 3 ≤ 2000; decide), fun H' s => .lst m (.of (s _ _ q)) (.cons (a _) .nil)⟩
  | tup f n q h =>
    obtain ⟨d, b, a⟩ := flat_dS (K := K) h
    exact ⟨.tuple [d], (Sq.tup (ds := [d]) fun x hx => by rw [List.mem_singleton.mp hx]; exact b).more (by show (1921 + 2) * 1 + 3 ≤ 2000; decide), fun H' s => .tup (.of (s _ _ q)) (.cons (a _) .nil)⟩
  | dct f n q => exact ⟨_, Sq.dct.more, fun H' s => .dct (s _ _ q)⟩
theorem row_d {K : PySem.W.Frag} {B H : Hp} {p : Addr} : ∀ {xs : List V}, (∀ x ∈ xs, Th B p H x) → ∃ ds : List PyData, ds.length = xs.length ∧ (∀ d ∈ ds, Sq d 2000 1) ∧ ∀ H', Same H H' → DqAll K H' xs ds
  | [], _ => ⟨[], rfl, (fun _ h => nomatch h), fun _ _ => .nil⟩
  | x :: xs, h => by
    obtain ⟨d, s, a⟩ := (h x List.mem_cons_self).dS (K := K)
    obtain ⟨ds, l, ss, as⟩ := row_d (K := K) (xs := xs) fun y hy => h y (List.mem_cons_of_mem _ hy)
    refine ⟨d :: ds, by rw [List.length_cons, List.length_cons, l], fun y hy => ?_, fun H' e => .cons (a H' e) (as H' e)⟩
    rcases List.mem_cons.mp hy with e | e
    · rw [e]; exact s
    · exact ss y e
theorem due_mem {n p b s w f r v : V} {nm : Bool} (h : dueOf n p b s w f r = some (nm, v)) : v ∈ [n, p, b, s, w, f, r] := by
  unfold dueOf at h
  repeat' (split at h; · (cases h; simp))
  cases h
theorem asc_told : Asc "told" := by unfold Asc; decide +kernel
theorem asc_name : Asc "name" := by unfold Asc; decide +kernel
theorem asc_number : Asc "number" := by unfold Asc; decide +kernel
theorem ask_d {K : PySem.W.Frag} {B H : Hp} {q : Addr} {n p b s w f r : V} (th : ∀ x ∈ [n, p, b, s, w, f, r], Th B q H x) : ∃ d, Sq d 40000 3 ∧ ∀ la H', Same H H' → la ≠ sysModules → AskAns n p b s w f r H' la → Dq K H' (.ref la) d := by
  unfold AskAns
  cases e : dueOf n p b s w f r with
  | none =>
    obtain ⟨ds, hl, ss, as⟩ := row_d (K := K) th
    have h7 : ds.length = 7 := hl
    have st : Sq (.tuple ds) 14017 2 := (Sq.tup ss).more (by rw [h7]; decide)
    refine ⟨.list [.str "told", .tuple ds], (Sq.list (ds := [.str "told", .tuple ds]) (B := 14017) (k := 2) fun x hx => ?_).more (by show (14017 + 2) * 2 + 3 ≤ 40000; decide), ?_⟩
    · simp only [List.mem_cons, List.not_mem_nil, or_false] at hx
      rcases hx with rfl | rfl
      · exact (Sh.str (x := "told") asc_told).q.more (by decide +kernel)
      · exact st
    · rintro la H' sm m ⟨t, h1, h2⟩
      exact .lst m (.of h1) (.cons (.str _) (.cons (.tup (.of h2) (as H' sm)) .nil))
  | some y =>
    obtain ⟨nm, v⟩ := y
    obtain ⟨d, sd, ad⟩ := (th v (due_mem e)).dS (K := K)
    refine ⟨.list [.str (if nm = true then "name" else "number"), d], (Sq.list (ds := [.str (if nm = true then "name" else "number"), d]) (B := 2000) (k := 1) fun x hx => ?_).more (by show (2000 + 2) * 2 + 3 ≤ 40000; decide), fun la H' sm m h1 => .lst m (.of h1) (.cons (.str _) (.cons (ad H' sm) .nil))⟩
    simp only [List.mem_cons, List.not_mem_nil, or_false] at hx
    rcases hx with rfl | rfl
    · cases nm
      · exact (Sh.str (x := "number") asc_number).q.more (by decide +kernel)
      · exact (Sh.str (x := "name") asc_name).q.more (by decide +kernel)
    · exact sd
theorem AskAns.same {n p b s w f r : V} {H H' : Hp} {la : Addr} (h : AskAns n p b s w f r H la) (e : Same H H') : AskAns n p b s w f r H' la := by
  unfold AskAns at h ⊢
  cases d : dueOf n p b s w f r with
  | none =>
    rw [d] at h
    obtain ⟨t, h1, h2⟩ := h
    exact ⟨t, e _ _ h1, e _ _ h2⟩
  | some y =>
    rw [d] at h
    exact e _ _ h
theorem ans_none {n p b s w f r : V} {H : Hp} {la : Addr} (h : AskAns n p b s w f r H la) (d : dueOf n p b s w f r = none) : ∃ t, H la = some (.lst [.str "told", .ref t]) := by
  unfold AskAns at h
  rw [d] at h
  obtain ⟨t, h1, _⟩ := h
  exact ⟨t, h1⟩
theorem ans_some {n p b s w f r v : V} {nm : Bool} {H : Hp} {la : Addr} (h : AskAns n p b s w f r H la) (d : dueOf n p b s w f r = some (nm, v)) : H la = some (.lst [.str (if nm = true then "name" else "number"), v]) := by
  unfold AskAns at h
  rw [d] at h
  exact h
theorem tag_ne (nm : Bool) : (!decide (V.str (if nm = true then "name" else "number") = V.str "told")) = true := by cases nm <;> decide +kernel
theorem tag_sq (nm : Bool) : Sq (.str (if nm = true then "name" else "number")) 2000 1 := by
  cases nm
  · exact (Sh.str (x := "number") asc_number).q.more (by decide +kernel)
  · exact (Sh.str (x := "name") asc_name).q.more (by decide +kernel)
theorem asc_more : Asc "more" := by unfold Asc; decide +kernel
theorem grown_d {K : PySem.W.Frag} {y : V} {nm : Bool} (fy : Flat y) : ∃ d, Sq d 20000 2 ∧ ∀ (H : Hp) (la a : Addr), la ≠ sysModules → a ≠ sysModules → H la = some (.lst [.str (if nm = true then "name" else "number"), .ref a]) → H a = some (.lst [y, .str "more"]) → Dq K H (.ref la) d := by
  obtain ⟨d, sd, ad⟩ := flat_dS (K := K) fy
  refine ⟨.list [.str (if nm = true then "name" else "number"), .list [d, .str "more"]], (Sq.list (B := 4000) (k := 1) fun x hx => ?_).more (by show (4000 + 2) * 2 + 3 ≤ 20000; decide), fun H la a m1 m2 h1 h2 => .lst m1 (.of h1) (.cons (.str _) (.cons (.lst m2 (.of h2) (.cons (ad H) (.cons (.str _) .nil))) .nil))⟩
  simp only [List.mem_cons, List.not_mem_nil, or_false] at hx
  rcases hx with rfl | rfl
  · exact (tag_sq nm).more
  · refine (Sq.list (ds := [d, .str "more"]) (B := 1921) (k := 0) fun z hz => ?_).more (by show (1921 + 2) * 2 + 3 ≤ 4000; decide)
    simp only [List.mem_cons, List.not_mem_nil, or_false] at hz
    rcases hz with rfl | rfl
    · exact sd
    · exact (Sh.str (x := "more") asc_more).q.more (by decide +kernel)
theorem isl {K : PySem.W.Frag} {B H : Hp} {p : Addr} {v : V} {Q : VK} (h : Th B p H v) (k : ∀ b : Bool, (b = true → ∃ a y, v = .ref a ∧ B a = none ∧ a ≠ p ∧ a ≠ sysModules ∧ H a = some (.lst [y]) ∧ Flat y) → Q (.bl b) H) : rIsi K [v, .ty "list"] H Q := by
  have no : (false = true → ∃ a y, v = .ref a ∧ B a = none ∧ a ≠ p ∧ a ≠ sysModules ∧ H a = some (.lst [y]) ∧ Flat y) := fun z => by cases z
  cases h with
  | flat h =>
    cases h with
    | int i h => exact ⟨_, .ty "list", .type "int", .type "list", false, rfl, .ty _, .base (.int i), kit_ty (show kitB "int" "list" = some false by decide +kernel), k false no⟩
    | str z h => exact ⟨_, .ty "list", .type "str", .type "list", false, rfl, .ty _, .base (.str z), kit_ty (show kitB "str" "list" = some false by decide +kernel), k false no⟩
  | bl b => exact ⟨_, .ty "list", .type "bool", .type "list", false, rfl, .ty _, .base (.bl b), kit_ty (show kitB "bool" "list" = some false by decide +kernel), k false no⟩
  | non => exact ⟨_, .ty "list", .type "NoneType", .type "list", false, rfl, .ty _, .base .non, kit_ty (show kitB "NoneType" "list" = some false by decide +kernel), k false no⟩
  | lst f n m q h => exact ⟨_, .ty "list", .type "list", .type "list", true, rfl, .ty _, .base (.lst q), kit_ty (show kitB "list" "list" = some true by decide +kernel), k true fun _ => ⟨_, _, rfl, f, n, m, q, h⟩⟩
  | tup f n q h => exact ⟨_, .ty "list", .type "tuple", .type "list", false, rfl, .ty _, .base (.tup q), kit_ty (show kitB "tuple" "list" = some false by decide +kernel), k false no⟩
  | dct f n q => exact ⟨_, .ty "list", .type "dict", .type "list", false, rfl, .ty _, .base (.dK q), kit_ty (show kitB "dict" "list" = some false by decide +kernel), k false no⟩
theorem seven {xs : List V} (h : xs.length = 7) : ∃ n p b s w f r, xs = [n, p, b, s, w, f, r] := by
  match xs, h with
  | [n, p, b, s, w, f, r], _ => exact ⟨n, p, b, s, w, f, r, rfl⟩
theorem two {zs : List Str} (h : (zs.length : Int) = 2) : ∃ a b, zs = [a, b] := by
  have h' : zs.length = 2 := by omega
  match zs, h' with
  | [a, b], _ => exact ⟨a, b, rfl⟩
def spLaw (K : PySem.W.Frag) : Sp := fun vs H Q _ => ∃ (a : Addr) (ns : List Int), vs = [.ref a] ∧ SqL K H a (ns.map V.int) ∧ ns.length ≤ 63 ∧ ∀ H', Q (.bl true) H'

theorem ok_law (T : Txt K mg A) (G__law_cell : Kp P w K mg base CX0 1 A.f__law_cell ["_law_script", "_law_k"] [] (spCel K)) (G__law_bag : Kp P w K mg base CX0 1 A.f__law_bag ["_law_cell_here"] [] (spBag)) (G__law_take : Kp P w K mg base CX0 1 A.f__law_take ["_law_bag_here", "_law_below"] [] (spTake)) (G__law_names : Kp P w K mg base CX0 2 A.f__law_names ["_law_bag_here", "_law_size"] [] (spNames)) (G__law_spoilt : Kp P w K mg base CX0 3 A.f__law_spoilt ["_law_bag_here", "_law_row"] [] (spSp)) (G__law_due : Kp P w K mg base CX0 2 A.f__law_due ["_law_row"] [] (spDue K)) (G__law_asked : Kp P w K mg base CX0 8 A.f__law_asked ["_law_row", "_law_way"] [] (spAsk K)) (G_Device_init : Kx P w K mg base (L2.CX P w) 6 "__init__" "Device.__init__" s_Device_init [] ([("parent", .non), ("burn", .int 5), ("sip", .int 1), ("wake", .int 1), ("fall", .int 1), ("rest", .int 0)] : List (Str × V)) A.f_Device_init ["self", "name", "parent", "burn", "sip", "wake", "fall", "rest"] (spInit K A.C_Device A.C_NoName A.C_NoNumber)) (G_Device_told : Kp P w K mg base CX0 1 A.f_Device_told ["self"] [] (spTold A.C_Device))  {fd : FuncData} (F : Fun K "law" "law" s_law A.f_law fd) : FnG P w K mg base CX0 9 A.f_law fd ["_law_script"] (spLaw K) := by
  refine fnG_nx (k := 8) F sc_law (fun vs H Q E h => ?_) (fun cdv Ar outer s H vs Q E hcl hr h => ?_)
  · obtain ⟨a, ns, rfl, hS, hl, q⟩ := h
    rfl
  · obtain ⟨a, ns, rfl, hS, hl, q⟩ := h
    have hu64 := hr.units
    have hu := hu_of hr
    refine ⟨_, (pss_cons (ps_for PassesOwn.never rfl (pi_range1 (by rfl) T.z_range (pa_cons (pe_callB (call_max2 rfl) (by rfl) T.z_max (by decide +kernel) (pa_cons pe_int (pa_cons (pe_callB (call_min2 rfl) (by rfl) T.z_min (by decide +kernel) (pa_cons pe_int (pa_cons (pe_callB call_len_seq (by rfl) T.z_len (by decide +kernel) (pa_cons (pv 0) pa_nil)) pa_nil))) pa_nil))) pa_nil)) (pg_name (i := 1) sc_law.nd rfl (Or.inl rfl)) (pss_cons (ps_set (i := 2) sc_law.nd rfl (Or.inl rfl) (pe_fn (callK0 G__law_bag hcl (hr.mono (by decide)) pass0) (by rfl) T.d__law_bag.mg T.d__law_bag.kp (pa_cons (pe_fn (callK0 G__law_cell hcl (hr.mono (by decide)) pass0) (by rfl) T.d__law_cell.mg T.d__law_cell.kp (pa_cons (pv 0) (pa_cons (pv 1) pa_nil))) pa_nil)))
      (pss_cons (ps_set (i := 3) sc_law.nd rfl (Or.inl rfl) (pe_fn (callK0 G__law_take hcl (hr.mono (by decide)) pass0) (by rfl) T.d__law_take.mg T.d__law_take.kp (pa_cons (pv 2) (pa_cons pe_int pa_nil))))
      (pss_cons (ps_set (i := 4) sc_law.nd rfl (Or.inl rfl) (pe_op op_mod (pe_fn (callK0 G__law_take hcl (hr.mono (by decide)) pass0) (by rfl) T.d__law_take.mg T.d__law_take.kp (pa_cons (pv 2) (pa_cons pe_int pa_nil))) pe_int))
      (pss_cons (ps_set (i := 5) sc_law.nd rfl (Or.inl rfl) (pe_fn (callK0 G__law_names hcl (hr.mono (by decide)) pass0) (by rfl) T.d__law_names.mg T.d__law_names.kp (pa_cons (pv 2) (pa_cons pe_int pa_nil))))
      (pss_cons (ps_set (i := 6) sc_law.nd rfl (Or.inl rfl) (pe_ix ix_list (pe_lst4 (pa_cons pe_int (pa_cons pe_int (pa_cons (pe_fn (callK0 G__law_take hcl (hr.mono (by decide)) pass0) (by rfl) T.d__law_take.mg T.d__law_take.kp (pa_cons (pv 2) (pa_cons pe_int pa_nil))) pa_nil)))) (pe_fn (callK0 G__law_take hcl (hr.mono (by decide)) pass0) (by rfl) T.d__law_take.mg T.d__law_take.kp (pa_cons (pv 2) (pa_cons pe_int pa_nil))) (fun _ _ => rfl)))
      (pss_cons (ps_set (i := 7) sc_law.nd rfl (Or.inl rfl) (pe_lst4 (pa_cons (pe_ix ix_list (pv 5) pe_int (fun _ _ => rfl)) (pa_cons (pe_ix ix_list (pe_lst4 (pa_cons pe_non (pa_cons (pe_ix ix_list (pv 5) pe_int (fun _ _ => rfl)) pa_nil))) (pe_fn (callK0 G__law_take hcl (hr.mono (by decide)) pass0) (by rfl) T.d__law_take.mg T.d__law_take.kp (pa_cons (pv 2) (pa_cons pe_int pa_nil))) (fun _ _ => rfl)) (pa_cons (pv 6) (pa_cons (pe_ix ix_list (pe_lst4 (pa_cons pe_int (pa_cons (pv 6) (pa_cons (pe_op op_add (pv 6) pe_int) pa_nil)))) (pe_fn (callK0 G__law_take hcl (hr.mono (by decide)) pass0) (by rfl) T.d__law_take.mg T.d__law_take.kp (pa_cons (pv 2) (pa_cons pe_int pa_nil))) (fun _ _ => rfl)) pa_nil))))))
      (pss_cons (ps_set (i := 7) sc_law.nd rfl (Or.inl rfl) (pe_op op_cat4 (pv 7) (pe_lst4 (pa_cons (pe_ix ix_list (pe_lst4 (pa_cons pe_int (pa_cons pe_int (pa_cons pe_int pa_nil)))) (pe_fn (callK0 G__law_take hcl (hr.mono (by decide)) pass0) (by rfl) T.d__law_take.mg T.d__law_take.kp (pa_cons (pv 2) (pa_cons pe_int pa_nil))) (fun _ _ => rfl)) (pa_cons (pe_ix ix_list (pe_lst4 (pa_cons pe_int (pa_cons pe_int (pa_cons pe_int pa_nil)))) (pe_fn (callK0 G__law_take hcl (hr.mono (by decide)) pass0) (by rfl) T.d__law_take.mg T.d__law_take.kp (pa_cons (pv 2) (pa_cons pe_int pa_nil))) (fun _ _ => rfl)) (pa_cons (pe_ix ix_list (pe_lst4 (pa_cons pe_int (pa_cons pe_int (pa_cons pe_int pa_nil)))) (pe_fn (callK0 G__law_take hcl (hr.mono (by decide)) pass0) (by rfl) T.d__law_take.mg T.d__law_take.kp (pa_cons (pv 2) (pa_cons pe_int pa_nil))) (fun _ _ => rfl)) pa_nil))))))
      (pss_cons (ps_for PassesOwn.never rfl (pi_range1 (by rfl) T.z_range (pa_cons (pv 3) pa_nil)) (pg_name (i := 8) sc_law.nd rfl (Or.inl rfl)) (pss_one (ps_expr (pe_fn (callK0 G__law_spoilt hcl (hr.mono (by decide)) pass0) (by rfl) T.d__law_spoilt.mg T.d__law_spoilt.kp (pa_cons (pv 2) (pa_cons (pv 7) pa_nil))))))
      (pss_cons (ps_set (i := 9) sc_law.nd rfl (Or.inl rfl) (pe_ix ix_list (pe_lst4 (pa_cons (pv 7) (pa_cons (pe_op op_cat4 (pe_op op_cat4 (pe_slice sl_list (pv 7) po_none (po_some pe_int)) (pe_lst4 (pa_cons pe_int pa_nil))) (pe_slice sl_list (pv 7) (po_some pe_int) po_none)) (pa_cons (pe_op op_cat4 (pe_op op_cat4 (pe_lst4 (pa_cons (pe_ix ix_list (pv 7) pe_int (fun _ _ => rfl)) (pa_cons pe_non pa_nil))) (pe_slice sl_list (pv 7) (po_some pe_int) (po_some pe_int))) (pe_lst4 (pa_cons pe_int (pa_cons pe_int (pa_cons pe_int pa_nil))))) pa_nil)))) (pv 4) (fun _ _ => rfl)))
      (pss_cons (ps_par (i := 10) (j := 9) (by rfl) sc_law.nd rfl rfl (by decide) rfl rfl (pa_cons (pe_callB (call_showQ hcl hr) (by rfl) T.z_repr (by decide +kernel) (pa_cons (pv 7) pa_nil)) (pa_cons (pe_fn (callK0 G__law_due hcl (hr.mono (by decide)) pass0) (by rfl) T.d__law_due.mg T.d__law_due.kp (pa_cons (pv 9) pa_nil)) pa_nil)) (by rfl))
      (pss_cons (ps_for PassesOwn.never rfl (pi_range1 (by rfl) T.z_range (pa_cons pe_int pa_nil)) (pg_name (i := 8) sc_law.nd rfl (Or.inl rfl)) (pss_cons (ps_set (i := 11) sc_law.nd rfl (Or.inl rfl) (pe_fn (callK0 G__law_asked hcl (hr.mono (by decide)) pass0) (by rfl) T.d__law_asked.mg T.d__law_asked.kp (pa_cons (pv 7) (pa_cons (pv 4) pa_nil))))
      (pss_one (ps_if (PW.pt (pw_or (pt_cmpR op_ne (pe_callB (call_showQ hcl hr) (by rfl) T.z_repr (by decide +kernel) (pa_cons (pv 11) pa_nil)) (pe_callB (call_showQ hcl hr) (by rfl) T.z_repr (by decide +kernel) (pa_cons (pv 9) pa_nil)) (nomark _)) (pw_or1 (pt_cmpR op_ne (pe_callB (call_showQ hcl hr) (by rfl) T.z_repr (by decide +kernel) (pa_cons (pv 7) pa_nil)) (pv 10) (nomark _))))) (pss_one (ps_ret pe_bl)) pss_nil))))
      (pss_cons (ps_if (PW.pt (pw_and (pt_cmpR op_ne (pe_ix ix_list (pv 9) pe_int (fun _ _ => rfl)) pe_str (nomark _)) (pw_and1 (pt_val (pe_callB call_isi (by rfl) T.z_isinstance (by decide +kernel) (pa_cons (pe_ix ix_list (pv 9) pe_int (fun _ _ => rfl)) (pa_cons (pe_bltn (v := .ty "list") rfl T.z_list (by decide +kernel) rfl) pa_nil))))))) (pss_cons (ps_expr (pe_bm PySem.F.plainAttrs_list PySem.F.slot_list_append PySem.F.type_list_append mt_append (pe_ix ix_list (pv 9) pe_int (fun _ _ => rfl)) (pa_cons pe_str pa_nil)))
      (pss_one (ps_if (pt_cmpR op_ne (pe_callB (call_showQ hcl hr) (by rfl) T.z_repr (by decide +kernel) (pa_cons (pv 11) pa_nil)) (pe_callB (call_showQ hcl hr) (by rfl) T.z_repr (by decide +kernel) (pa_cons (pv 9) pa_nil)) (nomark _)) (pss_one (ps_ret pe_bl)) pss_nil))) pss_nil)
      (pss_cons (ps_tryN rfl rfl sc_law.nd takes0 (fun W pn xe tkW po => (pss_one (ps_expr (pe_fnKS (callKS_mk G_Device_init T.mk_Device hcl (hr.mono (by decide)) (fun _ F => kb_Device_init_2_burn F) tkW) (by rfl) T.m_Device T.mk_Device.kp (pa_cons (pe_ix (ix_listT (K := K) rfl) (pv 5) pe_int (fun _ _ => rfl)) pa_nil) (pk_cons pe_int pk_nil))))) (.as_ (i := 12) rfl rfl ⟨by rfl, by decide, Or.inl T.e_NoNumber.mg⟩ (fun a oe cls d pn hz hf => (pss_one (ps_set (i := 3) sc_law.nd rfl (Or.inl rfl) (pe_lst4 (pa_cons (pe_xf T.e_NoNumber.xf T.e_NoNumber.nof hz hf (pv 12)) pa_nil))))) .nil))
      (pss_one (ps_if (PW.pt (pw_or (pt_cmpR op_ne (pe_callB (call_showQ hcl hr) (by rfl) T.z_repr (by decide +kernel) (pa_cons (pv 3) pa_nil)) (pe_callB (call_showQ hcl hr) (by rfl) T.z_repr (by decide +kernel) (pa_cons (pe_lst4 (pa_cons pe_int pa_nil)) pa_nil)) (nomark _)) (pw_or1 (pt_cmpR (op_neD hu64) (pe_mth0 (pe_fnKS (callKS_mk G_Device_init T.mk_Device hcl (hr.mono (by decide)) (fun _ F => kb_Device_init_2_burn F) takes0) (by rfl) T.m_Device T.mk_Device.kp (pa_cons (pe_ix ix_list (pv 5) pe_int (fun _ _ => rfl)) pa_nil) (pk_cons pe_int pk_nil)) T.cls_Device T.me_Device_told (callK0 G_Device_told hcl (hr.mono (by decide)) pass0)) (pe_tup (pa_cons (pe_ix ix_list (pv 5) pe_int (fun _ _ => rfl)) (pa_cons pe_non (pa_cons pe_int (pa_cons pe_int (pa_cons pe_int (pa_cons pe_int (pa_cons pe_int pa_nil)))))))) (nomark _))))) (pss_one (ps_ret pe_bl)) pss_nil))))))))))))))))
      (pss_one (ps_ret pe_bl))), ?_⟩
    walk_at "vc"
    refine ⟨a, _, rfl, .inl hS, ?_⟩
    walk_at "vc"
    refine ⟨_, _, rfl, ?_⟩
    walk_at "vc"
    refine ⟨_, _, rfl, ?_⟩
    walk_at "vc"
    rw [List.length_map]
    refine w_rng1 (by split <;> split <;> omega) ?_
    refine fors_go wk_range ⟨fun i σ H' => ∃ v1 v2 v3 v4 v5 v6 v7 v8 v9 v10 v11 v12 : Option V, σ = [some (.ref a), v1, v2, v3, v4, v5, v6, v7, v8, v9, v10, v11, v12] ∧ SqL K H' a (ns.map V.int), ⟨_, _, _, _, _, _, _, _, _, _, _, _, rfl, hS⟩, fun _ _ _ _ _ => trivial, ?_, ?_⟩
    · rintro i x σ B hi rfl ⟨v1, v2, v3, v4, v5, v6, v7, v8, v9, v10, v11, v12, rfl, hS'⟩
      have hi' : (i : Int) ≤ 1000 := by
        revert hi
        split <;> split <;> omega
      walk_at "vc"
      refine ⟨a, ns, i, rfl, hS', hl, by omega, hi', fun z G1 s1 => ?_⟩
      walk_at "vc"
      refine ⟨z, rfl, fun p G2 np s2 b2 => ?_⟩
      have Bp : B p = none := nback s1 np
      have B2 : Bt p B G2 := .of (s1.trans s2)
      walk_at "vc"
      refine take_now b2 (by omega) (by decide) (by decide) fun sp G3 sp0 sp9 e3 b3 => ?_
      walk_at "vc"
      refine take_now b3 (by omega) (by decide) (by decide) fun wy G4 wy0 wy9 e4 b4 => ?_
      walk_at "vc"
      refine w_rI (show (0 : Int) < 3 by decide) ?_
      have way0 : 0 ≤ wy % 3 := Int.emod_nonneg _ (by decide)
      have way9 : wy % 3 < 3 := Int.emod_lt_of_pos _ (by decide)
      generalize wy % 3 = way at way0 way9
      walk_at "vc"
      refine ⟨p, _, 2, rfl, b4, by omega, by decide, by decide, fun ln zs G5 nln len hN lnp e5 b5 hln => ?_⟩
      obtain ⟨z1, z2, rfl⟩ := two len
      have N1 : Nm z1 := hN z1 (by simp)
      have N2 : Nm z2 := hN z2 (by simp)
      have hln5 : G5 ln = some (.lst [.str z1, .str z2]) := hln
      have B5 : Bt p B G5 := ((B2.trans e3).trans e4).trans e5
      walk_at "vc"
      refine take_now b5 (by omega) (by decide) (by decide) fun k1 G6 k10 k19 e6 b6 => ?_
      walk_at "vc"
      refine ⟨sz_ok (by simp), newL4_mk fun l1 G7 n7 _ s7 h7 => ?_⟩
      walk_at "vc"
      refine take_now (b6.same s7) (by omega) (by decide) (by decide) fun k2 G8 k20 k29 e8 b8 => ?_
      obtain ⟨cost, cm, hc⟩ := pick (ns := [0, 100, k1]) rfl k20 k29 (by show (3 : Int) ≤ 3; decide)
      have cb : 0 ≤ cost ∧ cost ≤ 100 := by
        simp only [List.mem_cons, List.not_mem_nil, or_false] at cm
        omega
      walk_at "vc"
      refine w_ixL (.of (e8 _ _ (b6.ne n7) h7)) hc ?_
      walk_at "vc"
      have e58 : Bt p G5 G8 := (e6.trans (.of s7)).trans e8
      have hln8 := e58 _ _ lnp hln5
      refine w_ixL (.of hln8) (atI_nat (j := 0) rfl) ?_
      walk_at "vc"
      refine w_ixL (.of hln8) (atI_nat (j := 1) rfl) ?_
      walk_at "vc"
      refine ⟨sz_ok (by simp), newL4_mk fun l2 G9 n9 _ s9 h9 => ?_⟩
      walk_at "vc"
      refine take_now (b8.same s9) (by omega) (by decide) (by decide) fun k3 G10 k30 k39 e10 b10 => ?_
      obtain ⟨par, pm, hp⟩ := atI_mem (l := [.non, .str z2]) k30 k39
      walk_at "vc"
      refine w_ixL (.of (e10 _ _ (b8.ne n9) h9)) hp ?_
      walk_at "vc"
      refine ⟨sz_ok (by simp), newL4_mk fun l3 G11 n11 _ s11 h11 => ?_⟩
      walk_at "vc"
      refine take_now (b10.same s11) (by omega) (by decide) (by decide) fun k4 G12 k40 k49 e12 b12 => ?_
      obtain ⟨sip, sm, hs⟩ := pick (ns := [0, cost, cost + 1]) rfl k40 k49 (by show (3 : Int) ≤ 3; decide)
      have sb : 0 ≤ sip ∧ sip ≤ 101 := by
        simp only [List.mem_cons, List.not_mem_nil, or_false] at sm
        omega
      walk_at "vc"
      refine w_ixL (.of (e12 _ _ (b10.ne n11) h11)) hs ?_
      walk_at "vc"
      refine ⟨sz_ok (by simp), newL4_mk fun l4 G13 n13 _ s13 h13 => ?_⟩
      walk_at "vc"
      refine ⟨sz_ok (by simp), newL4_mk fun l5 G14 n14 _ s14 h14 => ?_⟩
      walk_at "vc"
      have b14 := (b12.same s13).same s14
      refine take_now b14 (by omega) (by decide) (by decide) fun k5 G15 k50 k59 e15 b15 => ?_
      obtain ⟨wk, wm, hw⟩ := pick (ns := [0, 5, 1]) rfl k50 k59 (by show (3 : Int) ≤ 3; decide)
      walk_at "vc"
      refine w_ixL (.of (e15 _ _ ((b12.same s13).ne n14) h14)) hw ?_
      walk_at "vc"
      refine ⟨sz_ok (by simp), newL4_mk fun l6 G16 n16 _ s16 h16 => ?_⟩
      walk_at "vc"
      refine take_now (b15.same s16) (by omega) (by decide) (by decide) fun k6 G17 k60 k69 e17 b17 => ?_
      obtain ⟨fk, fm, hf⟩ := pick (ns := [0, 5, 2]) rfl k60 k69 (by show (3 : Int) ≤ 3; decide)
      walk_at "vc"
      refine w_ixL (.of (e17 _ _ (b15.ne n16) h16)) hf ?_
      walk_at "vc"
      refine ⟨sz_ok (by simp), newL4_mk fun l8 G18 n18 _ s18 h18 => ?_⟩
      walk_at "vc"
      refine take_now (b17.same s18) (by omega) (by decide) (by decide) fun k7 G19 k70 k79 e19 b19 => ?_
      obtain ⟨rk, rm, hr'⟩ := pick (ns := [0, 9, 4]) rfl k70 k79 (by show (3 : Int) ≤ 3; decide)
      walk_at "vc"
      refine w_ixL (.of (e19 _ _ (b17.ne n18) h18)) hr' ?_
      walk_at "vc"
      refine ⟨sz_ok (by simp), newL4_mk fun l9 G20 n20 _ s20 h20 => ?_⟩
      have l4p : l4 ≠ p := b12.ne n13
      have e1320 : Bt p G13 G20 := ((((((Bt.of s14).trans e15).trans (.of s16)).trans e17).trans (.of s18)).trans e19).trans (.of s20)
      refine w_cat4 (e1320 _ _ l4p h13) h20 (by simp [sizeLine_eq]) (newL4_mk fun l G n21 l4m s21 h21 => ?_)
      have b21 := (b19.same s20).same s21
      have e820 : Bt p G8 G20 := (((((Bt.of s9).trans e10).trans (.of s11)).trans e12).trans (.of s13)).trans e1320
      have e821 : Bt p G8 G := e820.trans (.of s21)
      have B20 : Bt p B G20 := (B5.trans e58).trans e820
      have BG : Same B G := fun b o e => (B20.trans (.of s21)) b o (ne_of_none e Bp) e
      have lp : l ≠ p := (b19.same s20).ne n21
      have Bl : B l = none := B20.back lp n21
      have hlnG := e821 _ _ lnp hln8
      have lln : ln ≠ l := ne_of_none (e820 _ _ lnp hln8) n21
      have h21' : G l = some (.lst [.str z1, par, .int cost, .int sip, .int wk, .int fk, .int rk]) := h21
      have sh1 : ∀ {z : Str}, Nm z → ShT z := fun {z} h => ⟨by have := h.2.1; omega, h.asc⟩
      have th0 : ∀ x ∈ [V.str z1, par, .int cost, .int sip, .int wk, .int fk, .int rk], Th B p G x := by
        intro x hx
        simp only [List.mem_cons, List.not_mem_nil, or_false] at hx pm wm fm rm
        rcases hx with rfl | rfl | rfl | rfl | rfl | rfl | rfl
        · exact .flat (.str _ (sh1 N1))
        · rcases pm with rfl | rfl
          · exact .non
          · exact .flat (.str _ (sh1 N2))
        · exact .flat (.int _ (by omega))
        · exact .flat (.int _ (by omega))
        · exact .flat (.int _ (by omega))
        · exact .flat (.int _ (by omega))
        · exact .flat (.int _ (by omega))
      walk_at "vc"
      refine w_rng1 (by omega) ?_
      refine fors_go wk_range ⟨fun i2 σ H2 => ∃ w8 : Option V, σ = [some (.ref a), some (.int i), some (.ref p), some (.int sp), some (.int way), some (.ref ln), some (.int cost), some (.ref l), w8, v9, v10, v11, v12] ∧ (∃ xs, H2 l = some (.lst xs) ∧ xs.length = 7 ∧ ∀ x ∈ xs, Th B p H2 x) ∧ Same B H2 ∧ Bg H2 p (40 + 15 * i2) ∧ H2 ln = some (.lst [.str z1, .str z2]), ⟨_, rfl, ⟨_, h21', rfl, th0⟩, BG, b21.more (by omega), hlnG⟩, fun _ _ _ _ _ => trivial, ?_, ?_⟩
      · rintro i2 x2 σ H2 hi2 rfl ⟨w8, rfl, ⟨xs, hx, h7', thx⟩, sB, bg, hn⟩
        have hi3 : (i2 : Int) < 3 := by omega
        walk_at "vc"
        refine ⟨p, _, l, xs, rfl, bg, by omega, hx, h7', lp, fun j v H3 ex b' hl' thv => ?_⟩
        walk_at "vc"
        have sB' : Same B H3 := fun b o e => ex b o (ne_of_none e Bp) (ne_of_none e Bl) (sB b o e)
        refine ⟨_, rfl, ⟨_, hl', by rw [List.length_set]; exact h7', fun y hy => ?_⟩, sB', b'.more (by omega), ex _ _ lnp lln hn⟩
        rcases List.mem_or_eq_of_mem_set hy with m | m
        · exact (thx y m).keep hx h7' ex
        · rw [m]; exact thv.old (.of sB)
      · rintro σ H2 ⟨w8, rfl, ⟨xs, hx, h7', thx⟩, sB, bg, hn⟩
        obtain ⟨n, pr, b, s', w', f, r, rfl⟩ := seven h7'
        walk_at "vc"
        refine w_slL (.of hx) (newL_mk fun c1 J1 m1 r1 y1 => ?_)
        walk_at "vc"
        have y1' : J1 c1 = some (.lst [n, pr, b, s']) := y1
        refine ⟨sz_ok (by simp), newL4_mk fun c2 J2 m2 _ r2 y2 => ?_⟩
        refine w_cat4 (r2 _ _ y1') y2 (by simp [sizeLine_eq]) (newL4_mk fun c3 J3 m3 _ r3 y3 => ?_)
        have y3' : J3 c3 = some (.lst [n, pr, b, s', .int 1]) := y3
        have j3 := (r1.trans r2).trans r3
        walk_at "vc"
        refine w_slL (.of (j3 _ _ hx)) (newL_mk fun c4 J4 m4 r4 y4 => ?_)
        have y4' : J4 c4 = some (.lst [f, r]) := y4
        refine w_cat4 (r4 _ _ y3') y4' (by simp [sizeLine_eq]) (newL4_mk fun c5 J5 m5 _ r5 y5 => ?_)
        have y5' : J5 c5 = some (.lst [n, pr, b, s', .int 1, f, r]) := y5
        have j5 := (j3.trans r4).trans r5
        walk_at "vc"
        refine w_ixL (.of (j5 _ _ hx)) (atI_nat (j := 0) rfl) ?_
        walk_at "vc"
        refine ⟨sz_ok (by simp), newL4_mk fun c6 J6 m6 _ r6 y6 => ?_⟩
        walk_at "vc"
        refine w_slL (.of (r6 _ _ (j5 _ _ hx))) (newL_mk fun c7 J7 m7 r7 y7 => ?_)
        have y7' : J7 c7 = some (.lst [b, s']) := y7
        refine w_cat4 (r7 _ _ y6) y7' (by simp [sizeLine_eq]) (newL4_mk fun c8 J8 m8 _ r8 y8 => ?_)
        have y8' : J8 c8 = some (.lst [n, .non, b, s']) := y8
        walk_at "vc"
        refine ⟨sz_ok (by simp), newL4_mk fun c9 J9 m9 _ r9 y9 => ?_⟩
        refine w_cat4 (r9 _ _ y8') y9 (by simp [sizeLine_eq]) (newL4_mk fun d1 J10 m10 _ r10 y10 => ?_)
        have y10' : J10 d1 = some (.lst [n, .non, b, s', .int 1, .int 1, .int 0]) := y10
        walk_at "vc"
        refine ⟨sz_ok (by simp), newL4_mk fun d2 J11 m11 _ r11 y11 => ?_⟩
        have j511 : Same J5 J11 := ((((r6.trans r7).trans r8).trans r9).trans r10).trans r11
        have j11 : Same H2 J11 := j5.trans j511
        have pickd : ∃ lx pe we fe re, atI [V.ref l, .ref c5, .ref d1] way = some (.ref lx) ∧ J11 lx = some (.lst [n, pe, b, s', we, fe, re]) ∧ (∀ x ∈ [n, pe, b, s', we, fe, re], x ∈ [n, pr, b, s', w', f, r] ∨ x = .non ∨ x = .int 1 ∨ x = .int 0) ∧
            ∀ G la, (if way = 0 then AskAns n pr b s' w' f r G la else if way = 1 then AskAns n pr b s' (.int 1) f r G la else AskAns n .non b s' (.int 1) (.int 1) (.int 0) G la) ↔ AskAns n pe b s' we fe re G la := by
          have cases3 : way = 0 ∨ way = 1 ∨ way = 2 := by omega
          rcases cases3 with rfl | rfl | rfl
          · exact ⟨l, pr, w', f, r, atI_nat (j := 0) rfl, j11 _ _ hx, fun x hx => .inl hx, fun G la => by rw [if_pos rfl]⟩
          · refine ⟨c5, pr, .int 1, f, r, atI_nat (j := 1) rfl, j511 _ _ y5', fun x hx => ?_, fun G la => by rw [if_neg (by decide), if_pos rfl]⟩
            simp only [List.mem_cons, List.not_mem_nil, or_false] at hx ⊢
            rcases hx with h | h | h | h | h | h | h <;> simp [h]
          · refine ⟨d1, .non, .int 1, .int 1, .int 0, atI_nat (j := 2) rfl, r11 _ _ y10', fun x hx => ?_, fun G la => by rw [if_neg (by decide), if_neg (by decide)]⟩
            simp only [List.mem_cons, List.not_mem_nil, or_false] at hx ⊢
            rcases hx with h | h | h | h | h | h | h <;> simp [h]
        obtain ⟨lx, pe, we, fe, re, hat, hlx, hmem, hiff⟩ := pickd
        walk_at "vc"
        refine w_ixL (.of y11) hat ?_
        walk_at "vc"
        have thx11 : ∀ x ∈ [n, pr, b, s', w', f, r], Th B p J11 x := fun x hx => (thx x hx).same j11
        have the : ∀ x ∈ [n, pe, b, s', we, fe, re], Th B p J11 x := fun x hx => by
          rcases hmem x hx with h | rfl | rfl | rfl
          · exact thx11 x h
          · exact .non
          · exact .flat (.int _ (by decide))
          · exact .flat (.int _ (by decide))
        obtain ⟨ds, dl, dsq, dqa⟩ := row_d (K := K) thx11
        have dl7 : ds.length = 7 := dl
        have rowQ : ∀ G, Same J11 G → Dq K G (.ref l) (.list ds) := fun G e => .lst l4m (.of ((j11.trans e) _ _ hx)) (dqa G e)
        have rowS : Sq (.list ds) 14017 2 := (Sq.list dsq).more (by rw [dl7]; decide)
        refine w_showQ (rowQ _ (Same.refl _)) rowS ?_
        walk_at "vc"
        have K0 : ∀ x, x ∈ [n, pe, b, s', we, fe, re] → ∀ G, Same J11 G → Kn K p G x := fun x hx G e => ((the x hx).same e).kn
        have K1 : ∀ x, x ∈ [n, pr, b, s', w', f, r] → ∀ G, Same J11 G → Kn K p G x := fun x hx G e => ((thx11 x hx).same e).kn
        refine ⟨p, lx, _, _, _, _, _, _, _, rfl, hlx, K0 _ (by simp) _ (Same.refl _), K0 _ (by simp) _ (Same.refl _), K0 _ (by simp) _ (Same.refl _), K0 _ (by simp) _ (Same.refl _), K0 _ (by simp) _ (Same.refl _), K0 _ (by simp) _ (Same.refl _), K0 _ (by simp) _ (Same.refl _), (the _ (by simp)).sml, (the _ (by simp)).sml, fun lb F1 f1 nlb lbm ans => ?_⟩
        walk_at "vc"
        obtain ⟨da, daS, daQ⟩ := ask_d (K := K) the
        refine w_rng1 (by decide) ?_
        refine fors_go wk_range ⟨fun i3 σ H3 => ∃ w8 w11 : Option V, σ = [some (.ref a), some (.int i), some (.ref p), some (.int sp), some (.int way), some (.ref ln), some (.int cost), some (.ref l), w8, some (.ref lb), some (.str (PyData.list ds).shown), w11, v12] ∧ Same F1 H3 ∧ (i3 = 0 ∨ ∃ lt, w11 = some (.ref lt) ∧ lt ≠ sysModules ∧ AskAns n pe b s' we fe re H3 lt), ⟨_, _, rfl, Same.refl _, .inl rfl⟩, fun _ _ _ _ _ => trivial, ?_, ?_⟩
        · rintro i3 x3 σ H3 hi3 rfl ⟨w8, w11, rfl, s3, hlt⟩
          have f3 : Same J11 H3 := f1.trans s3
          walk_at "vc"
          refine ⟨p, l, way, _, _, _, _, _, _, _, rfl, (j11.trans f3) _ _ hx, K1 _ (by simp) _ f3, K1 _ (by simp) _ f3, K1 _ (by simp) _ f3, K1 _ (by simp) _ f3, K1 _ (by simp) _ f3, K1 _ (by simp) _ f3, K1 _ (by simp) _ f3, (thx11 _ (by simp)).sml, (thx11 _ (by simp)).sml, fun la F2 f2 lam ansA => ?_⟩
          have ansA' := (hiff F2 la).mp ansA
          have f32 := f3.trans f2
          walk_at "vc"
          refine w_showQ (daQ la F2 f32 lam ansA') daS ?_
          walk_at "vc"
          refine w_showQ (daQ lb F2 f32 lbm (ans.same (s3.trans f2))) daS ?_
          walk_at "vc"
          refine w_itF (by simp) ?_
          walk_at "vc"
          refine w_showQ (rowQ F2 f32) rowS ?_
          walk_at "vc"
          refine w_itF (by simp) ?_
          walk_at "vc"
          exact ⟨_, _, rfl, s3.trans f2, .inr ⟨la, rfl, lam, ansA'⟩⟩
        · rintro σ H3 ⟨w8, w11, rfl, s3, hlt⟩
          obtain ⟨lt, rfl, ltm, ansT⟩ := hlt.resolve_left (by decide)
          have f3 : Same J11 H3 := f1.trans s3
          have ansB := ans.same s3
          have sB3 : Same B H3 := (sB.trans j11).trans f3
          have hn3 : H3 ln = some (.lst [.str z1, .str z2]) := (j11.trans f3) _ _ hn
          walk_at "vc"
          apply w_both (P := ∀ G, Same B G → G ln = some (.lst [.str z1, .str z2]) → _)
          · intro rest
            cases e : dueOf n pe b s' we fe re with
            | none =>
              obtain ⟨t, ht⟩ := ans_none ansB e
              refine w_ixL (.of ht) atI0 ?_
              walk_at "vc"
              refine w_itF (by simp) ?_
              refine w_itF rfl ?_
              exact rest H3 sB3 hn3
            | some y =>
              obtain ⟨nm, v⟩ := y
              have hB := ans_some ansB e
              have hT := ans_some ansT e
              refine w_ixL (.of hB) atI0 ?_
              walk_at "vc"
              refine w_itT (tag_ne nm) ?_
              walk_at "vc"
              refine w_ixL (.of hB) atI1 ?_
              walk_at "vc"
              refine isl ((the v (due_mem e)).same f3) fun bb hbb => ?_
              walk_at "vc"
              cases bb with
              | false =>
                refine w_itF rfl ?_
                exact rest H3 sB3 hn3
              | true =>
                obtain ⟨a1, y, rfl, Ba, a1p, a1m, ha1, fy⟩ := hbb rfl
                refine w_itT rfl ?_
                walk_at "vc"
                refine w_ixL (.of hB) atI1 ?_
                refine w_tyL ha1 ?_
                walk_at "vc"
                refine w_append ha1 (by simp [sizeLine_eq]) ?_
                walk_at "vc"
                have ne : ∀ {q' : Addr} {u v : V}, H3 q' = some (.lst [u, v]) → q' ≠ a1 := fun {q' u v} h z => by
                  rw [z, ha1] at h
                  cases h
                obtain ⟨dg, dgS, dgQ⟩ := grown_d (K := K) (nm := nm) fy
                have g1 : (upd H3 a1 (.lst ([y] ++ [.str "more"]))) a1 = some (.lst [y, .str "more"]) := upd_same
                refine w_showQ (dgQ _ lt a1 ltm a1m (by rw [upd_ne (ne hT)]; exact hT) g1) dgS ?_
                walk_at "vc"
                refine w_showQ (dgQ _ lb a1 lbm a1m (by rw [upd_ne (ne hB)]; exact hB) g1) dgS ?_
                walk_at "vc"
                refine w_itF (by simp) ?_
                exact rest (upd H3 a1 (.lst ([y] ++ [.str "more"]))) (fun q' o h => by rw [upd_ne (ne_of_none h Ba)]; exact sB3 _ _ h) (by rw [upd_ne (ne hn3)]; exact hn3)
          · intro G gB gn
            walk_at "vc"
            refine w_ixL (.of gn) atI0 ?_
            walk_at "vc"
            refine w_ckl rfl rfl ?_
            intro x dx nx nd nxd
            have hN1 := N1.nam
            have sm1 : Sml (.str z1) := fun z e => by cases e; exact ⟨by have := N1.2.1; omega, N1.asc⟩
            have smn : Sml .non := fun z e => by cases e
            have due0 : dueOf (.str z1) .non (.int 0) (.int 1) (.int 1) (.int 1) (.int 0) = some (false, .int 1) := by
              unfold dueOf
              rw [if_neg (by rw [hN1]; decide)]
              rfl
            have due1 : dueOf (.str z1) .non (.int 1) (.int 1) (.int 1) (.int 1) (.int 0) = none := by
              unfold dueOf
              rw [if_neg (by rw [hN1]; decide)]
              rfl
            refine ⟨p, x, dx, .str z1, .non, .int 0, .int 1, .int 1, .int 1, .int 0, rfl, upd_same, .str _, .non, .int _, .int _, .int _, .int _, .int _, sm1, smn, fun h => (by rw [due0] at h; cases h), fun nm v h d G1 e1 hd => ?_⟩
            rw [due0] at h
            cases h
            have g1 := (same_new2 (o := .ins A.C_Device dx []) (u := .own x) nx nd).trans e1
            refine ⟨true, T.e_NoNumber.exm T.x_NoNumber_NoNumber, fun _ ea nea => ?_, fun z => nomatch z⟩
            walk_at "vc"
            refine ⟨rfl, rfl, d, _, _, rfl, hd, rfl, ?_⟩
            walk_at "vc"
            refine ⟨sz_ok (by simp), newL4_mk fun lq G2 nq nq4 sq hq => ?_⟩
            walk_at "vc"
            dsimp only [Dz.Ends.gone]
            walk_at "vc"
            have one : ∀ {X : Hp} {q' : Addr}, q' ≠ sysModules → X q' = some (.lst [.int 1]) → Dq K X (.ref q') (.list [.int 1]) := fun m h => .lst m (.of h) (.cons (.int 1) .nil)
            have oneS : Sq (.list [.int 1]) 2000 1 := (Sq.list (ds := [.int 1]) (B := 1921) (k := 0) fun y hy => by rw [List.mem_singleton.mp hy]; exact (Sh.small (by decide)).q).more (by show (1921 + 2) * 1 + 3 ≤ 2000; decide)
            refine w_showQ (one nq4 hq) oneS ?_
            walk_at "vc"
            refine ⟨sz_ok (by simp), newL4_mk fun lr G3 nr nr4 sr hr3 => ?_⟩
            walk_at "vc"
            refine w_showQ (one nr4 hr3) oneS ?_
            walk_at "vc"
            refine w_itF (by simp) ?_
            walk_at "vc"
            have g3 := (g1.trans sq).trans sr
            refine w_ixL (.of (g3 _ _ gn)) atI0 ?_
            walk_at "vc"
            refine w_ckl rfl rfl ?_
            intro x2 dx2 nx2 nd2 nxd2
            have e3' := same_new2 (o := .ins A.C_Device dx2 []) (u := .own x2) nx2 nd2
            refine ⟨p, x2, dx2, .str z1, .non, .int 1, .int 1, .int 1, .int 1, .int 0, rfl, upd_same, .str _, .non, .int _, .int _, .int _, .int _, .int _, sm1, smn, fun _ t G4 bt hx2 ht => ⟨rfl, ?_⟩, fun nm v h => (by rw [due1] at h; cases h)⟩
            have g4 : Same G G4 := g3.trans (bt_fresh e3' nx2 bt)
            refine ⟨x2, dx2, _, rfl, hx2, rfl, ?_⟩
            walk_at "vc"
            refine ⟨x2, dx2, _, rfl, hx2, ?_⟩
            walk_at "vc"
            refine w_ixL (.of (g4 _ _ gn)) atI0 ?_
            walk_at "vc"
            refine ⟨sz_ok (by simp), newT_mk fun t2 G5' nt2 st2 ht2 => ?_⟩
            walk_at "vc"
            have dpt : ∀ {X : Hp} {q' : Addr}, X q' = some (.tup [.str z1, .non, .int 1, .int 1, .int 1, .int 1, .int 0]) → Dp K X (.ref q') (.tuple [.str z1, .none, .int 1, .int 1, .int 1, .int 1, .int 0]) := fun h => .tup (.of h) (.cons (.str _) (.cons .non (.cons (.int _) (.cons (.int _) (.cons (.int _) (.cons (.int _) (.cons (.int _) .nil)))))))
            have shp : SeqAt.shaped (.tuple [.str z1, .none, .int 1, .int 1, .int 1, .int 1, .int 0]) = true := by
              unfold SeqAt.shaped
              have h1 := asc_ok N1.asc
              simp only [PyData.canLay0, PyData.canLayAll0, PyData.depth, PyData.depthAll, h1]
              rfl
            refine ⟨_, _, dpt (st2 _ _ ht), dpt ht2, ?_, ?_, ?_⟩
            · exact shp
            · exact shp
            · walk_at "vc"
              refine w_itF (by simp [PyData.eqv, PyData.eqvAll]) ?_
              walk_at "vc"
              exact ⟨_, _, _, _, _, _, _, _, _, _, _, _, rfl, (gB.trans (g4.trans st2)).seq hS'⟩
    · rintro σ H' ⟨v1, v2, v3, v4, v5, v6, v7, v8, v9, v10, v11, v12, rfl, hS'⟩
      walk_at "vc"
      exact q H'

end
/-! ### the end -/
theorem all_mk {l : PySem.W.OpenLaw} {w : World} {K : PySem.W.Frag} {h : Heap} {mg : Str → Option Value} {fa : Addr} (X : K.In h) (G : h.Ns mainGlobals mg) (hfa : mg "law" = some (.ref fa))
    {od_is_truth an_is_truth : Option Addr}
    {sl_is_truth : Array (Option Value)}
    {oc_is_truth kV_is_truth dc_is_truth pm_is_truth cd_is_truth ct_is_truth : Value}
    {f_is_truth : Addr}
    {od_is_number an_is_number : Option Addr}
    {sl_is_number : Array (Option Value)}
    {oc_is_number kV_is_number dc_is_number pm_is_number cd_is_number ct_is_number : Value}
    {f_is_number : Addr}
    {od_is_at_least an_is_at_least : Option Addr}
    {sl_is_at_least : Array (Option Value)}
    {oc_is_at_least kV_is_at_least dc_is_at_least pm_is_at_least cd_is_at_least ct_is_at_least : Value}
    {f_is_at_least : Addr}
    {od_is_whole an_is_whole : Option Addr}
    {sl_is_whole : Array (Option Value)}
    {oc_is_whole kV_is_whole dc_is_whole pm_is_whole cd_is_whole ct_is_whole : Value}
    {f_is_whole : Addr}
    {od_is_name an_is_name : Option Addr}
    {sl_is_name : Array (Option Value)}
    {oc_is_name kV_is_name dc_is_name pm_is_name cd_is_name ct_is_name : Value}
    {f_is_name : Addr}
    {od__is_made_of an__is_made_of : Option Addr}
    {sl__is_made_of : Array (Option Value)}
    {oc__is_made_of kV__is_made_of dc__is_made_of pm__is_made_of cd__is_made_of ct__is_made_of : Value}
    {f__is_made_of : Addr}
    {od__need_whole an__need_whole : Option Addr}
    {sl__need_whole : Array (Option Value)}
    {oc__need_whole kV__need_whole dc__need_whole pm__need_whole cd__need_whole ct__need_whole : Value}
    {f__need_whole : Addr}
    {od__law_cell an__law_cell : Option Addr}
    {sl__law_cell : Array (Option Value)}
    {oc__law_cell kV__law_cell dc__law_cell pm__law_cell cd__law_cell ct__law_cell : Value}
    {f__law_cell : Addr}
    {od__law_bag an__law_bag : Option Addr}
    {sl__law_bag : Array (Option Value)}
    {oc__law_bag kV__law_bag dc__law_bag pm__law_bag cd__law_bag ct__law_bag : Value}
    {f__law_bag : Addr}
    {od__law_take an__law_take : Option Addr}
    {sl__law_take : Array (Option Value)}
    {oc__law_take kV__law_take dc__law_take pm__law_take cd__law_take ct__law_take : Value}
    {f__law_take : Addr}
    {od__law_names an__law_names : Option Addr}
    {sl__law_names : Array (Option Value)}
    {oc__law_names kV__law_names dc__law_names pm__law_names cd__law_names ct__law_names : Value}
    {f__law_names : Addr}
    {od__law_is_name an__law_is_name : Option Addr}
    {sl__law_is_name : Array (Option Value)}
    {oc__law_is_name kV__law_is_name dc__law_is_name pm__law_is_name cd__law_is_name ct__law_is_name : Value}
    {f__law_is_name : Addr}
    {od__law_is_whole an__law_is_whole : Option Addr}
    {sl__law_is_whole : Array (Option Value)}
    {oc__law_is_whole kV__law_is_whole dc__law_is_whole pm__law_is_whole cd__law_is_whole ct__law_is_whole : Value}
    {f__law_is_whole : Addr}
    {od__law_due an__law_due : Option Addr}
    {sl__law_due : Array (Option Value)}
    {oc__law_due kV__law_due dc__law_due pm__law_due cd__law_due ct__law_due : Value}
    {f__law_due : Addr}
    {od__law_asked an__law_asked : Option Addr}
    {sl__law_asked : Array (Option Value)}
    {oc__law_asked kV__law_asked dc__law_asked pm__law_asked cd__law_asked ct__law_asked : Value}
    {f__law_asked : Addr}
    {od__law_bad_name an__law_bad_name : Option Addr}
    {sl__law_bad_name : Array (Option Value)}
    {oc__law_bad_name kV__law_bad_name dc__law_bad_name pm__law_bad_name cd__law_bad_name ct__law_bad_name : Value}
    {f__law_bad_name : Addr}
    {od__law_bad_number an__law_bad_number : Option Addr}
    {sl__law_bad_number : Array (Option Value)}
    {oc__law_bad_number kV__law_bad_number dc__law_bad_number pm__law_bad_number cd__law_bad_number ct__law_bad_number : Value}
    {f__law_bad_number : Addr}
    {od__law_spoilt an__law_spoilt : Option Addr}
    {sl__law_spoilt : Array (Option Value)}
    {oc__law_spoilt kV__law_spoilt dc__law_spoilt pm__law_spoilt cd__law_spoilt ct__law_spoilt : Value}
    {f__law_spoilt : Addr}
    {od_law an_law : Option Addr}
    {sl_law : Array (Option Value)}
    {oc_law kV_law dc_law pm_law cd_law ct_law : Value}
    {f_law : Addr}
    {t__LETTERS : Tok}
    {t__NAME_SIGNS : Tok}
    {t__MOST_BURN : Tok}
    {t__MOST_TURNS : Tok}
    {t__MOST_REST : Tok}
    {U_WakeError : Addr}
    {C_NoName : Addr}
    {N_NoName : Addr}
    {nm_NoName q_NoName : Str}
    {bs_NoName sub_NoName : List Value}
    {sn_NoName : List Str}
    {ab_NoName : Bool}
    {col_NoName : Option Bool}
    {dd_NoName : Option Addr}
    {m0_NoName m1_NoName m2_NoName m3_NoName m5_NoName : Option Value}
    {od_NoName_init an_NoName_init : Option Addr}
    {sl_NoName_init : Array (Option Value)}
    {oc_NoName_init kV_NoName_init dc_NoName_init pm_NoName_init cd_NoName_init ct_NoName_init : Value}
    {f_NoName_init : Addr}
    {C_NoNumber : Addr}
    {N_NoNumber : Addr}
    {nm_NoNumber q_NoNumber : Str}
    {bs_NoNumber sub_NoNumber : List Value}
    {sn_NoNumber : List Str}
    {ab_NoNumber : Bool}
    {col_NoNumber : Option Bool}
    {dd_NoNumber : Option Addr}
    {m0_NoNumber m1_NoNumber m2_NoNumber m3_NoNumber m5_NoNumber : Option Value}
    {od_NoNumber_init an_NoNumber_init : Option Addr}
    {sl_NoNumber_init : Array (Option Value)}
    {oc_NoNumber_init kV_NoNumber_init dc_NoNumber_init pm_NoNumber_init cd_NoNumber_init ct_NoNumber_init : Value}
    {f_NoNumber_init : Addr}
    {C_Device : Addr}
    {od_Device_init an_Device_init : Option Addr}
    {sl_Device_init : Array (Option Value)}
    {oc_Device_init dc_Device_init pm_Device_init cd_Device_init ct_Device_init : Value}
    {f_Device_init : Addr}
    {D_Device_init : Addr}
    {kv_Device_init_parent : Value}
    {kv_Device_init_burn : Value}
    {kv_Device_init_sip : Value}
    {kv_Device_init_wake : Value}
    {kv_Device_init_fall : Value}
    {kv_Device_init_rest : Value}
    {od_Device_told an_Device_told : Option Addr}
    {sl_Device_told : Array (Option Value)}
    {oc_Device_told kV_Device_told dc_Device_told pm_Device_told cd_Device_told ct_Device_told : Value}
    {f_Device_told : Addr}
    (a_is_truth : PySem.W.nsIn K mainGlobals "is_truth" = some (some (.ref f_is_truth)))
    (l_is_truth : K.lookup f_is_truth = some ⟨oc_is_truth, od_is_truth, .func (PySem.W.fnOf "is_truth" "is_truth" (defArgs s_is_truth) (defBody s_is_truth) (defScope s_is_truth) .none kV_is_truth dc_is_truth pm_is_truth an_is_truth cd_is_truth ct_is_truth), sl_is_truth⟩)
    (c_is_truth : PySem.W.codeIn K cd_is_truth "is_truth" = true)
    (k_is_truth : PySem.W.keepIn K (.ref f_is_truth) = true)
    (a_is_number : PySem.W.nsIn K mainGlobals "is_number" = some (some (.ref f_is_number)))
    (l_is_number : K.lookup f_is_number = some ⟨oc_is_number, od_is_number, .func (PySem.W.fnOf "is_number" "is_number" (defArgs s_is_number) (defBody s_is_number) (defScope s_is_number) .none kV_is_number dc_is_number pm_is_number an_is_number cd_is_number ct_is_number), sl_is_number⟩)
    (c_is_number : PySem.W.codeIn K cd_is_number "is_number" = true)
    (k_is_number : PySem.W.keepIn K (.ref f_is_number) = true)
    (a_is_at_least : PySem.W.nsIn K mainGlobals "is_at_least" = some (some (.ref f_is_at_least)))
    (l_is_at_least : K.lookup f_is_at_least = some ⟨oc_is_at_least, od_is_at_least, .func (PySem.W.fnOf "is_at_least" "is_at_least" (defArgs s_is_at_least) (defBody s_is_at_least) (defScope s_is_at_least) .none kV_is_at_least dc_is_at_least pm_is_at_least an_is_at_least cd_is_at_least ct_is_at_least), sl_is_at_least⟩)
    (c_is_at_least : PySem.W.codeIn K cd_is_at_least "is_at_least" = true)
    (k_is_at_least : PySem.W.keepIn K (.ref f_is_at_least) = true)
    (a_is_whole : PySem.W.nsIn K mainGlobals "is_whole" = some (some (.ref f_is_whole)))
    (l_is_whole : K.lookup f_is_whole = some ⟨oc_is_whole, od_is_whole, .func (PySem.W.fnOf "is_whole" "is_whole" (defArgs s_is_whole) (defBody s_is_whole) (defScope s_is_whole) .none kV_is_whole dc_is_whole pm_is_whole an_is_whole cd_is_whole ct_is_whole), sl_is_whole⟩)
    (c_is_whole : PySem.W.codeIn K cd_is_whole "is_whole" = true)
    (k_is_whole : PySem.W.keepIn K (.ref f_is_whole) = true)
    (a_is_name : PySem.W.nsIn K mainGlobals "is_name" = some (some (.ref f_is_name)))
    (l_is_name : K.lookup f_is_name = some ⟨oc_is_name, od_is_name, .func (PySem.W.fnOf "is_name" "is_name" (defArgs s_is_name) (defBody s_is_name) (defScope s_is_name) .none kV_is_name dc_is_name pm_is_name an_is_name cd_is_name ct_is_name), sl_is_name⟩)
    (c_is_name : PySem.W.codeIn K cd_is_name "is_name" = true)
    (k_is_name : PySem.W.keepIn K (.ref f_is_name) = true)
    (a__is_made_of : PySem.W.nsIn K mainGlobals "_is_made_of" = some (some (.ref f__is_made_of)))
    (l__is_made_of : K.lookup f__is_made_of = some ⟨oc__is_made_of, od__is_made_of, .func (PySem.W.fnOf "_is_made_of" "_is_made_of" (defArgs s__is_made_of) (defBody s__is_made_of) (defScope s__is_made_of) .none kV__is_made_of dc__is_made_of pm__is_made_of an__is_made_of cd__is_made_of ct__is_made_of), sl__is_made_of⟩)
    (c__is_made_of : PySem.W.codeIn K cd__is_made_of "_is_made_of" = true)
    (k__is_made_of : PySem.W.keepIn K (.ref f__is_made_of) = true)
    (a__need_whole : PySem.W.nsIn K mainGlobals "_need_whole" = some (some (.ref f__need_whole)))
    (l__need_whole : K.lookup f__need_whole = some ⟨oc__need_whole, od__need_whole, .func (PySem.W.fnOf "_need_whole" "_need_whole" (defArgs s__need_whole) (defBody s__need_whole) (defScope s__need_whole) .none kV__need_whole dc__need_whole pm__need_whole an__need_whole cd__need_whole ct__need_whole), sl__need_whole⟩)
    (c__need_whole : PySem.W.codeIn K cd__need_whole "_need_whole" = true)
    (k__need_whole : PySem.W.keepIn K (.ref f__need_whole) = true)
    (a__law_cell : PySem.W.nsIn K mainGlobals "_law_cell" = some (some (.ref f__law_cell)))
    (l__law_cell : K.lookup f__law_cell = some ⟨oc__law_cell, od__law_cell, .func (PySem.W.fnOf "_law_cell" "_law_cell" (defArgs s__law_cell) (defBody s__law_cell) (defScope s__law_cell) .none kV__law_cell dc__law_cell pm__law_cell an__law_cell cd__law_cell ct__law_cell), sl__law_cell⟩)
    (c__law_cell : PySem.W.codeIn K cd__law_cell "_law_cell" = true)
    (k__law_cell : PySem.W.keepIn K (.ref f__law_cell) = true)
    (a__law_bag : PySem.W.nsIn K mainGlobals "_law_bag" = some (some (.ref f__law_bag)))
    (l__law_bag : K.lookup f__law_bag = some ⟨oc__law_bag, od__law_bag, .func (PySem.W.fnOf "_law_bag" "_law_bag" (defArgs s__law_bag) (defBody s__law_bag) (defScope s__law_bag) .none kV__law_bag dc__law_bag pm__law_bag an__law_bag cd__law_bag ct__law_bag), sl__law_bag⟩)
    (c__law_bag : PySem.W.codeIn K cd__law_bag "_law_bag" = true)
    (k__law_bag : PySem.W.keepIn K (.ref f__law_bag) = true)
    (a__law_take : PySem.W.nsIn K mainGlobals "_law_take" = some (some (.ref f__law_take)))
    (l__law_take : K.lookup f__law_take = some ⟨oc__law_take, od__law_take, .func (PySem.W.fnOf "_law_take" "_law_take" (defArgs s__law_take) (defBody s__law_take) (defScope s__law_take) .none kV__law_take dc__law_take pm__law_take an__law_take cd__law_take ct__law_take), sl__law_take⟩)
    (c__law_take : PySem.W.codeIn K cd__law_take "_law_take" = true)
    (k__law_take : PySem.W.keepIn K (.ref f__law_take) = true)
    (a__law_names : PySem.W.nsIn K mainGlobals "_law_names" = some (some (.ref f__law_names)))
    (l__law_names : K.lookup f__law_names = some ⟨oc__law_names, od__law_names, .func (PySem.W.fnOf "_law_names" "_law_names" (defArgs s__law_names) (defBody s__law_names) (defScope s__law_names) .none kV__law_names dc__law_names pm__law_names an__law_names cd__law_names ct__law_names), sl__law_names⟩)
    (c__law_names : PySem.W.codeIn K cd__law_names "_law_names" = true)
    (k__law_names : PySem.W.keepIn K (.ref f__law_names) = true)
    (a__law_is_name : PySem.W.nsIn K mainGlobals "_law_is_name" = some (some (.ref f__law_is_name)))
    (l__law_is_name : K.lookup f__law_is_name = some ⟨oc__law_is_name, od__law_is_name, .func (PySem.W.fnOf "_law_is_name" "_law_is_name" (defArgs s__law_is_name) (defBody s__law_is_name) (defScope s__law_is_name) .none kV__law_is_name dc__law_is_name pm__law_is_name an__law_is_name cd__law_is_name ct__law_is_name), sl__law_is_name⟩)
    (c__law_is_name : PySem.W.codeIn K cd__law_is_name "_law_is_name" = true)
    (k__law_is_name : PySem.W.keepIn K (.ref f__law_is_name) = true)
    (a__law_is_whole : PySem.W.nsIn K mainGlobals "_law_is_whole" = some (some (.ref f__law_is_whole)))
    (l__law_is_whole : K.lookup f__law_is_whole = some ⟨oc__law_is_whole, od__law_is_whole, .func (PySem.W.fnOf "_law_is_whole" "_law_is_whole" (defArgs s__law_is_whole) (defBody s__law_is_whole) (defScope s__law_is_whole) .none kV__law_is_whole dc__law_is_whole pm__law_is_whole an__law_is_whole cd__law_is_whole ct__law_is_whole), sl__law_is_whole⟩)
    (c__law_is_whole : PySem.W.codeIn K cd__law_is_whole "_law_is_whole" = true)
    (k__law_is_whole : PySem.W.keepIn K (.ref f__law_is_whole) = true)
    (a__law_due : PySem.W.nsIn K mainGlobals "_law_due" = some (some (.ref f__law_due)))
    (l__law_due : K.lookup f__law_due = some ⟨oc__law_due, od__law_due, .func (PySem.W.fnOf "_law_due" "_law_due" (defArgs s__law_due) (defBody s__law_due) (defScope s__law_due) .none kV__law_due dc__law_due pm__law_due an__law_due cd__law_due ct__law_due), sl__law_due⟩)
    (c__law_due : PySem.W.codeIn K cd__law_due "_law_due" = true)
    (k__law_due : PySem.W.keepIn K (.ref f__law_due) = true)
    (a__law_asked : PySem.W.nsIn K mainGlobals "_law_asked" = some (some (.ref f__law_asked)))
    (l__law_asked : K.lookup f__law_asked = some ⟨oc__law_asked, od__law_asked, .func (PySem.W.fnOf "_law_asked" "_law_asked" (defArgs s__law_asked) (defBody s__law_asked) (defScope s__law_asked) .none kV__law_asked dc__law_asked pm__law_asked an__law_asked cd__law_asked ct__law_asked), sl__law_asked⟩)
    (c__law_asked : PySem.W.codeIn K cd__law_asked "_law_asked" = true)
    (k__law_asked : PySem.W.keepIn K (.ref f__law_asked) = true)
    (a__law_bad_name : PySem.W.nsIn K mainGlobals "_law_bad_name" = some (some (.ref f__law_bad_name)))
    (l__law_bad_name : K.lookup f__law_bad_name = some ⟨oc__law_bad_name, od__law_bad_name, .func (PySem.W.fnOf "_law_bad_name" "_law_bad_name" (defArgs s__law_bad_name) (defBody s__law_bad_name) (defScope s__law_bad_name) .none kV__law_bad_name dc__law_bad_name pm__law_bad_name an__law_bad_name cd__law_bad_name ct__law_bad_name), sl__law_bad_name⟩)
    (c__law_bad_name : PySem.W.codeIn K cd__law_bad_name "_law_bad_name" = true)
    (k__law_bad_name : PySem.W.keepIn K (.ref f__law_bad_name) = true)
    (a__law_bad_number : PySem.W.nsIn K mainGlobals "_law_bad_number" = some (some (.ref f__law_bad_number)))
    (l__law_bad_number : K.lookup f__law_bad_number = some ⟨oc__law_bad_number, od__law_bad_number, .func (PySem.W.fnOf "_law_bad_number" "_law_bad_number" (defArgs s__law_bad_number) (defBody s__law_bad_number) (defScope s__law_bad_number) .none kV__law_bad_number dc__law_bad_number pm__law_bad_number an__law_bad_number cd__law_bad_number ct__law_bad_number), sl__law_bad_number⟩)
    (c__law_bad_number : PySem.W.codeIn K cd__law_bad_number "_law_bad_number" = true)
    (k__law_bad_number : PySem.W.keepIn K (.ref f__law_bad_number) = true)
    (a__law_spoilt : PySem.W.nsIn K mainGlobals "_law_spoilt" = some (some (.ref f__law_spoilt)))
    (l__law_spoilt : K.lookup f__law_spoilt = some ⟨oc__law_spoilt, od__law_spoilt, .func (PySem.W.fnOf "_law_spoilt" "_law_spoilt" (defArgs s__law_spoilt) (defBody s__law_spoilt) (defScope s__law_spoilt) .none kV__law_spoilt dc__law_spoilt pm__law_spoilt an__law_spoilt cd__law_spoilt ct__law_spoilt), sl__law_spoilt⟩)
    (c__law_spoilt : PySem.W.codeIn K cd__law_spoilt "_law_spoilt" = true)
    (k__law_spoilt : PySem.W.keepIn K (.ref f__law_spoilt) = true)
    (a_law : PySem.W.nsIn K mainGlobals "law" = some (some (.ref f_law)))
    (l_law : K.lookup f_law = some ⟨oc_law, od_law, .func (PySem.W.fnOf "law" "law" (defArgs s_law) (defBody s_law) (defScope s_law) .none kV_law dc_law pm_law an_law cd_law ct_law), sl_law⟩)
    (c_law : PySem.W.codeIn K cd_law "law" = true)
    (k_law : PySem.W.keepIn K (.ref f_law) = true)
    (z_all : PySem.W.nsIn K mainGlobals "all" = some none)
    (z_bool : PySem.W.nsIn K mainGlobals "bool" = some none)
    (z_int : PySem.W.nsIn K mainGlobals "int" = some none)
    (z_isinstance : PySem.W.nsIn K mainGlobals "isinstance" = some none)
    (z_len : PySem.W.nsIn K mainGlobals "len" = some none)
    (z_list : PySem.W.nsIn K mainGlobals "list" = some none)
    (z_max : PySem.W.nsIn K mainGlobals "max" = some none)
    (z_min : PySem.W.nsIn K mainGlobals "min" = some none)
    (z_range : PySem.W.nsIn K mainGlobals "range" = some none)
    (z_repr : PySem.W.nsIn K mainGlobals "repr" = some none)
    (z_str : PySem.W.nsIn K mainGlobals "str" = some none)
    (z_sum : PySem.W.nsIn K mainGlobals "sum" = some none)
    (z_tuple : PySem.W.nsIn K mainGlobals "tuple" = some none)
    (v__LETTERS : PySem.W.nsIn K mainGlobals "_LETTERS" = some (some (.str "abcdefghijklmnopqrstuvwxyz" t__LETTERS)))
    (v__NAME_SIGNS : PySem.W.nsIn K mainGlobals "_NAME_SIGNS" = some (some (.int 8 t__NAME_SIGNS)))
    (v__MOST_BURN : PySem.W.nsIn K mainGlobals "_MOST_BURN" = some (some (.int 100 t__MOST_BURN)))
    (v__MOST_TURNS : PySem.W.nsIn K mainGlobals "_MOST_TURNS" = some (some (.int 5 t__MOST_TURNS)))
    (v__MOST_REST : PySem.W.nsIn K mainGlobals "_MOST_REST" = some (some (.int 9 t__MOST_REST)))
    (u_WakeError : PySem.W.nsIn K mainGlobals "WakeError" = some (some (.ref U_WakeError)))
    (ur_WakeError : PySem.W.readsIn K U_WakeError (.type "type") = true)
    (ug_WakeError : PySem.W.specialIn K (.ref U_WakeError) "__getattribute__" = some (some (.builtin "type.__getattribute__")))
    (ui_WakeError : PySem.W.findCls K (.ref U_WakeError) (.type "type") "__init__" = some (.val (.builtin "ValueError.__init__")))
    (hn : PySem.W.specialIn K (.builtin "object.__class__") "__get__" = some (some (.builtin "getset_descriptor.__get__")))
    (htk : PySem.W.takesIn K (.builtin "object.__class__") = some true)
    (e_NoName : PySem.W.nsIn K mainGlobals "NoName" = some (some (.ref C_NoName)))
    (ex_NoName : K.lookup C_NoName = some (excClassObj nm_NoName q_NoName C_NoName N_NoName bs_NoName [.ref U_WakeError, .type "ValueError", .type "Exception", .type "BaseException", .type "object"] true sn_NoName sub_NoName ab_NoName col_NoName dd_NoName m0_NoName m1_NoName m2_NoName m3_NoName m5_NoName "ValueError.__new__"))
    (ei_NoName : PySem.W.findIn K (.ref C_NoName) "__init__" = some (some (.ref f_NoName_init)))
    (l_NoName_init : K.lookup f_NoName_init = some ⟨oc_NoName_init, od_NoName_init, .func (PySem.W.fnOf "__init__" "NoName.__init__" (defArgs s_NoName_init) (defBody s_NoName_init) (defScope s_NoName_init) .none kV_NoName_init dc_NoName_init pm_NoName_init an_NoName_init cd_NoName_init ct_NoName_init), sl_NoName_init⟩)
    (c_NoName_init : PySem.W.codeIn K cd_NoName_init "NoName.__init__" = true)
    (k_NoName_init : PySem.W.keepIn K (.ref f_NoName_init) = true)
    (et_NoName : PySem.W.typeIn K (.ref f_NoName_init) = some (.type "function"))
    (esa_NoName : PySem.W.findIn K (.ref C_NoName) "__setattr__" = some (some (.builtin "object.__setattr__")))
    (ega_NoName : PySem.W.findIn K (.ref C_NoName) "__getattribute__" = some (some (.builtin "BaseException.__getattribute__")))
    (egt_NoName : PySem.W.findIn K (.ref C_NoName) "__getattr__" = some none)
    (enf_NoName : PySem.W.findIn K (.ref C_NoName) "found" = some none)
    (ecl_NoName : PySem.W.findIn K (.ref C_NoName) "__class__" = some (some (.builtin "object.__class__")))
    (esb_NoName : PySem.W.subIn K (.ref C_NoName) (.type "BaseException") = some true)
    (ety_NoName : PySem.W.typeIn K (.ref C_NoName) = some (.type "type"))
    (ekp_NoName : PySem.W.keepIn K (.ref C_NoName) = true)
    (eic_NoName : PySem.W.isClsIn K C_NoName = true)
    (emr_NoName : PySem.W.mroIn K C_NoName (.type "object") = some true)
    (ek1_NoName : PySem.W.subIn K (.ref C_NoName) (.type "int") = some false)
    (ek2_NoName : PySem.W.subIn K (.ref C_NoName) (.type "bool") = some false)
    (ek3_NoName : PySem.W.subIn K (.ref C_NoName) (.type "str") = some false)
    (ek4_NoName : PySem.W.subIn K (.ref C_NoName) (.type "list") = some false)
    (ek5_NoName : PySem.W.subIn K (.ref C_NoName) (.type "tuple") = some false)
    (ek6_NoName : PySem.W.subIn K (.ref C_NoName) (.type "dict") = some false)
    (e_NoNumber : PySem.W.nsIn K mainGlobals "NoNumber" = some (some (.ref C_NoNumber)))
    (ex_NoNumber : K.lookup C_NoNumber = some (excClassObj nm_NoNumber q_NoNumber C_NoNumber N_NoNumber bs_NoNumber [.ref U_WakeError, .type "ValueError", .type "Exception", .type "BaseException", .type "object"] true sn_NoNumber sub_NoNumber ab_NoNumber col_NoNumber dd_NoNumber m0_NoNumber m1_NoNumber m2_NoNumber m3_NoNumber m5_NoNumber "ValueError.__new__"))
    (ei_NoNumber : PySem.W.findIn K (.ref C_NoNumber) "__init__" = some (some (.ref f_NoNumber_init)))
    (l_NoNumber_init : K.lookup f_NoNumber_init = some ⟨oc_NoNumber_init, od_NoNumber_init, .func (PySem.W.fnOf "__init__" "NoNumber.__init__" (defArgs s_NoNumber_init) (defBody s_NoNumber_init) (defScope s_NoNumber_init) .none kV_NoNumber_init dc_NoNumber_init pm_NoNumber_init an_NoNumber_init cd_NoNumber_init ct_NoNumber_init), sl_NoNumber_init⟩)
    (c_NoNumber_init : PySem.W.codeIn K cd_NoNumber_init "NoNumber.__init__" = true)
    (k_NoNumber_init : PySem.W.keepIn K (.ref f_NoNumber_init) = true)
    (et_NoNumber : PySem.W.typeIn K (.ref f_NoNumber_init) = some (.type "function"))
    (esa_NoNumber : PySem.W.findIn K (.ref C_NoNumber) "__setattr__" = some (some (.builtin "object.__setattr__")))
    (ega_NoNumber : PySem.W.findIn K (.ref C_NoNumber) "__getattribute__" = some (some (.builtin "BaseException.__getattribute__")))
    (egt_NoNumber : PySem.W.findIn K (.ref C_NoNumber) "__getattr__" = some none)
    (enf_NoNumber : PySem.W.findIn K (.ref C_NoNumber) "found" = some none)
    (ecl_NoNumber : PySem.W.findIn K (.ref C_NoNumber) "__class__" = some (some (.builtin "object.__class__")))
    (esb_NoNumber : PySem.W.subIn K (.ref C_NoNumber) (.type "BaseException") = some true)
    (ety_NoNumber : PySem.W.typeIn K (.ref C_NoNumber) = some (.type "type"))
    (ekp_NoNumber : PySem.W.keepIn K (.ref C_NoNumber) = true)
    (eic_NoNumber : PySem.W.isClsIn K C_NoNumber = true)
    (emr_NoNumber : PySem.W.mroIn K C_NoNumber (.type "object") = some true)
    (ek1_NoNumber : PySem.W.subIn K (.ref C_NoNumber) (.type "int") = some false)
    (ek2_NoNumber : PySem.W.subIn K (.ref C_NoNumber) (.type "bool") = some false)
    (ek3_NoNumber : PySem.W.subIn K (.ref C_NoNumber) (.type "str") = some false)
    (ek4_NoNumber : PySem.W.subIn K (.ref C_NoNumber) (.type "list") = some false)
    (ek5_NoNumber : PySem.W.subIn K (.ref C_NoNumber) (.type "tuple") = some false)
    (ek6_NoNumber : PySem.W.subIn K (.ref C_NoNumber) (.type "dict") = some false)
    (es_NoName_NoName : PySem.W.subIn K (.ref C_NoName) (.ref C_NoName) = some true)
    (es_NoName_NoNumber : PySem.W.subIn K (.ref C_NoName) (.ref C_NoNumber) = some false)
    (es_NoNumber_NoName : PySem.W.subIn K (.ref C_NoNumber) (.ref C_NoName) = some false)
    (es_NoNumber_NoNumber : PySem.W.subIn K (.ref C_NoNumber) (.ref C_NoNumber) = some true)
    (i1_Device : PySem.W.nsIn K mainGlobals "Device" = some (some (.ref C_Device)))
    (i2_Device : PySem.W.plainGet K C_Device Str.empty = true)
    (i3_Device : PySem.W.hasDictIn K C_Device = true)
    (i4_Device : PySem.W.plainOver K C_Device = true)
    (i5_Device : PySem.W.findIn K (.ref C_Device) "__setattr__" = some (some (.builtin "object.__setattr__")))
    (i6_Device : PySem.W.makesIn K C_Device = true)
    (i7_Device : PySem.W.findIn K (.ref C_Device) "__init__" = some (some (.ref f_Device_init)))
    (l_Device_init : K.lookup f_Device_init = some ⟨oc_Device_init, od_Device_init, .func (PySem.W.fnOf "__init__" "Device.__init__" (defArgs s_Device_init) (defBody s_Device_init) (defScope s_Device_init) .none (.ref D_Device_init) dc_Device_init pm_Device_init an_Device_init cd_Device_init ct_Device_init), sl_Device_init⟩)
    (c_Device_init : PySem.W.codeIn K cd_Device_init "Device.__init__" = true)
    (k_Device_init : PySem.W.keepIn K (.ref f_Device_init) = true)
    (w_Device_init_parent : PySem.W.nsIn K D_Device_init "parent" = some (some kv_Device_init_parent))
    (w_Device_init_burn : PySem.W.nsIn K D_Device_init "burn" = some (some kv_Device_init_burn))
    (w_Device_init_sip : PySem.W.nsIn K D_Device_init "sip" = some (some kv_Device_init_sip))
    (w_Device_init_wake : PySem.W.nsIn K D_Device_init "wake" = some (some kv_Device_init_wake))
    (w_Device_init_fall : PySem.W.nsIn K D_Device_init "fall" = some (some kv_Device_init_fall))
    (w_Device_init_rest : PySem.W.nsIn K D_Device_init "rest" = some (some kv_Device_init_rest))
    (i8_Device : PySem.W.isFn K (.ref f_Device_init) = true)
    (i9_Device : PySem.W.keepIn K (.ref C_Device) = true)
    (if_Device__told : PySem.W.findIn K (.ref C_Device) "_told" = some none)
    (im_Device_told : PySem.W.findIn K (.ref C_Device) "told" = some (some (.ref f_Device_told)))
    (l_Device_told : K.lookup f_Device_told = some ⟨oc_Device_told, od_Device_told, .func (PySem.W.fnOf "told" "Device.told" (defArgs s_Device_told) (defBody s_Device_told) (defScope s_Device_told) .none kV_Device_told dc_Device_told pm_Device_told an_Device_told cd_Device_told ct_Device_told), sl_Device_told⟩)
    (c_Device_told : PySem.W.codeIn K cd_Device_told "Device.told" = true)
    (k_Device_told : PySem.W.keepIn K (.ref f_Device_told) = true)
    (ik_Device_told : PySem.W.isFn K (.ref f_Device_told) = true)
    (r_Device_init_parent : RelV (.non) kv_Device_init_parent)
    (r_Device_init_burn : RelV (.int 5) kv_Device_init_burn)
    (r_Device_init_sip : RelV (.int 1) kv_Device_init_sip)
    (r_Device_init_wake : RelV (.int 1) kv_Device_init_wake)
    (r_Device_init_fall : RelV (.int 1) kv_Device_init_fall)
    (r_Device_init_rest : RelV (.int 0) kv_Device_init_rest)
    : ∃ fd : FuncData, (∀ (s : Shared) (v : Value), BindsTo s fd ⟨[v], []⟩ [("_law_script", v)]) ∧ ∀ base : Heap, K.In base → base.Ns mainGlobals mg → FnG l.prog w K mg base CX0 9 fa fd ["_law_script"] (spLaw K) := by
  have e := hfa.symm.trans (PySem.W.mg_of X G a_law)
  cases e
  let A : Ad := ⟨f_NoName_init, f_NoNumber_init, f_is_truth, f_is_number, f_is_at_least, f_is_whole, f_is_name, f__is_made_of, f_Device_init, f_Device_told, f__need_whole, f__law_cell, f__law_bag, f__law_take, f__law_names, f__law_is_name, f__law_is_whole, f__law_due, f__law_asked, f__law_bad_name, f__law_bad_number, f__law_spoilt, fa, U_WakeError, C_NoName, C_NoNumber, C_Device⟩
  have T : Txt K mg A := by
    constructor
    · exact PySem.W.mg_none_of X G z_all
    · exact PySem.W.mg_none_of X G z_bool
    · exact PySem.W.mg_none_of X G z_int
    · exact PySem.W.mg_none_of X G z_isinstance
    · exact PySem.W.mg_none_of X G z_len
    · exact PySem.W.mg_none_of X G z_list
    · exact PySem.W.mg_none_of X G z_max
    · exact PySem.W.mg_none_of X G z_min
    · exact PySem.W.mg_none_of X G z_range
    · exact PySem.W.mg_none_of X G z_repr
    · exact PySem.W.mg_none_of X G z_str
    · exact PySem.W.mg_none_of X G z_sum
    · exact PySem.W.mg_none_of X G z_tuple
    · exact ⟨_, PySem.W.mg_of X G v__LETTERS, _, rfl⟩
    · exact ⟨_, PySem.W.mg_of X G v__NAME_SIGNS, _, rfl⟩
    · exact ⟨_, PySem.W.mg_of X G v__MOST_BURN, _, rfl⟩
    · exact ⟨_, PySem.W.mg_of X G v__MOST_TURNS, _, rfl⟩
    · exact ⟨_, PySem.W.mg_of X G v__MOST_REST, _, rfl⟩
    · exact ⟨⟨_, fun_mk (st := s_is_truth) l_is_truth c_is_truth k_is_truth⟩, PySem.W.mg_of X G a_is_truth, k_is_truth⟩
    · exact ⟨⟨_, fun_mk (st := s_is_number) l_is_number c_is_number k_is_number⟩, PySem.W.mg_of X G a_is_number, k_is_number⟩
    · exact ⟨⟨_, fun_mk (st := s_is_at_least) l_is_at_least c_is_at_least k_is_at_least⟩, PySem.W.mg_of X G a_is_at_least, k_is_at_least⟩
    · exact ⟨⟨_, fun_mk (st := s_is_whole) l_is_whole c_is_whole k_is_whole⟩, PySem.W.mg_of X G a_is_whole, k_is_whole⟩
    · exact ⟨⟨_, fun_mk (st := s_is_name) l_is_name c_is_name k_is_name⟩, PySem.W.mg_of X G a_is_name, k_is_name⟩
    · exact ⟨⟨_, fun_mk (st := s__is_made_of) l__is_made_of c__is_made_of k__is_made_of⟩, PySem.W.mg_of X G a__is_made_of, k__is_made_of⟩
    · exact ⟨⟨_, fun_mk (st := s__need_whole) l__need_whole c__need_whole k__need_whole⟩, PySem.W.mg_of X G a__need_whole, k__need_whole⟩
    · exact ⟨⟨_, fun_mk (st := s__law_cell) l__law_cell c__law_cell k__law_cell⟩, PySem.W.mg_of X G a__law_cell, k__law_cell⟩
    · exact ⟨⟨_, fun_mk (st := s__law_bag) l__law_bag c__law_bag k__law_bag⟩, PySem.W.mg_of X G a__law_bag, k__law_bag⟩
    · exact ⟨⟨_, fun_mk (st := s__law_take) l__law_take c__law_take k__law_take⟩, PySem.W.mg_of X G a__law_take, k__law_take⟩
    · exact ⟨⟨_, fun_mk (st := s__law_names) l__law_names c__law_names k__law_names⟩, PySem.W.mg_of X G a__law_names, k__law_names⟩
    · exact ⟨⟨_, fun_mk (st := s__law_is_name) l__law_is_name c__law_is_name k__law_is_name⟩, PySem.W.mg_of X G a__law_is_name, k__law_is_name⟩
    · exact ⟨⟨_, fun_mk (st := s__law_is_whole) l__law_is_whole c__law_is_whole k__law_is_whole⟩, PySem.W.mg_of X G a__law_is_whole, k__law_is_whole⟩
    · exact ⟨⟨_, fun_mk (st := s__law_due) l__law_due c__law_due k__law_due⟩, PySem.W.mg_of X G a__law_due, k__law_due⟩
    · exact ⟨⟨_, fun_mk (st := s__law_asked) l__law_asked c__law_asked k__law_asked⟩, PySem.W.mg_of X G a__law_asked, k__law_asked⟩
    · exact ⟨⟨_, fun_mk (st := s__law_bad_name) l__law_bad_name c__law_bad_name k__law_bad_name⟩, PySem.W.mg_of X G a__law_bad_name, k__law_bad_name⟩
    · exact ⟨⟨_, fun_mk (st := s__law_bad_number) l__law_bad_number c__law_bad_number k__law_bad_number⟩, PySem.W.mg_of X G a__law_bad_number, k__law_bad_number⟩
    · exact ⟨⟨_, fun_mk (st := s__law_spoilt) l__law_spoilt c__law_spoilt k__law_spoilt⟩, PySem.W.mg_of X G a__law_spoilt, k__law_spoilt⟩
    · exact ⟨⟨_, fun_mk (st := s_law) l_law c_law k_law⟩, PySem.W.mg_of X G a_law, k_law⟩
    · exact PySem.W.mg_of X G u_WakeError
    · exact ⟨_, ur_WakeError, ug_WakeError, ui_WakeError⟩
    · exact { mg := PySem.W.mg_of X G e_NoName, oex := ⟨⟨nm_NoName, q_NoName, N_NoName, bs_NoName, _, sn_NoName, sub_NoName, ab_NoName, col_NoName, dd_NoName, m0_NoName, m1_NoName, m2_NoName, m3_NoName, m5_NoName, ex_NoName, rfl⟩, esa_NoName, esb_NoName, ety_NoName, ekp_NoName⟩, ini := ei_NoName, ty := et_NoName, nof := enf_NoName, ei := ⟨eic_NoName, ega_NoName, egt_NoName, esb_NoName, ecl_NoName, hn, htk, emr_NoName, Dz.kit_no (by decide +kernel) ek1_NoName, Dz.kit_no (by decide +kernel) ek2_NoName, Dz.kit_no (by decide +kernel) ek3_NoName, Dz.kit_no (by decide +kernel) ek4_NoName, Dz.kit_no (by decide +kernel) ek5_NoName, Dz.kit_no (by decide +kernel) ek6_NoName⟩ }
    · exact ⟨_, fun_mk (st := s_NoName_init) l_NoName_init c_NoName_init k_NoName_init⟩
    · exact { mg := PySem.W.mg_of X G e_NoNumber, oex := ⟨⟨nm_NoNumber, q_NoNumber, N_NoNumber, bs_NoNumber, _, sn_NoNumber, sub_NoNumber, ab_NoNumber, col_NoNumber, dd_NoNumber, m0_NoNumber, m1_NoNumber, m2_NoNumber, m3_NoNumber, m5_NoNumber, ex_NoNumber, rfl⟩, esa_NoNumber, esb_NoNumber, ety_NoNumber, ekp_NoNumber⟩, ini := ei_NoNumber, ty := et_NoNumber, nof := enf_NoNumber, ei := ⟨eic_NoNumber, ega_NoNumber, egt_NoNumber, esb_NoNumber, ecl_NoNumber, hn, htk, emr_NoNumber, Dz.kit_no (by decide +kernel) ek1_NoNumber, Dz.kit_no (by decide +kernel) ek2_NoNumber, Dz.kit_no (by decide +kernel) ek3_NoNumber, Dz.kit_no (by decide +kernel) ek4_NoNumber, Dz.kit_no (by decide +kernel) ek5_NoNumber, Dz.kit_no (by decide +kernel) ek6_NoNumber⟩ }
    · exact ⟨_, fun_mk (st := s_NoNumber_init) l_NoNumber_init c_NoNumber_init k_NoNumber_init⟩
    · exact es_NoName_NoName
    · exact es_NoName_NoNumber
    · exact es_NoNumber_NoName
    · exact es_NoNumber_NoNumber
    · exact PySem.W.mg_of X G i1_Device
    · exact ⟨i2_Device, i3_Device, i4_Device, i5_Device⟩
    · exact ⟨i6_Device, i7_Device, i8_Device, i9_Device⟩
    · exact if_Device__told
    · exact ⟨_, ⟨⟨_, _, _, _, _, _, _, _, _, _, rfl, l_Device_init, c_Device_init, Or.inl ⟨rfl, rfl⟩, Or.inr ⟨D_Device_init, rfl, fun q hq => by
        simp only [List.mem_cons, List.not_mem_nil, or_false] at hq
        rcases hq with rfl | rfl | rfl | rfl | rfl | rfl
        · exact ⟨_, w_Device_init_parent, r_Device_init_parent⟩
        · exact ⟨_, w_Device_init_burn, r_Device_init_burn⟩
        · exact ⟨_, w_Device_init_sip, r_Device_init_sip⟩
        · exact ⟨_, w_Device_init_wake, r_Device_init_wake⟩
        · exact ⟨_, w_Device_init_fall, r_Device_init_fall⟩
        · exact ⟨_, w_Device_init_rest, r_Device_init_rest⟩⟩⟩, k_Device_init⟩⟩
    · exact ⟨im_Device_told, ik_Device_told, k_Device_told⟩
    · exact ⟨_, fun_mk (st := s_Device_told) l_Device_told c_Device_told k_Device_told⟩
  refine ⟨PySem.W.fnOf "law" "law" (defArgs s_law) (defBody s_law) (defScope s_law) .none kV_law dc_law pm_law an_law cd_law ct_law, fun s v => .of_eq rfl, fun base _ _ => ?_⟩
  have G_NoName_init : Kp l.prog w K mg base CX0 1 A.f_NoName_init ["self", "found"] [] (spErr "found" A.C_NoName) := ok_NoName_init T 
  have G_NoNumber_init : Kp l.prog w K mg base CX0 1 A.f_NoNumber_init ["self", "found"] [] (spErr "found" A.C_NoNumber) := ok_NoNumber_init T 
  have G__law_cell : Kp l.prog w K mg base CX0 1 A.f__law_cell ["_law_script", "_law_k"] [] (spCel K) := ok__law_cell T 
  have G__law_bag : Kp l.prog w K mg base CX0 1 A.f__law_bag ["_law_cell_here"] [] (spBag) := ok__law_bag T 
  have G__law_take : Kp l.prog w K mg base CX0 1 A.f__law_take ["_law_bag_here", "_law_below"] [] (spTake) := ok__law_take T 
  have G_is_truth : Kp l.prog w K mg base CX0 1 A.f_is_truth ["thing"] [] (spIsB K) := ok_is_truth T 
  have G_is_number : Kp l.prog w K mg base CX0 2 A.f_is_number ["thing"] [] (spIs0 K numb) := ok_is_number T G_is_truth
  have G_is_at_least : Kp l.prog w K mg base CX0 3 A.f_is_at_least ["thing", "low"] [] (spIs2 K atl) := ok_is_at_least T G_is_number
  have G_is_whole : Kp l.prog w K mg base CX0 4 A.f_is_whole ["thing", "low", "high"] [] (spIs3 K whl) := ok_is_whole T G_is_at_least
  have G__is_made_of : Kp l.prog w K mg base CX0 1 A.f__is_made_of ["text", "signs"] [] (spMade) := ok__is_made_of T 
  have G_is_name : Kp l.prog w K mg base CX0 2 A.f_is_name ["thing"] [] (spIs K nam) := ok_is_name T G__is_made_of
  have G__need_whole : Kp l.prog w K mg base (L2.CX l.prog w) 5 A.f__need_whole ["thing", "high"] [] (spNeed K A.C_NoNumber) := ok__need_whole T G_is_whole G_NoNumber_init
  have G_Device_told : Kp l.prog w K mg base CX0 1 A.f_Device_told ["self"] [] (spTold A.C_Device) := ok_Device_told T 
  have G_Device_init : Kx l.prog w K mg base (L2.CX l.prog w) 6 "__init__" "Device.__init__" s_Device_init [] ([("parent", .non), ("burn", .int 5), ("sip", .int 1), ("wake", .int 1), ("fall", .int 1), ("rest", .int 0)] : List (Str × V)) A.f_Device_init ["self", "name", "parent", "burn", "sip", "wake", "fall", "rest"] (spInit K A.C_Device A.C_NoName A.C_NoNumber) := ok_Device_init T G_is_name G__need_whole G_NoName_init
  have G__law_asked : Kp l.prog w K mg base CX0 8 A.f__law_asked ["_law_row", "_law_way"] [] (spAsk K) := ok__law_asked T G_Device_init G_Device_told
  have G__law_is_whole : Kp l.prog w K mg base CX0 1 A.f__law_is_whole ["_law_thing", "_law_high"] [] (spIs2 K (fun v i => whl v 0 i)) := ok__law_is_whole T 
  have G__law_is_name : Kp l.prog w K mg base CX0 1 A.f__law_is_name ["_law_thing"] [] (spIs K nam) := ok__law_is_name T 
  have G__law_names : Kp l.prog w K mg base CX0 2 A.f__law_names ["_law_bag_here", "_law_size"] [] (spNames) := ok__law_names T G__law_take
  have G__law_bad_number : Kp l.prog w K mg base CX0 2 A.f__law_bad_number ["_law_bag_here", "_law_high"] [] (spBadI) := ok__law_bad_number T G__law_take
  have G__law_bad_name : Kp l.prog w K mg base CX0 2 A.f__law_bad_name ["_law_bag_here", "_law_name"] [] (spBadN) := ok__law_bad_name T G__law_take
  have G__law_spoilt : Kp l.prog w K mg base CX0 3 A.f__law_spoilt ["_law_bag_here", "_law_row"] [] (spSp) := ok__law_spoilt T G__law_take G__law_bad_name G__law_bad_number
  have G__law_due : Kp l.prog w K mg base CX0 2 A.f__law_due ["_law_row"] [] (spDue K) := ok__law_due T G__law_is_name G__law_is_whole
  exact ok_law T G__law_cell G__law_bag G__law_take G__law_names G__law_spoilt G__law_due G__law_asked G_Device_init G_Device_told (fun_mk (st := s_law) l_law c_law k_law)
end K06
open PySem PySem.W PyProof.Rows
set_option maxRecDepth 100000 in
set_option maxHeartbeats 0 in
theorem PySem.Challenge.cw_drowsetree_k06_devices_refused_holds : PySem.Challenge.rw_drowsetree_k06_devices_refused.Holds := by
  w_on; o_law; k_head; (case hw => w_witness2)
  k_fill
  refine Dz.walkK (l := PySem.Challenge.rw_drowsetree_k06_devices_refused) (n := 63) (k := 9) (x := "_law_script") (CX := L2.CX0) (sp := K06.spLaw) rfl (by decide) rfl ⟨rfl, by decide, by decide⟩ (fun w h Y => PySem.W.kIn_of Y) ?F (fun _ _ a ns hl _ hS => ⟨a, ns, rfl, hS, hl, fun _ => rfl⟩) fun _ _ _ _ z => z
  case F =>
    intro w mg fa h KX G hmg
    refine' K06.all_mk KX G hmg ?a_is_truth ?l_is_truth ?c_is_truth ?k_is_truth ?a_is_number ?l_is_number ?c_is_number ?k_is_number ?a_is_at_least ?l_is_at_least ?c_is_at_least ?k_is_at_least ?a_is_whole ?l_is_whole ?c_is_whole ?k_is_whole ?a_is_name ?l_is_name ?c_is_name ?k_is_name ?a__is_made_of ?l__is_made_of ?c__is_made_of ?k__is_made_of ?a__need_whole ?l__need_whole ?c__need_whole ?k__need_whole ?a__law_cell ?l__law_cell ?c__law_cell ?k__law_cell ?a__law_bag ?l__law_bag ?c__law_bag ?k__law_bag ?a__law_take ?l__law_take ?c__law_take ?k__law_take ?a__law_names ?l__law_names ?c__law_names ?k__law_names ?a__law_is_name ?l__law_is_name ?c__law_is_name ?k__law_is_name ?a__law_is_whole ?l__law_is_whole ?c__law_is_whole ?k__law_is_whole ?a__law_due ?l__law_due ?c__law_due ?k__law_due ?a__law_asked ?l__law_asked ?c__law_asked ?k__law_asked ?a__law_bad_name ?l__law_bad_name ?c__law_bad_name ?k__law_bad_name ?a__law_bad_number ?l__law_bad_number ?c__law_bad_number ?k__law_bad_number ?a__law_spoilt ?l__law_spoilt ?c__law_spoilt ?k__law_spoilt ?a_law ?l_law ?c_law ?k_law ?z_all ?z_bool ?z_int ?z_isinstance ?z_len ?z_list ?z_max ?z_min ?z_range ?z_repr ?z_str ?z_sum ?z_tuple ?v__LETTERS ?v__NAME_SIGNS ?v__MOST_BURN ?v__MOST_TURNS ?v__MOST_REST ?u_WakeError ?ur_WakeError ?ug_WakeError ?ui_WakeError ?hn ?htk ?e_NoName ?ex_NoName ?ei_NoName ?l_NoName_init ?c_NoName_init ?k_NoName_init ?et_NoName ?esa_NoName ?ega_NoName ?egt_NoName ?enf_NoName ?ecl_NoName ?esb_NoName ?ety_NoName ?ekp_NoName ?eic_NoName ?emr_NoName ?ek1_NoName ?ek2_NoName ?ek3_NoName ?ek4_NoName ?ek5_NoName ?ek6_NoName ?e_NoNumber ?ex_NoNumber ?ei_NoNumber ?l_NoNumber_init ?c_NoNumber_init ?k_NoNumber_init ?et_NoNumber ?esa_NoNumber ?ega_NoNumber ?egt_NoNumber ?enf_NoNumber ?ecl_NoNumber ?esb_NoNumber ?ety_NoNumber ?ekp_NoNumber ?eic_NoNumber ?emr_NoNumber ?ek1_NoNumber ?ek2_NoNumber ?ek3_NoNumber ?ek4_NoNumber ?ek5_NoNumber ?ek6_NoNumber ?es_NoName_NoName ?es_NoName_NoNumber ?es_NoNumber_NoName ?es_NoNumber_NoNumber ?i1_Device ?i2_Device ?i3_Device ?i4_Device ?i5_Device ?i6_Device ?i7_Device ?l_Device_init ?c_Device_init ?k_Device_init ?w_Device_init_parent ?w_Device_init_burn ?w_Device_init_sip ?w_Device_init_wake ?w_Device_init_fall ?w_Device_init_rest ?i8_Device ?i9_Device ?if_Device__told ?im_Device_told ?l_Device_told ?c_Device_told ?k_Device_told ?ik_Device_told ?r_Device_init_parent ?r_Device_init_burn ?r_Device_init_sip ?r_Device_init_wake ?r_Device_init_fall ?r_Device_init_rest
    (case a_is_truth => k_is)
    (case l_is_truth => k_is)
    (case c_is_truth => k_is)
    (case k_is_truth => k_is)
    (case a_is_number => k_is)
    (case l_is_number => k_is)
    (case c_is_number => k_is)
    (case k_is_number => k_is)
    (case a_is_at_least => k_is)
    (case l_is_at_least => k_is)
    (case c_is_at_least => k_is)
    (case k_is_at_least => k_is)
    (case a_is_whole => k_is)
    (case l_is_whole => k_is)
    (case c_is_whole => k_is)
    (case k_is_whole => k_is)
    (case a_is_name => k_is)
    (case l_is_name => k_is)
    (case c_is_name => k_is)
    (case k_is_name => k_is)
    (case a__is_made_of => k_is)
    (case l__is_made_of => k_is)
    (case c__is_made_of => k_is)
    (case k__is_made_of => k_is)
    (case a__need_whole => k_is)
    (case l__need_whole => k_is)
    (case c__need_whole => k_is)
    (case k__need_whole => k_is)
    (case a__law_cell => k_is)
    (case l__law_cell => k_is)
    (case c__law_cell => k_is)
    (case k__law_cell => k_is)
    (case a__law_bag => k_is)
    (case l__law_bag => k_is)
    (case c__law_bag => k_is)
    (case k__law_bag => k_is)
    (case a__law_take => k_is)
    (case l__law_take => k_is)
    (case c__law_take => k_is)
    (case k__law_take => k_is)
    (case a__law_names => k_is)
    (case l__law_names => k_is)
    (case c__law_names => k_is)
    (case k__law_names => k_is)
    (case a__law_is_name => k_is)
    (case l__law_is_name => k_is)
    (case c__law_is_name => k_is)
    (case k__law_is_name => k_is)
    (case a__law_is_whole => k_is)
    (case l__law_is_whole => k_is)
    (case c__law_is_whole => k_is)
    (case k__law_is_whole => k_is)
    (case a__law_due => k_is)
    (case l__law_due => k_is)
    (case c__law_due => k_is)
    (case k__law_due => k_is)
    (case a__law_asked => k_is)
    (case l__law_asked => k_is)
    (case c__law_asked => k_is)
    (case k__law_asked => k_is)
    (case a__law_bad_name => k_is)
    (case l__law_bad_name => k_is)
    (case c__law_bad_name => k_is)
    (case k__law_bad_name => k_is)
    (case a__law_bad_number => k_is)
    (case l__law_bad_number => k_is)
    (case c__law_bad_number => k_is)
    (case k__law_bad_number => k_is)
    (case a__law_spoilt => k_is)
    (case l__law_spoilt => k_is)
    (case c__law_spoilt => k_is)
    (case k__law_spoilt => k_is)
    (case a_law => k_is)
    (case l_law => k_is)
    (case c_law => k_is)
    (case k_law => k_is)
    (case z_all => k_is)
    (case z_bool => k_is)
    (case z_int => k_is)
    (case z_isinstance => k_is)
    (case z_len => k_is)
    (case z_list => k_is)
    (case z_max => k_is)
    (case z_min => k_is)
    (case z_range => k_is)
    (case z_repr => k_is)
    (case z_str => k_is)
    (case z_sum => k_is)
    (case z_tuple => k_is)
    (case v__LETTERS => k_is)
    (case v__NAME_SIGNS => k_is)
    (case v__MOST_BURN => k_is)
    (case v__MOST_TURNS => k_is)
    (case v__MOST_REST => k_is)
    (case u_WakeError => k_is)
    (case ur_WakeError => k_is)
    (case ug_WakeError => k_is)
    (case ui_WakeError => k_is)
    (case hn => k_is)
    (case htk => k_is)
    (case e_NoName => k_is)
    (case ex_NoName => k_is)
    (case ei_NoName => k_is)
    (case l_NoName_init => k_is)
    (case c_NoName_init => k_is)
    (case k_NoName_init => k_is)
    (case et_NoName => k_is)
    (case esa_NoName => k_is)
    (case ega_NoName => k_is)
    (case egt_NoName => k_is)
    (case enf_NoName => k_is)
    (case ecl_NoName => k_is)
    (case esb_NoName => k_is)
    (case ety_NoName => k_is)
    (case ekp_NoName => k_is)
    (case eic_NoName => k_is)
    (case emr_NoName => k_is)
    (case ek1_NoName => k_is)
    (case ek2_NoName => k_is)
    (case ek3_NoName => k_is)
    (case ek4_NoName => k_is)
    (case ek5_NoName => k_is)
    (case ek6_NoName => k_is)
    (case e_NoNumber => k_is)
    (case ex_NoNumber => k_is)
    (case ei_NoNumber => k_is)
    (case l_NoNumber_init => k_is)
    (case c_NoNumber_init => k_is)
    (case k_NoNumber_init => k_is)
    (case et_NoNumber => k_is)
    (case esa_NoNumber => k_is)
    (case ega_NoNumber => k_is)
    (case egt_NoNumber => k_is)
    (case enf_NoNumber => k_is)
    (case ecl_NoNumber => k_is)
    (case esb_NoNumber => k_is)
    (case ety_NoNumber => k_is)
    (case ekp_NoNumber => k_is)
    (case eic_NoNumber => k_is)
    (case emr_NoNumber => k_is)
    (case ek1_NoNumber => k_is)
    (case ek2_NoNumber => k_is)
    (case ek3_NoNumber => k_is)
    (case ek4_NoNumber => k_is)
    (case ek5_NoNumber => k_is)
    (case ek6_NoNumber => k_is)
    (case es_NoName_NoName => k_is)
    (case es_NoName_NoNumber => k_is)
    (case es_NoNumber_NoName => k_is)
    (case es_NoNumber_NoNumber => k_is)
    (case i1_Device => k_is)
    (case i2_Device => k_is)
    (case i3_Device => k_is)
    (case i4_Device => k_is)
    (case i5_Device => k_is)
    (case i6_Device => k_is)
    (case i7_Device => k_is)
    (case l_Device_init => k_is)
    (case c_Device_init => k_is)
    (case k_Device_init => k_is)
    (case w_Device_init_parent => k_is)
    (case w_Device_init_burn => k_is)
    (case w_Device_init_sip => k_is)
    (case w_Device_init_wake => k_is)
    (case w_Device_init_fall => k_is)
    (case w_Device_init_rest => k_is)
    (case i8_Device => k_is)
    (case i9_Device => k_is)
    (case if_Device__told => k_is)
    (case im_Device_told => k_is)
    (case l_Device_told => k_is)
    (case c_Device_told => k_is)
    (case k_Device_told => k_is)
    (case ik_Device_told => k_is)
    (case r_Device_init_parent => exact rfl)
    (case r_Device_init_burn => exact ⟨_, rfl⟩)
    (case r_Device_init_sip => exact ⟨_, rfl⟩)
    (case r_Device_init_wake => exact ⟨_, rfl⟩)
    (case r_Device_init_fall => exact ⟨_, rfl⟩)
    (case r_Device_init_rest => exact ⟨_, rfl⟩)
#print axioms PySem.Challenge.cw_drowsetree_k06_devices_refused_holds

