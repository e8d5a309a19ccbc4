import PyProof.Rows.All
import Wide.All
import OpenK.AllK
import Wide.FinOn
import HandS.ForMost
import HandS.Wide
import HandS.EndBits
import HandS.IsInst
import HandS.Style
import HandS.Defaults
import PyProof.ReprRoads
import HandS.ExcInit
import HandS.ClsMeth
import KE.KExcIs
import HandS.Walk
import HandS.StrMore
import HandS.Replace
import PyProof.Rows.StrFit
import PySem.Challenge.RW_drowsetree_k02_numbers_by_names
set_option Elab.async false
set_option linter.all false
set_option maxRecDepth 100000
set_option maxHeartbeats 2000000
/-! Calls where nothing is being shown by repr: every def's promise under that. -/
namespace Dz
open PySem PySem.Spec PyProof.Rows L2

/-- no repr is under way -/
def Calm (A : Around) : Prop := A.guards = some []

structure FnG (P : Program) (w : World) (K : PySem.W.Frag) (mg : Str → Option Value) (base : Heap) (CX : CXT) (k : Nat) (f : Addr) (fd : FuncData) (ps : List Str) (sp : Sp) : Prop where
  ln : ∀ vs H Q E, sp vs H Q E → vs.length = ps.length
  go : ∀ (A : Around) (out : List Env) (s : Shared) (H : Hp) (ar : Args) (us : List Value) (vs : List V) (Q : VK) (E : XK),
    Calm A → Room k A → Env0 P w K mg base A out s H → BindsTo s fd ar (ps.zip us) → Vals vs us → sp vs H Q E →
      codeAny (model P w) A (.call (.ref f) ar) (CR CX out P w H s Q E) s
theorem FnG.more {P : Program} {w : World} {K : PySem.W.Frag} {mg : Str → Option Value} {base : Heap} {CX : CXT} {j k : Nat} {f : Addr} {fd : FuncData} {ps : List Str} {sp : Sp}
    (F : FnG P w K mg base CX j f fd ps sp) (h : j ≤ k) : FnG P w K mg base CX k f fd ps sp :=
  ⟨F.ln, fun A out s H ar us vs Q E g r => F.go A out s H ar us vs Q E g (r.mono h)⟩
theorem FnG.as {P : Program} {w : World} {K : PySem.W.Frag} {mg : Str → Option Value} {base : Heap} {CX : CXT} {k : Nat} {f : Addr} {fd : FuncData} {ps : List Str} {sp sp' : Sp}
    (F : FnG P w K mg base CX k f fd ps sp) (h : ∀ vs H Q E, sp' vs H Q E → sp vs H Q E) : FnG P w K mg base CX k f fd ps sp' :=
  ⟨fun vs H Q E q => F.ln vs H Q E (h _ _ _ _ q), fun A out s H ar us vs Q E g r e b v q => F.go A out s H ar us vs Q E g r e b v (h _ _ _ _ q)⟩

/-- a def that stands in the written part, by its body's walk where no repr is under way -/
theorem fnG_at {CX : CXT} {P : Program} {w : World} {K : PySem.W.Frag} {mg : Str → Option Value} {base : Heap} {k : Nat} {f : Addr} {x qual : Str} {params : Arguments} {body : List Stmt} {sc : Scope} {dV kV doc pm cdv ct oc : Value} {an od : Option Addr}
    {osl : Array (Option Value)} {N ps : List Str} {sp : Sp} (lk : K.lookup f = some ⟨oc, od, .func (PySem.W.fnOf x qual params body sc dV kV doc pm an cdv ct), osl⟩) (hcd : PySem.W.codeIn K cdv qual = true) (S : FnScope N ps sc)
    (len : ∀ vs H Q E, sp vs H Q E → vs.length = ps.length)
    (walk : ∀ (A : Around) (outer : List Env) (s : Shared) (H : Hp) (vs : List V) (Q : VK) (E : XK), Calm A → Room k (A.deeper (envOfC qual sc s.heap.objs.size f cdv)) → sp vs H Q E →
      ∃ t, PSs (cxOf CX P w K mg base N qual sc f cdv A outer s H E) body t ∧ t { nx := fun _ H' => Q .non H', rt := Q } (start N vs) H) :
    FnG P w K mg base CX (k + 1) f (PySem.W.fnOf x qual params body sc dV kV doc pm an cdv ct) ps sp := by
  constructor
  · exact len
  intro A outer s H ar us vs Q E hg hr e0 hb rv hsp
  have ll := len _ _ _ _ hsp
  have inK : K.In s.heap := e0.mod.kin.keeps fun b o z => (e0.bs b o z).1
  have nolim : s.heap.NoLimit := e0.mod.nolimit.keeps fun b o z => (e0.bs b o z).1
  have kinds : ∀ y ∈ ps.zip us, sc.names.lookup y.1 = some .local ∨ (sc.names.lookup y.1 = some .cell ∧ ((cellsFrom (s.heap.objs.size + 1) sc.names []).lookup y.1).isSome = true) := by
    rintro ⟨n, v⟩ hy
    have hn := (List.of_mem_zip hy).1
    cases S.par n hn with
    | inl q => exact Or.inl q
    | inr q => exact Or.inr ⟨q, PySem.W.cellsFrom_some _ _ _ (Or.inl q)⟩
  refine codeAny_call_function hr.depth (inK _ _ lk) rfl S.co S.gen rfl (PySem.W.codeRec_of inK hcd) (hb _ _ _ _ ?_)
  refine wpAny_newFunctionEnv_cells S.kind kinds fun env he s1 xx => ?_
  subst he
  refine ⟨nolim.keeps xx.toInCall.keep, codeAny_func ?_⟩
  obtain ⟨t, ht, hq⟩ := walk A outer s H vs Q E hg (hr.deeper _) hsp
  have I0 := inv_start (CX := CX) (N := N) (E := E) (cd := cdv) (qual := qual) (f := f) S hr.hd e0 ll rv xx
  refine wpAny_mono (ht.run [] s1 (start N vs) H _ I0 hq) (fun fl s' hs => ?_) fun e s' hs => hs
  cases fl with
  | brk => exact hs.elim fun _ z => z.elim fun _ z => False.elim z.2
  | cont => exact hs.elim fun _ z => z.elim fun _ z => False.elim z.2
  | next =>
    obtain ⟨σ', H', J, q⟩ := hs
    exact ⟨V.non, H', J.os, J.bare, J.base, J.hok, rfl, q⟩
  | ret u =>
    obtain ⟨v, σ', H', J, r', q⟩ := hs
    exact ⟨v, H', J.os, J.bare, J.base, J.hok, r', q⟩
/-- a def of the text -/
theorem fnG_of {CX : CXT} {P : Program} {w : World} {K : PySem.W.Frag} {mg : Str → Option Value} {base : Heap} {x qual : Str} {st : Stmt} {f : Addr} {fd : FuncData} {N ps : List Str} {k : Nat} {sp : Sp}
    (F : Fun K x qual st f fd) (S : FnScope N ps (defScope st)) (len : ∀ vs H Q E, sp vs H Q E → vs.length = ps.length)
    (walk : ∀ (cdv : Value) (A : Around) (outer : List Env) (s : Shared) (H : Hp) (vs : List V) (Q : VK) (E : XK), Calm A → Room k (A.deeper (envOfC qual (defScope st) s.heap.objs.size f cdv)) → sp vs H Q E →
      ∃ t, PSs (cxOf CX P w K mg base N qual (defScope st) f cdv A outer s H E) (defBody st) t ∧ t { nx := fun _ H' => Q .non H', rt := Q } (start N vs) H) :
    FnG P w K mg base CX (k + 1) f fd ps sp := by
  obtain ⟨oc, od, kV, doc, pm, an, cdv, ct, osl, rfl, lk, hcd⟩ := F.ex
  exact fnG_at lk hcd S len fun A outer s H vs Q E hg hr hsp => walk cdv A outer s H vs Q E hg hr hsp

/-- the same where nothing is raised -/
theorem fnG_nx {P : Program} {w : World} {K : PySem.W.Frag} {mg : Str → Option Value} {base : Heap} {x qual : Str} {st : Stmt} {f : Addr} {fd : FuncData} {N ps : List Str} {k : Nat} {sp : Sp}
    (F : Fun K x qual st f fd) (S : FnScope N ps (defScope st)) (len : ∀ vs H Q E, sp vs H Q E → vs.length = ps.length)
    (walk : ∀ (cdv : Value) (A : Around) (outer : List Env) (s : Shared) (H : Hp) (vs : List V) (Q : VK) (E : XK), Calm A → Room k (A.deeper (envOfC qual (defScope st) s.heap.objs.size f cdv)) → sp vs H Q E →
      ∃ t, PSs (cxOf CX0 P w K mg base N qual (defScope st) f cdv A outer s H E).nox (defBody st) t ∧ t { nx := fun _ H' => Q .non H', rt := Q } (start N vs) H) :
    FnG P w K mg base CX0 (k + 1) f fd ps sp := fnG_of F S len fun cdv A outer s H vs Q E hg hr hsp => by
  obtain ⟨t, h, q⟩ := walk cdv A outer s H vs Q E hg hr hsp
  exact ⟨t, h.nox, q⟩

section
variable {X : Cx} {CX : CXT} {k : Nat} {f C : Addr} {fd : FuncData} {ps : List Str} {sp : Sp} {dvs : List V} {ds : List Value} {E : XK} {x m : Str} {p pos apos : Pos} {e o : Expr} {es : List Expr} {ta : TE} {t : TA}
  {r : List V → Hp → VK → Prop}

/-- a def as a value that is called -/
theorem callR_fn (F : FnG X.prog X.w X.K X.mg X.base CX k f fd ps sp) (hg : Calm X.A) (hr : Room k X.A) (hb : Binds X.K fd ps ds) (hd : Vals dvs ds) (hx : Passes CX X E) :
    CallR X (.ref f) (fun vs H Q => sp (vs ++ dvs) H Q E) := by
  intro pins s σ H vs us Q I rv h
  have r2 : Vals (vs ++ dvs) (us ++ ds) := rv.append hd
  have hl : (us ++ ds).length = ps.length := r2.length.symm.trans (F.ln _ _ _ _ h)
  refine wpAny_call (codeAny_mono (F.go X.A X.stack s H ⟨us, []⟩ (us ++ ds) (vs ++ dvs) Q E hg hr I.env0 (hb s us I.kIn hl) r2 h) ?_)
  intro rs s' hq
  match rs, hq with
  | .error e, hq => exact hx pins σ H s e s' I hq
  | .ok (.ret u), hq => exact I.after hq
/-- f(e, ..) of a name of the module, whatever stands there -/
theorem pe_fn (hc : CallR X (.ref f) r) (hl : Gl X x) (hm : X.mg x = some (.ref f)) (hk : PySem.W.keepIn X.K (.ref f) = true) (ha : PA X (e :: es) t) (hdb : (x == ("__debug__" : Str)) = false := by decide)
    (he : starEach (e :: es) X.env = (false, eval e X.env) :: starEach es X.env := by rfl) (hpl : (backTo pos (starEach es X.env)).any (·.1) = false := by rfl) : PE X (.Call (.Name x p) (e :: es) [] pos) (tCB r t) := by
  constructor
  intro pins s σ H Q I h
  refine wpAny_Call_Name_kw (ld_glob I hl hm ?_ hdb)
  refine PySem.W.callWith_K (h₀ := X.base) I.ok.mod.kin hk (thn (ha.run pos pins s σ H _ I h) ?_) he hpl
  rintro us s1 ⟨vs, H1, I1, rv, q⟩
  exact ⟨I1.kIn, hc pins s1 σ H1 vs us Q I1 rv q⟩
theorem pe_fn0 (hc : CallR X (.ref f) r) (hl : Gl X x) (hm : X.mg x = some (.ref f)) (hk : PySem.W.keepIn X.K (.ref f) = true) (hdb : (x == ("__debug__" : Str)) = false := by decide) : PE X (.Call (.Name x p) [] [] pos) (tCB r tNil) := by
  constructor
  intro pins s σ H Q I h
  refine wpAny_Call_Name_kw (ld_glob I hl hm ?_ hdb)
  exact PySem.W.callWith_K0 I.kIn hk (hc pins s σ H [] [] Q I .nil h)
/-- o.m(e, ..), o an instance of the class at C -/
def tMth (C : Addr) (m : Str) (r : List V → Hp → VK → Prop) (ta : TE) (t : TA) : TE := fun σ H Q => ta σ H fun x H1 => ∃ a dx fs, x = .ref a ∧ H1 a = some (.ins C dx fs) ∧ fs.lookup m = none ∧ t σ H1 fun vs H2 => r (x :: vs) H2 Q
theorem pe_mth {pl : Sem Bool} (he : PE X o ta) (c : Cls X.K C) (hm : Meth X.K C m f) (hc : CallR X (.ref f) r) (ha : PA X (e :: es) t)
    (hst : starEach (e :: es) X.env = (false, eval e X.env) :: starEach es X.env := by rfl) (hpl : (backTo pos (starEach es X.env)).any (·.1) = false := by rfl)
    (ht : eval (.Call (.Attribute o m apos) (e :: es) [] pos) X.env = (do
      let ov ← eval o X.env
      standAt apos.atName
      let (f, first) ← holding [ov] (getMethod ov m pl)
      callWith pos f first (backTo pos (starEach (e :: es) X.env)) (backToKw pos (keywordEach [] X.env))) := by rfl) :
    PE X (.Call (.Attribute o m apos) (e :: es) [] pos) (tMth C m r ta t) := by
  constructor
  intro pins s σ H Q I h
  refine PySem.W.methodCall_KW (pl := pl) (thn (he.run pins s σ H _ I h) ?_) ht
  rintro u s1 ⟨y, H1, I1, ry, a, dx, fs, rfl, ea, l, q⟩
  cases (show u = Value.ref a from ry)
  refine getmeth_ok I1 ea c hm l ?_
  refine PySem.W.callWith_K (first := [.ref a]) (h₀ := X.base) I.ok.mod.kin hm.kp (thn (ha.run pos pins s1 σ H1 _ I1 q) ?_) hst hpl
  rintro us s2 ⟨vs, H2, I2, rv, q2⟩
  exact ⟨I2.kIn, hc pins s2 σ H2 (.ref a :: vs) (.ref a :: us) Q I2 (.cons rfl rv) q2⟩
theorem pe_mth0 {pl : Sem Bool} (he : PE X o ta) (c : Cls X.K C) (hm : Meth X.K C m f) (hc : CallR X (.ref f) r)
    (ht : eval (.Call (.Attribute o m apos) [] [] pos) X.env = (do
      let ov ← eval o X.env
      standAt apos.atName
      let (f, first) ← holding [ov] (getMethod ov m pl)
      callWith pos f first (backTo pos (starEach [] X.env)) (backToKw pos (keywordEach [] X.env))) := by rfl) :
    PE X (.Call (.Attribute o m apos) [] [] pos) (tMth C m r ta tNil) := by
  constructor
  intro pins s σ H Q I h
  refine PySem.W.methodCall_KW (pl := pl) (thn (he.run pins s σ H _ I h) ?_) ht
  rintro u s1 ⟨y, H1, I1, ry, a, dx, fs, rfl, ea, l, q⟩
  cases (show u = Value.ref a from ry)
  refine getmeth_ok I1 ea c hm l ?_
  exact PySem.W.callWith_K0 (first := [.ref a]) I1.kIn hm.kp (hc pins s1 σ H1 [.ref a] [.ref a] Q I1 (.cons rfl .nil) q)
end

/-! ### the law's call -/
theorem enterG {P : Program} {w : World} {K : PySem.W.Frag} {mg mb : Str → Option Value} {CX : CXT} {k : Nat} {fa a : Addr} {fd : FuncData} {x : Str} {sp : Sp} {s₁ : Shared} {vs : List Value} {ns : List Int}
    (KX : K.In s₁.heap) (hns : s₁.heap.Ns mainGlobals mg) (hb : s₁.heap.Ns builtinsNs mb) (hbb : ∀ x : Str, x ≠ "__name__" → mb x = bootBuiltins x) (hlim : s₁.heap.NoLimit) (hgen : s₁.gens = #[])
    (ha : s₁.heap.get? a = some { cls := .type "list", data := .seq vs.toArray }) (hi : IntsAre vs ns) (hl : ns.length ≤ sizeLine) (hr : Room k callerA)
    (F : ∀ base : Heap, K.In base → base.Ns mainGlobals mg → FnG P w K mg base CX k fa fd [x] sp) (hbind : ∀ (s : Shared) (u : Value), BindsTo s fd ⟨[u], []⟩ [(x, u)])
    (hsp : ∀ H : Hp, Only H → SqL K H a (ns.map V.int) → sp [.ref a] H (fun v _ => v = .bl true) fun _ _ _ => False)
    (hCX : ∀ H e s', CX [] H s₁ (fun _ _ _ => False) e s' → False) :
    codeAny (model P w) callerA (.call (.ref fa) ⟨[.ref a], []⟩) (fun r s' => r = .ok (.ret (.bool true)) ∧ OldK s₁.heap s'.heap ∧ s'.os = s₁.os ∧ AllBare s'.gens) s₁ := by
  have rv : Vals (ns.map V.int) vs := vals_ints hi
  have lv : vs.length = ns.length := hi.length
  have run : ∀ H : Hp, Only H → SqL K H a (ns.map V.int) → HOk P w H s₁.heap → (∀ b, H b ≠ none → b = a ∧ K.lookup a = none) →
      codeAny (model P w) callerA (.call (.ref fa) ⟨[.ref a], []⟩) (fun r s' => r = .ok (.ret (.bool true)) ∧ OldK s₁.heap s'.heap ∧ s'.os = s₁.os ∧ AllBare s'.gens) s₁ := by
    intro H hO hS hok hA
    -- what stands in a namespace, or in the written part, is not tracked
    have free : ∀ {b : Addr} {o : Obj}, s₁.heap.get? b = some o → (∀ es ep, o.data = .dict es ep → True) → (b = a → False) → H b = none := fun {b o} _ _ nb => by
      cases q : H b with
      | none => rfl
      | some u => exact (nb (hA b (by rw [q]; exact fun z => by cases z)).1).elim
    have nsK : ∀ {b : Addr} {m : Str → Option Value}, s₁.heap.Ns b m → (hidT s₁.heap H).Ns b m := fun {b m} n => by
      obtain ⟨o, es, ep, e, d, rr⟩ := n
      refine ⟨o, es, ep, hidT_get e (free e (fun _ _ _ => trivial) fun z => ?_), d, rr⟩
      rw [z, ha] at e
      cases e
      cases d
    have kB : K.In (hidT s₁.heap H) := fun b o e => hidT_get (KX b o e) (by
      cases q : H b with
      | none => rfl
      | some u =>
        obtain ⟨z1, z2⟩ := hA b (by rw [q]; exact fun z => by cases z)
        rw [z1, z2] at e
        cases e)
    have hM : Mod K mg (hidT s₁.heap H) := ⟨kB, nsK hns, ⟨mb, nsK hb, hbb⟩, by obtain ⟨mc, h1, h2⟩ := hlim; exact ⟨mc, nsK h1, h2⟩⟩
    have e0 : Env0 P w K mg (hidT s₁.heap H) callerA [] s₁ H :=
      { frames := rfl, mod := hM, bs := fun b o e => of_hidT e, bsz := Nat.le_of_eq (hidT_size _ _), funs := trivial, frf := fun b hb => absurd (show b ∈ ([] : List Addr) from hb) (by simp), hok := hok, bare := .of_eq hgen }
    refine codeAny_mono ((F _ kB (nsK hns)).go callerA [] s₁ H ⟨[.ref a], []⟩ [.ref a] [.ref a] _ _ rfl hr e0 (hbind s₁ (.ref a)) (.cons rfl .nil) (hsp H hO hS)) ?_
    intro rs s' h
    match rs, h with
    | .error e, h => exact (hCX H e s' h).elim
    | .ok (.ret u), h =>
      obtain ⟨v, H', os, bare, un, hok', r', q⟩ := h
      cases (show v = .bl true from q)
      cases (show u = Value.bool true from r')
      refine ⟨rfl, OldK.of_keep fun b o e => ?_, os, bare⟩
      cases q : H b with
      | none => exact un.keep b o e q (fun z => absurd (show b ∈ ([] : List Addr) from z) (by simp)) (by simp)
      | some u =>
        rcases hO b with z | ⟨ob, xs, z⟩
        · rw [q] at z
          cases z
        · have h1 := (hok b _ z).1
          have h2 := (hok' b _ (un.frzs b ob _ z)).1
          rw [e] at h1
          cases h1
          exact h2
  cases hk : K.lookup a with
  | some o =>
    have e := KX a o hk
    rw [ha] at e
    cases e
    exact run (fun _ => none) (fun _ => .inl rfl) (.inr ⟨_, vs.toArray, _, hk, rfl, rfl, rfl, by rw [List.size_toArray, lv]; exact hl, by simpa using rv⟩) (fun b u z => by have z' : (none : Option HO) = some u := z; cases z') (fun b z => absurd rfl z)
  | none =>
    let Hs : Hp := fun b => if b = a then some (.frz { cls := .type "list", data := .seq vs.toArray } (.lst (ns.map V.int))) else none
    have at_a : Hs a = some (.frz { cls := .type "list", data := .seq vs.toArray } (.lst (ns.map V.int))) := if_pos rfl
    have off : ∀ b, b ≠ a → Hs b = none := fun b h => if_neg h
    refine run Hs (fun b => ?_) (.inl (.inr ⟨_, at_a⟩)) (fun b u z => ?_) (fun b z => ⟨?_, hk⟩)
    · by_cases h : b = a
      · rw [h]; exact .inr ⟨_, _, at_a⟩
      · exact .inl (off b h)
    · by_cases h : b = a
      · subst h
        rw [at_a] at z
        cases z
        exact ⟨ha, by rw [List.length_map]; exact hl, vs, _, rv, ha⟩
      · rw [off b h] at z
        cases z
    · by_cases h : b = a
      · exact h
      · exact absurd (off b h) z
theorem walkG {l : PySem.W.OpenLaw} {n k : Nat} {q : Program} {loose : List Str} {XP : (Str → Option Value) → Heap → Prop} {YP : World → Heap → Prop} {d : DefRec} {K : Params → PySem.W.Frag} {CX : World → CXT} {sp : World → Sp} {x : Str}
    (hn : l.most = some n) (hn2 : n ≤ sizeLine) (hdf : d.params.defaults = []) (hr : Room k callerA)
    (hY : ∀ (w : World) (h : Heap), YP w h → (K w.params).In h)
    (F : ∀ (w : World) (mg : Str → Option Value) (fa : Addr) (h : Heap), (K w.params).In h → h.Ns mainGlobals mg → mg d.name = some (.ref fa) →
      ∃ fd : FuncData, (∀ (s : Shared) (u : Value), BindsTo s fd ⟨[u], []⟩ [(x, u)]) ∧
        ∀ base : Heap, (K w.params).In base → base.Ns mainGlobals mg → FnG l.prog w (K w.params) mg base (CX w) k fa fd [x] (sp w))
    (hsp : ∀ (w : World) (H : Hp) (a : Addr) (ns : List Int), ns.length ≤ n → (∀ z ∈ ns, Builtin.Int.intBits z ≤ 1048576) → Only H → SqL (K w.params) H a (ns.map V.int) → sp w [.ref a] H (fun v _ => v = .bl true) fun _ _ _ => False)
    (hCX : ∀ (w : World) (H : Hp) (s : Shared) (e : Value) (s' : Shared), CX w [] H s (fun _ _ _ => False) e s' → False) :
    PySem.W.WalkO q loose XP YP l.row.toRowW d [] (fun f vs => PySem.call f vs) := by
  refine Att.attach_callB hn hdf ?_
  intro w s₀ s₁ mg mb fa o pm cd doc a vs ns G Y ho hd hcd hmg hobj hints hlen hbits hgen
  obtain ⟨fd, hb, hF⟩ := F w mg fa _ (hY w _ Y) G.T.g hmg
  exact enterG (hY w _ Y) G.T.g G.T.b G.T.builtins G.T.nolimit hgen hobj hints (Nat.le_trans hlen hn2) hr hF hb (fun H hO hS => hsp w H a ns hlen hbits hO hS) fun H e s' => hCX w H s₁ e s'
/-- the same where the promise hangs on the written part alone -/
theorem walkK {l : PySem.W.OpenLaw} {n k : Nat} {q : Program} {loose : List Str} {XP : (Str → Option Value) → Heap → Prop} {YP : World → Heap → Prop} {d : DefRec} {K : Params → PySem.W.Frag} {CX : CXT} {sp : PySem.W.Frag → Sp} {x : Str}
    (hn : l.most = some n) (hn2 : n ≤ sizeLine) (hdf : d.params.defaults = []) (hr : Room k callerA) (hY : ∀ (w : World) (h : Heap), YP w h → (K w.params).In h)
    (F : ∀ (w : World) (mg : Str → Option Value) (fa : Addr) (h : Heap), (K w.params).In h → h.Ns mainGlobals mg → mg d.name = some (.ref fa) →
      ∃ fd : FuncData, (∀ (s : Shared) (u : Value), BindsTo s fd ⟨[u], []⟩ [(x, u)]) ∧ ∀ base : Heap, (K w.params).In base → base.Ns mainGlobals mg → FnG l.prog w (K w.params) mg base CX k fa fd [x] (sp (K w.params)))
    (hsp : ∀ (K : PySem.W.Frag) (H : Hp) (a : Addr) (ns : List Int), ns.length ≤ n → Only H → SqL K H a (ns.map V.int) → sp K [.ref a] H (fun v _ => v = .bl true) fun _ _ _ => False)
    (hCX : ∀ (H : Hp) (s : Shared) (e : Value) (s' : Shared), CX [] H s (fun _ _ _ => False) e s' → False) : PySem.W.WalkO q loose XP YP l.row.toRowW d [] (fun f vs => PySem.call f vs) :=
  walkG (K := K) (CX := fun _ => CX) (sp := fun w => sp (K w.params)) hn hn2 hdf hr hY F (fun w H a ns h1 _ h2 h3 => hsp (K w.params) H a ns h1 h2 h3) fun _ H s e s' => hCX H s e s'
end Dz

set_option Elab.async false
set_option linter.all false
set_option maxRecDepth 100000
set_option maxHeartbeats 2000000
/-! repr of data; errors of the program's own as values; isinstance of these. -/
namespace Dz
open PySem PySem.Spec PyProof.Rows L2
section
variable {X : Cx}
/-- repr(x), x data without dicts -/
def rShow (K : PySem.W.Frag) : List V → Hp → VK → Prop := fun xs H Q => ∃ v d, xs = [v] ∧ Dp K H v d ∧ d.showable = true ∧ d.hasDict = false ∧ d.depth ≤ 60 ∧ d.shown.length ≤ sizeLine ∧ Q (.str d.shown) H
theorem call_show {k : Nat} (hg : Calm X.A) (hr : Room k X.A) : CallR X (.builtin "repr") (rShow X.K) := by
  intro pins s σ H xs us Q I r h
  obtain ⟨v, d, rfl, hd, hs, hn, hp, hz, q⟩ := h
  cases r with
  | @cons _ u _ _ rv rn =>
  cases rn
  have hu := hr.units
  cases hd with
  | non => cases rv; exact PySem.P.repr_of_none ⟨.str _, H, I.tok _, ⟨_, rfl⟩, q⟩
  | bl b => cases rv; exact PySem.P.repr_of_bool ⟨.str _, H, I.tok _, ⟨_, rfl⟩, q⟩
  | int i =>
    obtain ⟨t, rfl⟩ := rv
    exact PySem.P.repr_of_int (of_decide_eq_true hs) ⟨.str _, H, I.tok _, ⟨_, rfl⟩, q⟩
  | str x =>
    obtain ⟨t, rfl⟩ := rv
    exact PySem.P.repr_of_str ⟨.str _, H, I.tok _, ⟨_, rfl⟩, q⟩ hz
  | lst h1 h2 =>
    cases rv
    obtain ⟨as, rd⟩ := Dp.reads I _ _ _ (Dp.lst h1 h2) rfl
    exact repr_of_reads' rd hs (PyData.noDict_hsm hn) hg (by omega) (fun _ _ e => e) (fun h' u tk hk => ⟨.str _, H, I.kept hk, ⟨_, rfl⟩, q⟩) hz
  | tup h1 h2 =>
    cases rv
    obtain ⟨as, rd⟩ := Dp.reads I _ _ _ (Dp.tup h1 h2) rfl
    exact repr_of_reads' rd hs (PyData.noDict_hsm hn) hg (by omega) (fun _ _ e => e) (fun h' u tk hk => ⟨.str _, H, I.kept hk, ⟨_, rfl⟩, q⟩) hz

/-! ### own errors -/
/-- W.__init__(self, ..), W the own class above it: what stands there is ValueError's -/
structure UpC (K : PySem.W.Frag) (W : Addr) (mc : Value) : Prop where
  rd : PySem.W.readsIn K W mc = true
  ga : PySem.W.specialIn K (.ref W) "__getattribute__" = some (some (.builtin "type.__getattribute__"))
  at_ : PySem.W.findCls K (.ref W) mc "__init__" = some (.val (.builtin "ValueError.__init__"))
theorem pe_upinit {x : Str} {W : Addr} {mc : Value} {e : Expr} {es : List Expr} {ta : TA} {p1 p2 pos : Pos} {pl : Sem Bool} (hg : Gl X x) (hm : X.mg x = some (.ref W)) (U : UpC X.K W mc) (ha : PA X (e :: es) ta)
    (hdb : (x == ("__debug__" : Str)) = false := by decide)
    (hc : eval (.Call (.Attribute (.Name x p1) "__init__" p2) (e :: es) [] pos) X.env = (do
      let ov ← eval (.Name x p1) X.env
      standAt p2.atName
      let (f, first) ← holding [ov] (getMethod ov "__init__" pl)
      callWith pos f first (backTo pos (starEach (e :: es) X.env)) (backToKw pos (keywordEach [] X.env))) := by rfl)
    (he : starEach (e :: es) X.env = (false, eval e X.env) :: starEach es X.env := by rfl) (hpl : (backTo pos (starEach es X.env)).any (·.1) = false := by rfl) :
    PE X (.Call (.Attribute (.Name x p1) "__init__" p2) (e :: es) [] pos) (tVeI X.K ta) := by
  constructor
  intro pins s σ H Q I h
  refine PySem.W.methodCall_KW (ld_glob I hg hm ?_ hdb) hc
  refine PySem.W.method_cls I.kIn U.ga (PySem.W.cls_value I.kIn U.rd U.at_ rfl ?_)
  show wpAny _ _ (callWith pos (Value.builtin "ValueError.__init__") [] (backTo pos (starEach (e :: es) X.env)) []) _ _ _
  refine PyProof.Rows.callWith_method1 (thn (ha.run pos pins _ σ H _ (I.tok _) h) ?_) he hpl
  rintro us s1 ⟨vs, H1, I1, r1, a, C, ws, rfl, hl, T, ea, q⟩
  cases r1 with
  | @cons _ u0 _ ur ra rw' =>
    cases (show u0 = Value.ref a from ra)
    refine oinit_ok T I1 ea ?_ fun s' J => ⟨.non, H1, J, rfl, q⟩
    rw [← Paired.length rw', sizeLine_eq]
    omega
/-- C(e, ..) as a value: the error at a, its __init__ keeping sp -/
theorem call_err {CX : CXT} {C fI : Addr} {k : Nat} {fd : FuncData} {ps : List Str} {sp : Sp} {E : XK} (T : OexC X.K C) (iC : PySem.W.findIn X.K (.ref C) "__init__" = some (some (.ref fI)))
    (tI : PySem.W.typeIn X.K (.ref fI) = some (.type "function")) (F : FnG X.prog X.w X.K X.mg X.base CX k fI fd ps sp) (hcl : Calm X.A) (hr : Room (k + 1) X.A) (hb : Binds X.K fd ps []) (hx : Passes CX X E) :
    CallR X (.ref C) (fun vs H Q => vs.length ≤ 1000 ∧ ∀ a, H a = none → sp (.ref a :: vs) (upd H a (exo a C none)) (fun v H2 => v = .non ∧ Q (.ref a) H2) E) := by
  intro pins s σ H vs us Q I r1 h
  obtain ⟨hz, q1⟩ := h
  obtain ⟨nm, qn, N, bs, bm, sn, sub, ab, col, dd, k0, k1, k2, k3, k5, hC, hbm⟩ := T.cls
  obtain ⟨hp, g, dr, tk, os⟩ := s
  have above : hp.objs.size ≤ hp.objs.size + 1 := Nat.le_succ _
  have hq := q1 (hp.objs.size + 1) (I.hok.fresh above)
  have kk : ∀ b o, hp.get? b = some o → ((hp.push (PySem.W.kdv_tup us)).push (PySem.HandSPX.excO C hp.objs.size)).get? b = some o := fun b o e => Heap.get?_push_of_some _ (Heap.get?_push_of_some _ e)
  have got : ((hp.push (PySem.W.kdv_tup us)).push (PySem.HandSPX.excO C hp.objs.size)).get? (hp.objs.size + 1) = some (PySem.HandSPX.excO C hp.objs.size) := by heap_get
  have I2 : Inv X pins σ (upd H (hp.objs.size + 1) (exo (hp.objs.size + 1) C none)) ⟨(hp.push (PySem.W.kdv_tup us)).push (PySem.HandSPX.excO C hp.objs.size), g, dr, tk, os⟩ := I.laid (t' := tk) kk above (exo_ok got)
  have r2 : Vals (V.ref (hp.objs.size + 1) :: vs) (Value.ref (hp.objs.size + 1) :: us) := .cons rfl r1
  have ll : (Value.ref (hp.objs.size + 1) :: us ++ []).length = ps.length := by
    rw [List.append_nil, ← r2.length]
    exact F.ln _ _ _ _ hq
  have lu : us.length ≤ sizeLine := by
    rw [← Paired.length r1, sizeLine_eq]
    omega
  have bnd := hb ⟨(hp.push (PySem.W.kdv_tup us)).push (PySem.HandSPX.excO C hp.objs.size), g, dr, tk, os⟩ (Value.ref (hp.objs.size + 1) :: us) I2.kIn ll
  rw [List.append_nil] at bnd
  have cal : Calm (X.A.under (.builtin "type.__call__" ⟨.ref C :: us, []⟩)) := by
    unfold Calm at hcl ⊢
    simp [Around.under, Code.guards, Code.isGuard, pushGuards, guardIds, hcl]
  refine wpAny_call (PySem.HandSPX.call_own PySem.F.excBase_ValueError (fun Y => PySem.HandSPX.refsVE_contains Y bm hbm) (I.kIn _ _ hC) (PySem.W.looks_findIn I.kIn iC) (fun self => PySem.W.bind_fn I.kIn self tI) lu
    (codeAny_mono (F.go _ X.stack _ _ ⟨Value.ref (hp.objs.size + 1) :: us, []⟩ (Value.ref (hp.objs.size + 1) :: us) _ _ E cal (hr.make C us []) (I2.env0.make C us []) bnd r2 hq) ?_))
  intro rs s' hq'
  match rs, hq' with
  | .error er, hq' => exact hx pins σ _ _ er s' I2 hq'
  | .ok (.ret u), hq' =>
    obtain ⟨v, H2, I3, rv, ev, q2⟩ := I2.after hq'
    subst ev
    exact ⟨rv, V.ref (hp.objs.size + 1), H2, I3, rfl, q2⟩
end
end Dz

set_option Elab.async false
set_option linter.all false
set_option maxRecDepth 100000
set_option maxHeartbeats 2000000
/-! Readings, step by step. -/
namespace Dz
open PySem PySem.Spec PyProof.Rows L2

/-- a def of the text that keeps its promise, whatever its record is -/
structure Kp (P : Program) (w : World) (K : PySem.W.Frag) (mg : Str → Option Value) (base : Heap) (CX : CXT) (k : Nat) (f : Addr) (ps : List Str) (ds : List Value) (sp : Sp) : Prop where
  ex : ∃ fd, FnG P w K mg base CX k f fd ps sp ∧ Binds K fd ps ds
/-- a def of the module -/
structure Df (K : PySem.W.Frag) (mg : Str → Option Value) (x : Str) (st : Stmt) (f : Addr) : Prop where
  ex : ∃ fd, Fun K x x st f fd
  mg : mg x = some (.ref f)
  kp : PySem.W.keepIn K (.ref f) = true
/-- a name of the module that holds v -/
def Gv (mg : Str → Option Value) (x : Str) (v : V) : Prop := ∃ u, mg x = some u ∧ RelV v u
section
variable {X : Cx} {CX : CXT} {k : Nat} {f C : Addr} {ps : List Str} {sp : Sp} {dvs : List V} {ds : List Value} {E : XK} {x m : Str} {p pos apos : Pos} {e o : Expr} {es : List Expr} {ta : TE} {t : TA}
theorem callK (F : Kp X.prog X.w X.K X.mg X.base CX k f ps ds sp) (hg : Calm X.A) (hr : Room k X.A) (hd : Vals dvs ds) (hx : Passes CX X E) :
    CallR X (.ref f) (fun vs H Q => sp (vs ++ dvs) H Q E) := by
  obtain ⟨fd, G, b⟩ := F.ex
  exact callR_fn G hg hr b hd hx
theorem callK0 (F : Kp X.prog X.w X.K X.mg X.base CX k f ps [] sp) (hg : Calm X.A) (hr : Room k X.A) (hx : Passes CX X E) :
    CallR X (.ref f) (fun vs H Q => sp vs H Q E) := fun pins s σ H xs us Q I r h => callK (dvs := []) F hg hr .nil hx pins s σ H xs us Q I r (by show sp (xs ++ []) H Q E; rw [List.append_nil]; exact h)
theorem pe_gv {v : V} (hg : Gl X x) (h : Gv X.mg x v) (hd : (x == ("__debug__" : Str)) = false := by decide) : PE X (.Name x pos) (tC v) := by
  obtain ⟨u, hm, r⟩ := h
  exact pe_glob hg hm r hd
theorem calm_in {A : Around} {env : Env} (h : Calm A) : Calm (A.deeper env) := h
end

/-! ### the steps -/
section
variable {σ : L2.St} {H : Hp} {Q : VK} {i : Nat} {v x y : V} {ta tb te : TE} {t : TA} {nx : L2.St → Hp → Prop} {rt : VK} {bk ct : L2.St → Hp → Prop} {a u : TS} {tt tu : TT}
theorem w_var (h : σ[i]? = some (some v)) (k : Q v H) : tVar i σ H Q := ⟨v, h, k⟩
theorem w_varE (k : ∃ v, σ[i]? = some (some v) ∧ Q v H) : tVar i σ H Q := k
theorem w_c (k : Q v H) : tC v σ H Q := k
theorem w_op {r : R2} (k : ta σ H fun x H1 => tb σ H1 fun y H2 => r x y H2 Q) : tOp r ta tb σ H Q := k
theorem w_un {r : V → Hp → VK → Prop} (k : ta σ H fun x H1 => r x H1 Q) : tUn r ta σ H Q := k
theorem w_rI {C : Int → Int → Prop} {g : Int → Int → V} {i j : Int} (hc : C i j) (k : Q (g i j) H) : rI C g (.int i) (.int j) H Q := ⟨i, j, rfl, rfl, hc, k⟩
theorem w_rI0 {g : Int → Int → V} {i j : Int} (k : Q (g i j) H) : rI0 g (.int i) (.int j) H Q := ⟨i, j, rfl, rfl, k⟩
theorem w_rU {g : Int → V} {i : Int} (k : Q (g i) H) : rU g (.int i) H Q := ⟨i, rfl, k⟩
theorem w_rEq (hs : scal x y = true) (k : Q (.bl (decide (x = y))) H) : rEq x y H Q := ⟨hs, k⟩
theorem w_rNe (hs : scal x y = true) (k : Q (.bl (!decide (x = y))) H) : rNe x y H Q := ⟨hs, k⟩
theorem w_nil {Q : List V → Hp → Prop} (k : Q [] H) : tNil σ H Q := k
theorem w_cons {Q : List V → Hp → Prop} {tr : TA} (k : ta σ H fun x H1 => tr σ H1 fun xs H2 => Q (x :: xs) H2) : tCons ta tr σ H Q := k
/-- a new list, a new tuple -/
def NewL (xs : List V) (H : Hp) (Q : VK) : Prop := ∀ p, H p = none → Q (.ref p) (upd H p (.lst xs))
def NewT (xs : List V) (H : Hp) (Q : VK) : Prop := ∀ p, H p = none → Q (.ref p) (upd H p (.tup xs))
theorem w_lst (k : t σ H fun xs H1 => xs.length ≤ sizeLine ∧ NewL xs H1 Q) : tLst t σ H Q := k
theorem w_tup (k : t σ H fun xs H1 => xs.length ≤ sizeLine ∧ NewT xs H1 Q) : tTup t σ H Q := k
theorem w_ixL {K : PySem.W.Frag} {p : Addr} {xs : List V} {i : Int} (h : SqL K H p xs) (ha : atI xs i = some v) (k : Q v H) : rIxL K (.ref p) (.int i) H Q := ⟨p, xs, i, v, rfl, rfl, h, ha, k⟩
theorem w_cb {r : List V → Hp → VK → Prop} (k : t σ H fun vs H1 => r vs H1 Q) : tCB r t σ H Q := k
theorem w_test {Q : Bool → Hp → Prop} (k : te σ H fun x H1 => ∃ b, x = .bl b ∧ Q b H1) : tTest te σ H Q := k
theorem w_B {Q : Bool → Hp → Prop} (k : te σ H fun x H1 => ∃ b, x = .bl b ∧ Q b H1) : tB te σ H Q := k
theorem w_bl {Q : Bool → Prop} {b : Bool} (k : Q b) : ∃ c, V.bl b = .bl c ∧ Q c := ⟨b, rfl, k⟩
theorem w_notV (k : ta σ H fun x H1 => ∃ c, x = .bl c ∧ Q (.bl (!c)) H1) : tNotV ta σ H Q := k
theorem w_andV (k : ta σ H fun x H1 => ∃ c, x = .bl c ∧ if c = true then tb σ H1 Q else Q (.bl false) H1) : tAndV ta tb σ H Q := k
theorem w_orV (k : ta σ H fun x H1 => ∃ c, x = .bl c ∧ if c = true then Q (.bl true) H1 else tb σ H1 Q) : tOrV ta tb σ H Q := k
theorem w_not {Q : Bool → Hp → Prop} (k : tt σ H fun c H1 => Q (!c) H1) : tNot tt σ H Q := k
theorem w_and {Q : Bool → Hp → Prop} (k : tt σ H fun c H1 => if c = true then tu σ H1 Q else Q false H1) : tAnd tt tu σ H Q := k
theorem w_or {Q : Bool → Hp → Prop} (k : tt σ H fun c H1 => if c = true then Q true H1 else tu σ H1 Q) : tOr tt tu σ H Q := k
theorem w_ifE (k : tt σ H fun c H1 => if c = true then ta σ H1 Q else tb σ H1 Q) : tIf tt ta tb σ H Q := k
theorem w_seq (k : a ⟨u ⟨nx, rt, bk, ct⟩, rt, bk, ct⟩ σ H) : tSeq a u ⟨nx, rt, bk, ct⟩ σ H := k
theorem w_next (k : nx σ H) : tNext ⟨nx, rt, bk, ct⟩ σ H := k
theorem w_ret (k : te σ H rt) : tRet te ⟨nx, rt, bk, ct⟩ σ H := k
theorem w_asg {g : TG} (k : te σ H fun x H1 => g x σ H1 nx) : tAsg te g ⟨nx, rt, bk, ct⟩ σ H := k
theorem w_gn (k : nx (σ.set i (some v)) H) : gName i v σ H nx := k
theorem w_gsub {to ti : TE} {ts : TSet} (k : to σ H fun o H1 => ti σ H1 fun i H2 => ts o i v H2 fun H3 => nx σ H3) : gSub to ti ts v σ H nx := k
theorem w_setL {p : Addr} {xs : List V} {k : Int} {j : Nat} {Q : Hp → Prop} (h : H p = some (.lst xs)) (hj : ixN xs.length k = some j) (q : Q (upd H p (.lst (xs.set j v)))) : rSetL (.ref p) (.int k) v H Q := ⟨p, xs, k, j, rfl, rfl, h, hj, q⟩
theorem w_drop (k : te σ H fun _ H1 => nx σ H1) : tDrop te ⟨nx, rt, bk, ct⟩ σ H := k
theorem w_ifS (k : tt σ H fun b H1 => if b = true then a ⟨nx, rt, bk, ct⟩ σ H1 else u ⟨nx, rt, bk, ct⟩ σ H1) : tIfS tt a u ⟨nx, rt, bk, ct⟩ σ H := k
theorem w_ite {p : Prop} [Decidable p] {A B : Prop} (h1 : p → A) (h2 : ¬ p → B) : if decide p = true then A else B := by
  by_cases h : p
  · rw [if_pos (decide_eq_true h)]; exact h1 h
  · rw [if_neg (by simpa using h)]; exact h2 h
theorem w_iteB {b : Bool} {A B : Prop} (h1 : b = true → A) (h2 : b = false → B) : if b = true then A else B := by
  cases b
  · exact h2 rfl
  · exact h1 rfl
theorem w_itT {b : Bool} {A B : Prop} (e : b = true) (h : A) : if b = true then A else B := by rw [if_pos e]; exact h
theorem w_itF {b : Bool} {A B : Prop} (e : b = false) (h : B) : if b = true then A else B := by rw [if_neg (by rw [e]; decide)]; exact h
theorem atI_of {xs : List V} {i : Int} {v : V} (h0 : 0 ≤ i) (h : xs[i.toNat]? = some v) : atI xs i = some v := by
  have e : i = ((i.toNat : Nat) : Int) := (Int.toNat_of_nonneg h0).symm
  rw [e]
  exact atI_nat h
theorem sz_ok {n : Nat} (h : n ≤ 1000) : n ≤ sizeLine := Nat.le_trans h (by decide)
end
/-! ### heaps -/
/-- all but p is as it was -/
def Bt (p : Addr) (H H' : Hp) : Prop := ∀ b o, b ≠ p → H b = some o → H' b = some o
theorem Bt.refl {p : Addr} {H : Hp} : Bt p H H := fun _ _ _ h => h
theorem Bt.trans {p : Addr} {H H1 H2 : Hp} (a : Bt p H H1) (b : Bt p H1 H2) : Bt p H H2 := fun c o n h => b c o n (a c o n h)
theorem Bt.new {p q : Addr} {H : Hp} {o : HO} (h : H q = none) : Bt p H (upd H q o) := fun b u _ e => by rw [upd_ne (ne_of_none e h)]; exact e
theorem Bt.at_ {p : Addr} {H : Hp} {o : HO} : Bt p H (upd H p o) := fun b u n e => by rw [upd_ne n]; exact e
theorem Bt.of {p : Addr} {H H' : Hp} (e : Same H H') : Bt p H H' := fun b o _ h => e b o h
theorem same_new {q : Addr} {H : Hp} {o : HO} (h : H q = none) : Same H (upd H q o) := fun b u e => by rw [upd_ne (ne_of_none e h)]; exact e
theorem Bt.back {p q : Addr} {H H' : Hp} (e : Bt p H H') (n : q ≠ p) (h : H' q = none) : H q = none := by
  cases h1 : H q with
  | none => rfl
  | some o => rw [e q o n h1] at h; cases h
theorem Bt.rd {K : PySem.W.Frag} {p a : Addr} {H H' : Hp} {xs : List V} (e : Bt p H H') (n : a ≠ p) (h : SqL K H a xs) : SqL K H' a xs := by
  rcases h with (h | ⟨o, h⟩) | h
  · exact .inl (.inl (e _ _ n h))
  · exact .inl (.inr ⟨o, e _ _ n h⟩)
  · exact .inr h
end Dz

set_option Elab.async false
set_option linter.all false
set_option maxRecDepth 100000
set_option maxHeartbeats 2000000
/-! Loops; kinds of things; isinstance. -/
namespace Dz
open PySem PySem.Spec PyProof.Rows L2
section
variable {σ : L2.St} {H : Hp} {Q : VK} {te tl : TE} {ta : TA} {nx : L2.St → Hp → Prop} {rt : VK} {bk ct : L2.St → Hp → Prop} {tb u : TS} {g : TG} {tt : TT} {vs : List Nat} {K : PySem.W.Frag} {wi : TI} {D : Ends}
/-- what a comprehension, a for asks of its walk J -/
def LcW (J : It) (g : TG) (tt : TT) (te : TE) (vs : List Nat) (σ : L2.St) (H : Hp) (Q : VK) : Prop := ∀ D, H D = none → ∃ W : Nat → Nat → Hp → Prop, (∃ m, W 0 m (upd H D (.lst []))) ∧ ∀ i m H, W i m H → (J.stop i H ∧ Q (.ref D) H) ∨ (J.go i H ∧ ∃ Nx : Hp → Prop, (∀ H', Nx H' → ∃ m', m' < m ∧ W (i + 1) m' H') ∧
      ∀ x H', J.yld i H x H' → g x (wipe σ vs) H' fun σ2 H2 => wipe σ2 vs = wipe σ vs ∧ tt σ2 H2 fun b H3 =>
        if b = true then te σ2 H3 fun y H4 => ∃ acc, H4 D = some (.lst acc) ∧ acc.length < sizeLine ∧ Nx (upd H4 D (.lst (acc ++ [y]))) else Nx H3)
def ForW (J : It) (g : TG) (tb : TS) (D : Ends) (σ : L2.St) (H : Hp) : Prop := ∃ W : Nat → Nat → L2.St → Hp → Prop, (∃ m, W 0 m σ H) ∧ ∀ i m σ H, W i m σ H → (J.stop i H ∧ D.nx σ H) ∨ (J.go i H ∧ ∃ N : L2.St → Hp → Prop, (∀ σ' H', N σ' H' → ∃ m', m' < m ∧ W (i + 1) m' σ' H') ∧
      ∀ x H', J.yld i H x H' → g x σ H' fun σ2 H2 => tb { D with nx := N, ct := N, bk := D.nx } σ2 H2)
theorem w_lc (k : wi σ H fun J H1 => LcW J g tt te vs σ H1 Q) : tLc wi g tt te vs σ H Q := k
theorem w_for (k : wi σ H fun J H1 => ForW J g tb D σ H1) : tFor wi g tb D σ H := k
theorem w_iR1 {R : It → Hp → Prop} (k : ta σ H fun xs H1 => ∃ j : Int, xs = [.int j] ∧ -(2 ^ 62) ≤ j ∧ j < 2 ^ 62 ∧ R (Itr 0 j.toNat) H1) : iRng1 ta σ H R := k
theorem w_iL {R : It → Hp → Prop} (k : tl σ H fun x H1 => ∃ a, x = .ref a ∧ (∃ xs, SqL K H1 a xs) ∧ R (Itl K a) H1) : iList K tl σ H R := k
theorem w_iT {R : It → Hp → Prop} (k : tl σ H fun x H1 => ∃ a, x = .ref a ∧ (∃ xs, SqT K H1 a xs) ∧ R (Itt K a) H1) : iTup K tl σ H R := k
theorem w_iS {R : It → Hp → Prop} (k : tl σ H fun x H1 => ∃ z, x = .str z ∧ R (Its z) H1) : iStr tl σ H R := k
theorem w_rng1 {Q : Int → Prop} {n : Int} (h : -(2 ^ 62) ≤ n ∧ n < 2 ^ 62) (k : Q n) : ∃ j : Int, [V.int n] = [V.int j] ∧ -(2 ^ 62) ≤ j ∧ j < 2 ^ 62 ∧ Q j := ⟨n, rfl, h.1, h.2, k⟩
theorem w_lst1 {Q : Addr → Prop} {a : Addr} {xs : List V} (h : SqL K H a xs) (k : Q a) : ∃ b, V.ref a = .ref b ∧ (∃ xs, SqL K H b xs) ∧ Q b := ⟨a, rfl, ⟨xs, h⟩, k⟩
theorem w_tup1 {Q : Addr → Prop} {a : Addr} {xs : List V} (h : SqT K H a xs) (k : Q a) : ∃ b, V.ref a = .ref b ∧ (∃ xs, SqT K H b xs) ∧ Q b := ⟨a, rfl, ⟨xs, h⟩, k⟩
theorem w_str1 {Q : Str → Prop} {z : Str} (k : Q z) : ∃ y, V.str z = .str y ∧ Q y := ⟨z, rfl, k⟩
/-- what a comprehension of n turns asks, x its i-th thing: Pv of the turn and the heap; D is where its list stands -/
def Lcs (n : Nat) (Gd : Hp → Prop) (Yd : Nat → V → Prop) (g : TG) (tt : TT) (te : TE) (vs : List Nat) (σ : L2.St) (H : Hp) (Q : VK) : Prop := ∀ D, H D = none → ∃ Pv : Nat → Hp → Prop, Pv 0 (upd H D (.lst [])) ∧ (∀ i H, i ≤ n → Pv i H → Gd H) ∧
  (∀ i x H, i < n → Yd i x → Pv i H → g x (wipe σ vs) H fun σ2 H2 => wipe σ2 vs = wipe σ vs ∧ tt σ2 H2 fun b H3 =>
    if b = true then te σ2 H3 fun y H4 => ∃ acc, H4 D = some (.lst acc) ∧ acc.length < sizeLine ∧ Pv (i + 1) (upd H4 D (.lst (acc ++ [y]))) else Pv (i + 1) H3) ∧ ∀ H, Pv n H → Q (.ref D) H
theorem lcs_go {J : It} {n : Nat} {Gd : Hp → Prop} {Yd : Nat → V → Prop} (w : Walk J n Gd fun i H x H' => H' = H ∧ Yd i x) (k : Lcs n Gd Yd g tt te vs σ H Q) : LcW J g tt te vs σ H Q := by
  intro D hD
  obtain ⟨Pv, h0, hG, hs, hd⟩ := k D hD
  refine lc_it w Pv h0 hG (fun i x H H' hi p y => ?_) hd
  obtain ⟨rfl, y⟩ := y
  exact hs i x H' hi y p
/-- the same of a for: Pv by the turn, the slots, the heap -/
def Fors (n : Nat) (Gd : Hp → Prop) (Yd : Nat → V → Prop) (g : TG) (tb : TS) (D : Ends) (σ : L2.St) (H : Hp) : Prop := ∃ Pv : Nat → L2.St → Hp → Prop, Pv 0 σ H ∧ (∀ i σ H, i ≤ n → Pv i σ H → Gd H) ∧
  (∀ i x σ H, i < n → Yd i x → Pv i σ H → g x σ H fun σ2 H2 => tb ⟨Pv (i + 1), D.rt, D.nx, Pv (i + 1)⟩ σ2 H2) ∧ ∀ σ H, Pv n σ H → D.nx σ H
theorem fors_go {J : It} {n : Nat} {Gd : Hp → Prop} {Yd : Nat → V → Prop} (w : Walk J n Gd fun i H x H' => H' = H ∧ Yd i x) (k : Fors n Gd Yd g tb D σ H) : ForW J g tb D σ H := by
  obtain ⟨Pv, h0, hG, hs, hd⟩ := k
  refine for_it w Pv h0 hG (fun i x σ H H' hi p y => ?_) hd
  obtain ⟨rfl, y⟩ := y
  exact hs i x σ H' hi y p
theorem wk_range {n : Nat} : Walk (Itr 0 n) n (fun _ => True) fun i H x H' => H' = H ∧ x = .int (i : Nat) := (walk_range (lo := 0) (n := n)).mono (fun _ h => h) fun i H x H' _ _ y => ⟨y.1, y.2.trans (by show V.int (0 + (i : Int)) = V.int (i : Int); rw [Int.zero_add])⟩
theorem wk_list {a : Addr} {xs : List V} : Walk (Itl K a) xs.length (fun H => SqL K H a xs) fun i H x H' => H' = H ∧ xs[i]? = some x := walk_list
theorem wk_tup {a : Addr} {xs : List V} : Walk (Itt K a) xs.length (fun H => SqT K H a xs) fun i H x H' => H' = H ∧ xs[i]? = some x := walk_tup
theorem wk_str {z : Str} : Walk (Its z) z.cps.size (fun _ => True) fun i H x H' => H' = H ∧ ∃ c, z.cps[i]? = some c ∧ x = .str ⟨#[c]⟩ := walk_str
theorem w_gtup {n : Nat} {t : TGs} {a : Addr} {xs : List V} (h : SqT K H a xs) (hl : xs.length = n) (k : t xs σ H nx) : gTup K n t (.ref a) σ H nx := ⟨a, xs, rfl, h, hl, k⟩
theorem w_gcons {t : TG} {u : TGs} {v : V} {vs : List V} (k : t v σ H fun σ' H' => u vs σ' H' nx) : gCons t u (v :: vs) σ H nx := ⟨v, vs, rfl, k⟩
theorem w_gnil (k : nx σ H) : gNil [] σ H nx := ⟨rfl, k⟩
theorem w_tyes {Q : Bool → Hp → Prop} (k : Q true H) : tYes σ H Q := k
theorem w_max {i j : Int} (k : Q (.int (if j > i then j else i)) H) : ∃ a b, [V.int i, V.int j] = [V.int a, V.int b] ∧ Q (.int (if b > a then b else a)) H := ⟨i, j, rfl, k⟩
end

/-! ### kinds of things -/
/-- what isinstance asks of an error's class -/
structure EI (K : PySem.W.Frag) (C : Addr) : Prop where
  hcl : (PySem.W.clsIn K C).isSome = true
  hga : PySem.W.findIn K (.ref C) "__getattribute__" = some (some (.builtin "BaseException.__getattribute__"))
  hgt : PySem.W.findIn K (.ref C) "__getattr__" = some none
  hsub : PySem.W.subIn K (.ref C) (.type "BaseException") = some true
  hc : PySem.W.findIn K (.ref C) "__class__" = some (some (.builtin "object.__class__"))
  hn : PySem.W.specialIn K (.builtin "object.__class__") "__get__" = some (some (.builtin "getset_descriptor.__get__"))
  htk : PySem.W.takesIn K (.builtin "object.__class__") = some true
  hm : PySem.W.mroIn K C (.type "object") = some true
  k1 : PySem.W.kitOne K (.ref C) (.type "int") = some false
  k2 : PySem.W.kitOne K (.ref C) (.type "bool") = some false
  k3 : PySem.W.kitOne K (.ref C) (.type "str") = some false
  k4 : PySem.W.kitOne K (.ref C) (.type "list") = some false
  k5 : PySem.W.kitOne K (.ref C) (.type "tuple") = some false
  k6 : PySem.W.kitOne K (.ref C) (.type "dict") = some false
theorem kit_no {K : PySem.W.Frag} {C : Addr} {T : String} (hm : PySem.W.kitMeta T = true) (h : PySem.W.subIn K (.ref C) (.type T) = some false) : PySem.W.kitOne K (.ref C) (.type T) = some false := by
  unfold PySem.W.kitOne PySem.W.kitCls
  rw [if_neg (by intro z; cases z)]
  show (if PySem.W.kitMeta T = true then PySem.W.subIn K (.ref C) (.type T) else none) = some false
  rw [if_pos hm, h]
/-- a thing that stands, not at p -/
inductive Kn (K : PySem.W.Frag) (p : Addr) (H : Hp) : V → Prop
  | int (i : Int) : Kn K p H (.int i)
  | str (z : Str) : Kn K p H (.str z)
  | bl (b : Bool) : Kn K p H (.bl b)
  | non : Kn K p H .non
  | lst {a : Addr} {xs : List V} (n : a ≠ p) (e : H a = some (.lst xs)) : Kn K p H (.ref a)
  | tup {a : Addr} {xs : List V} (n : a ≠ p) (e : H a = some (.tup xs)) : Kn K p H (.ref a)
  | dct {a : Addr} {kvs : List (Key × V)} (n : a ≠ p) (e : H a = some (.dK kvs)) : Kn K p H (.ref a)
  | err {a d C : Addr} {fs : List (Str × V)} (n : a ≠ p) (m : d ≠ p) (e : H a = some (exo a C (some d))) (f : H d = some (exd d fs)) (T : EI K C) : Kn K p H (.ref a)
theorem Kn.mono {K : PySem.W.Frag} {p : Addr} {H H' : Hp} {v : V} (h : Kn K p H v) (e : Bt p H H') : Kn K p H' v := by
  cases h with
  | int i => exact .int i
  | str z => exact .str z
  | bl b => exact .bl b
  | non => exact .non
  | lst n q => exact .lst n (e _ _ n q)
  | tup n q => exact .tup n (e _ _ n q)
  | dct n q => exact .dct n (e _ _ n q)
  | err n m q f T => exact .err n m (e _ _ n q) (e _ _ m f) T
def isInt : V → Bool
  | .int _ => true
  | .bl _ => true
  | _ => false
def isBool : V → Bool
  | .bl _ => true
  | _ => false
def isStr : V → Bool
  | .str _ => true
  | _ => false
/-- isinstance(x, int), bool, str -/
def rIs (K : PySem.W.Frag) (n : String) (f : V → Bool) : List V → Hp → VK → Prop := fun xs H Q => ∃ p v, xs = [v, .ty n] ∧ Kn K p H v ∧ Q (.bl (f v)) H
section
variable {X : Cx} {n : String} {f : V → Bool}
theorem is_of (hi : ∀ t, kitB "int" n = some (f (.int t))) (hb : ∀ t, kitB "bool" n = some (f (.bl t))) (hs : ∀ t, kitB "str" n = some (f (.str t))) (hn : kitB "NoneType" n = some (f .non)) (hl : ∀ a, kitB "list" n = some (f (.ref a))) (ht : ∀ a, kitB "tuple" n = some (f (.ref a))) (hd : ∀ a, kitB "dict" n = some (f (.ref a)))
    (he : ∀ C a, EI X.K C → PySem.W.kitOne X.K (.ref C) (.type n) = some (f (.ref a))) : CallR X (.builtin "isinstance") (rIs X.K n f) := by
  intro pins s σ H xs us Q I r h
  obtain ⟨p, v, rfl, kn, q⟩ := h
  have base : ∀ {t : Value}, TyX X.K H v t → PySem.W.kitOne X.K t (.type n) = some (f v) → wpAny (model X.prog X.w) X.A (call (.builtin "isinstance") us) (EP X pins σ Q) X.xe s := fun {t} ty k =>
    call_isi pins s σ H [v, .ty n] us Q I r ⟨v, .ty n, t, .type n, f v, rfl, .ty n, ty, k, q⟩
  cases kn with
  | int i => exact base (.base (.int i)) (kit_ty (hi _))
  | str z => exact base (.base (.str z)) (kit_ty (hs _))
  | bl b => exact base (.base (.bl b)) (kit_ty (hb _))
  | non => exact base (.base .non) (kit_ty hn)
  | lst _ e => exact base (.base (.lst e)) (kit_ty (hl _))
  | tup _ e => exact base (.base (.tup e)) (kit_ty (ht _))
  | dct _ e => exact base (.base (.dK e)) (kit_ty (hd _))
  | @err a d C fs _ _ e g T =>
    cases r with
    | @cons _ u1 _ _ r1 r2 =>
    cases r2 with
    | @cons _ u2 _ _ r2 r3 =>
    cases r3
    cases (show u1 = Value.ref a from r1)
    cases (show u2 = Value.type n from r2)
    obtain ⟨t1, ho⟩ := exo_at I.hok e
    obtain ⟨mA, ⟨od, es, ep, hd', _⟩, _⟩ := exd_at I.hok g
    refine PySem.W.kia_one (PySem.W.kitx_exc T.hcl T.hga T.hgt T.hsub T.hc T.hn T.htk T.hm) I.kIn (show PySem.W.InstAt s.heap a _ C (some od) from ⟨ho, rfl, rfl, hd'⟩) (he C a T) (fun z => nomatch z) fun tk => ⟨.bl _, H, I.tok tk, rfl, q⟩
theorem call_isInt : CallR X (.builtin "isinstance") (rIs X.K "int" isInt) := by
  refine is_of ?_ ?_ ?_ ?_ ?_ ?_ ?_ (fun C a T => T.k1) <;> first | (intros; show kitB _ _ = some true; decide +kernel) | (intros; show kitB _ _ = some false; decide +kernel)
theorem call_isBool : CallR X (.builtin "isinstance") (rIs X.K "bool" isBool) := by
  refine is_of ?_ ?_ ?_ ?_ ?_ ?_ ?_ (fun C a T => T.k2) <;> first | (intros; show kitB _ _ = some true; decide +kernel) | (intros; show kitB _ _ = some false; decide +kernel)
theorem call_isStr : CallR X (.builtin "isinstance") (rIs X.K "str" isStr) := by
  refine is_of ?_ ?_ ?_ ?_ ?_ ?_ ?_ (fun C a T => T.k3) <;> first | (intros; show kitB _ _ = some true; decide +kernel) | (intros; show kitB _ _ = some false; decide +kernel)
/-- x is True, x an int or a truth -/
def rNotTr : R2 := fun x y H Q => (isInt x = true) ∧ ∃ b, y = .bl b ∧ Q (.bl (!decide (x = .bl b))) H
theorem op_isnotb : OpR X (compareOp .IsNot) rNotTr := by
  intro pins s σ H x y v u Q I rx ry h
  obtain ⟨hx, b, rfl, q⟩ := h
  cases (show u = Value.bool b from ry)
  cases x with
  | int i =>
    obtain ⟨t, rfl⟩ := rx
    exact wpAny_isNot_other rfl (fun z => nomatch z) ⟨.bl true, H, I, rfl, by simpa using q⟩
  | bl a =>
    cases (show v = Value.bool a from rx)
    by_cases e : a = b
    · subst e
      exact wpAny_isNot_self rfl ⟨.bl false, H, I, rfl, by simpa using q⟩
    · exact wpAny_isNot_other rfl (fun z => e (Value.bool.inj z)) ⟨.bl true, H, I, rfl, by simpa [e] using q⟩
  | _ => cases hx
end
end Dz

set_option Elab.async false
set_option linter.all false
set_option maxRecDepth 100000
set_option maxHeartbeats 2000000
/-! What the laws' own draws promise. -/
namespace Dz
open PySem PySem.Spec PyProof.Rows L2
/-- a bag of draws at p, from which at most c times a number was made -/
def Bg (H : Hp) (p : Addr) (c : Int) : Prop := ∃ a b k : Int, H p = some (.lst [.int a, .int b, .int k]) ∧ 0 ≤ a ∧ 0 ≤ b ∧ b < 2147483629 ∧ 0 ≤ k ∧ k ≤ c
theorem Bg.more {H : Hp} {p : Addr} {c d : Int} (h : Bg H p c) (e : c ≤ d) : Bg H p d := by
  obtain ⟨a, b, k, h1, h2, h3, h4, h5, h6⟩ := h
  exact ⟨a, b, k, h1, h2, h3, h4, h5, by omega⟩
theorem Bg.same {H H' : Hp} {p : Addr} {c : Int} (h : Bg H p c) (e : Same H H') : Bg H' p c := by
  obtain ⟨a, b, k, h1, r⟩ := h
  exact ⟨a, b, k, e _ _ h1, r⟩
theorem Bg.ne {H : Hp} {p q : Addr} {c : Int} (h : Bg H p c) (e : H q = none) : q ≠ p := by
  obtain ⟨a, b, k, h1, r⟩ := h
  exact (ne_of_none h1 e).symm
/-- _law_cell -/
def spCel (K : PySem.W.Frag) : Sp := fun vs H Q _ => ∃ (a : Addr) (ns : List Int) (k : Int), vs = [.ref a, .int k] ∧ SqL K H a (ns.map V.int) ∧ ns.length ≤ 63 ∧ 0 ≤ k ∧ k ≤ 1000 ∧ ∀ (z : Int) H', Same H H' → Q (.int z) H'
/-- _law_bag -/
def spBag : Sp := fun vs H Q _ => ∃ z : Int, vs = [.int z] ∧ ∀ p H', H p = none → Same H H' → Bg H' p 0 → Q (.ref p) H'
/-- _law_take -/
def spTake : Sp := fun vs H Q _ => ∃ (p : Addr) (n c : Int), vs = [.ref p, .int n] ∧ Bg H p c ∧ c ≤ 1000000 ∧ 0 < n ∧ n.natAbs < 2 ^ 200 ∧ ∀ (d : Int) H', 0 ≤ d → d < n → Bt p H H' → Bg H' p (c + 1) → Q (.int d) H'
theorem take_now {H : Hp} {Q : VK} {E : XK} {p : Addr} {n c : Int} (b : Bg H p c) (hc : c ≤ 1000000) (h0 : 0 < n) (hn : n.natAbs < 2 ^ 200)
    (k : ∀ (d : Int) H', 0 ≤ d → d < n → Bt p H H' → Bg H' p (c + 1) → Q (.int d) H') : spTake [.ref p, .int n] H Q E := ⟨p, n, c, rfl, b, hc, h0, hn, k⟩
theorem take_num {b k m : Int} (h0 : 0 ≤ b) (h1 : b < 2147483629) (h2 : 0 ≤ k) (h3 : k ≤ 1000000) (h4 : 0 ≤ m) (h5 : m ≤ 1000) : (b + 7919 * (k + 1) + m).natAbs < 2 ^ 64 := by
  have : b + 7919 * (k + 1) + m < 2 ^ 40 := by omega
  omega
theorem take_num2 {b k : Int} (h0 : 0 ≤ b) (h1 : b < 2147483647) (h2 : 0 ≤ k) (h3 : k ≤ 1000000) : (b + 15485863 * (k + 1)).natAbs < 2 ^ 64 := by
  have : b + 15485863 * (k + 1) < 2 ^ 50 := by omega
  omega
theorem ints3 {a b k : Int} : ([.int a, .int b, .int k] : List V) = [V.int a, V.int b, V.int k] := rfl
theorem atI0 {x : V} {l : List V} : atI (x :: l) 0 = some x := atI_of (Int.le_refl _) rfl
theorem atI1 {x y : V} {l : List V} : atI (x :: y :: l) 1 = some y := atI_of (by decide) rfl
theorem atI2 {x y z : V} {l : List V} : atI (x :: y :: z :: l) 2 = some z := atI_of (by decide) rfl
theorem mulW_small {i j : Int} (h1 : i.natAbs < 2 ^ 300) (h2 : j.natAbs < 2 ^ 300) : CMulW i j := wide_mul h1 h2 (by decide) (by decide) (by decide)
end Dz

set_option Elab.async false
set_option linter.all false
set_option maxRecDepth 100000
set_option maxHeartbeats 2000000
namespace Dz
open PySem PySem.Spec PyProof.Rows L2
/-- a new dict; a new error of the class at C -/
def NewD (H : Hp) (Q : VK) : Prop := ∀ p, H p = none → Q (.ref p) (upd H p (.dK []))
def NewE (C : Addr) (f : Str) (y : V) (H : Hp) (Q : VK) : Prop := ∀ a d, H a = none → H d = none → d ≠ a → Q (.ref a) (upd (upd H d (exd d [(f, y)])) a (exo a C (some d)))
section
variable {σ : L2.St} {H : Hp} {Q : VK} {te tl to : TE} {ta : TA} {K : PySem.W.Frag}
theorem w_sl {r : V → Option Int → Option Int → Hp → VK → Prop} {t1 t2 : TO} (k : te σ H fun x H1 => t1 σ H1 fun l H2 => t2 σ H2 fun u H3 => r x l u H3 Q) : tSl r te t1 t2 σ H Q := k
theorem w_nopart {Q : Option Int → Hp → Prop} (k : Q none H) : tNoPart σ H Q := k
theorem w_part {Q : Option Int → Hp → Prop} (k : te σ H fun x H1 => ∃ i, x = .int i ∧ Q (some i) H1) : tPart te σ H Q := k
theorem w_int {Q : Int → Prop} {i : Int} (k : Q i) : ∃ j, V.int i = .int j ∧ Q j := ⟨i, rfl, k⟩
theorem w_m1 {r : V → List V → Hp → VK → Prop} (k : to σ H fun x H1 => (∃ a, x = .str a) ∧ te σ H1 fun y H2 => r x [y] H2 Q) : tM1 r to te σ H Q := k
theorem w_strA {a : Str} {P : Prop} (k : P) : (∃ b, V.str a = .str b) ∧ P := ⟨⟨a, rfl⟩, k⟩
theorem w_rEqr {x y : V} (hs : scal x y = true) (k : Q (.bl (decide (x = y))) H) : rEq x y H Q := ⟨hs, k⟩
theorem w_chain {r r' : R2} {ta tb tc : TE} (k : ta σ H fun x H1 => tb σ H1 fun y H2 => r x y H2 fun z H3 => ∃ k, z = .bl k ∧ (if k = true then tc σ H3 fun w' H4 => r' y w' H4 Q else Q (.bl false) H3)) : tChain r r' ta tb tc σ H Q := k
theorem w_vei (k : ta σ H fun vs H1 => ∃ (a C : Addr) (ws : List V), vs = .ref a :: ws ∧ ws.length ≤ 1000 ∧ OexC K C ∧ H1 a = some (exo a C none) ∧ Q .non H1) : tVeI K ta σ H Q := k
theorem w_revL (k : te σ H fun x H1 => ∃ a xs, x = .ref a ∧ SqL K H1 a xs ∧ NewL xs.reverse H1 Q) : tRevL K te σ H Q := k
theorem w_slL {a : Addr} {xs : List V} {lo hi : Option Int} (h : SqL K H a xs) (k : NewL (cutV xs lo hi) H Q) : rSlL K (.ref a) lo hi H Q := ⟨a, xs, rfl, h, k⟩
theorem w_cat {l b : Addr} {xs zs : List V} (h1 : H l = some (.lst xs)) (h2 : H b = some (.lst zs)) (hz : xs.length + zs.length ≤ sizeLine) (k : NewL (xs ++ zs) H Q) : rCat (.ref l) (.ref b) H Q := ⟨l, b, xs, zs, rfl, rfl, h1, h2, hz, k⟩
theorem w_dnew (k : NewD H Q) : tDNewK σ H Q := k
theorem w_disp {trs : List (TE × TE)} (k : ∀ p G, H p = none → Same H G → G p = some (.dK []) → tPairs trs σ G fun ps H2 => H2 p = some (.dK []) ∧ ∃ kvs : List (Key × V), ps = kvs.map (fun kv => (kV kv.1, kv.2)) ∧ kvs.length ≤ 15 ∧ Q (.ref p) (upd H2 p (.dK (mergeK [] kvs)))) : tDisp trs σ H Q := fun p np => k p _ np (same_new np) upd_same
/-- self.f = y of an error that has no dict yet -/
theorem w_ost {f : Str} {nx : L2.St → Hp → Prop} {rt : VK} {bk ct : L2.St → Hp → Prop} (k : te σ H fun y H1 => to σ H1 fun x H2 => ∃ a C : Addr, x = .ref a ∧ OexC K C ∧ PySem.W.findIn K (.ref C) f = some none ∧
  ((H2 a = some (exo a C none) ∧ ∀ dx, H2 dx = none → dx ≠ a → nx σ (upd (upd H2 dx (exd dx [(f, y)])) a (exo a C (some dx)))) ∨
    ∃ (dx : Addr) (fs : List (Str × V)), H2 a = some (exo a C (some dx)) ∧ H2 dx = some (exd dx fs) ∧ fs.length ≤ 900 ∧ nx σ (upd H2 dx (exd dx ((f, y) :: fs))))) : tOst K f to te ⟨nx, rt, bk, ct⟩ σ H := k
end
/-- C.__init__(self, found) -/
def spErr (f : Str) (C : Addr) : Sp := fun vs H Q _ => ∃ (a : Addr) (y : V), vs = [.ref a, y] ∧ H a = some (exo a C none) ∧ ∀ d, H d = none → d ≠ a → Q .non (upd (upd H d (exd d [(f, y)])) a (exo a C (some d)))
/-- a class of errors as the top has made it -/
structure Er (K : PySem.W.Frag) (mg : Str → Option Value) (x f : Str) (C fI : Addr) : Prop where
  mg : mg x = some (.ref C)
  oex : OexC K C
  ini : PySem.W.findIn K (.ref C) "__init__" = some (some (.ref fI))
  ty : PySem.W.typeIn K (.ref fI) = some (.type "function")
  nof : PySem.W.findIn K (.ref C) f = some none
  ei : EI K C
/-- x(e) as a value -/
theorem er_call {X : Cx} {x f : Str} {C fI : Addr} {k : Nat} (T : Er X.K X.mg x f C fI) (G : Kp X.prog X.w X.K X.mg X.base CX0 k fI ["self", "found"] [] (spErr f C)) (hcl : Calm X.A) (hr : Room (k + 1) X.A) :
    CallR X (.ref C) (fun vs H Q => ∃ y, vs = [y] ∧ NewE C f y H Q) := by
  intro pins s σ H vs us Q I r h
  obtain ⟨fd, F, b⟩ := G.ex
  obtain ⟨y, rfl, q⟩ := h
  refine call_err T.oex T.ini T.ty F hcl hr b pass0 pins s σ H [y] us Q I r ⟨(by show 1 ≤ 1000; decide), fun a na => ⟨a, y, rfl, upd_same, fun d nd hd => ⟨rfl, ?_⟩⟩⟩
  have nd' : H d = none := by rw [upd_ne hd] at nd; exact nd
  have e : upd (upd (upd H a (exo a C none)) d (exd d [(f, y)])) a (exo a C (some d)) = upd (upd H d (exd d [(f, y)])) a (exo a C (some d)) := by
    funext z
    unfold upd
    by_cases h1 : z = a
    · rw [if_pos h1, if_pos h1]
    · rw [if_neg h1, if_neg h1, if_neg h1]
  rw [e]
  exact q a d na nd' hd

/-! ### lists and texts -/
theorem map_at {ns : List Int} {k : Int} (h0 : 0 ≤ k) (h : k < (ns.map V.int).length) : ∃ z, z ∈ ns ∧ atI (ns.map V.int) k = some (.int z) := by
  rw [List.length_map] at h
  have hk : k.toNat < ns.length := by omega
  exact ⟨ns[k.toNat], List.getElem_mem _, atI_of h0 (by rw [List.getElem?_map, List.getElem?_eq_getElem hk]; rfl)⟩
theorem pick {ns : List Int} {l : List V} {k : Int} {m : Int} (e : l = ns.map V.int) (h0 : 0 ≤ k) (h1 : k < m) (hm : m ≤ ns.length) : ∃ z, z ∈ ns ∧ atI l k = some (.int z) := by
  subst e
  exact map_at h0 (by rw [List.length_map]; omega)
theorem cut_ints (ns : List Int) (lo hi : Option Int) : ∃ ms : List Int, cutV (ns.map V.int) lo hi = ms.map V.int :=
  ⟨(ns.drop (HT.sIx (ns.map V.int).length 0 lo)).take (HT.sIx (ns.map V.int).length (ns.map V.int).length hi - HT.sIx (ns.map V.int).length 0 lo), by unfold cutV; rw [← List.map_drop, ← List.map_take]⟩
/-- texts of plain signs -/
def Asc (z : Str) : Prop := ∀ c ∈ z.cps.toList, c < 128
theorem asc_ok {z : Str} (h : Asc z) : PyData.strOk z = true := by
  unfold PyData.strOk
  rw [Array.all_eq_true']
  intro c hc
  have := h c (by simpa using hc)
  exact decide_eq_true (by omega)
theorem dp_strs {K : PySem.W.Frag} {H : Hp} : ∀ zs : List Str, DpAll K H (zs.map V.str) (zs.map PyData.str)
  | [] => .nil
  | z :: zs => .cons (.str z) (dp_strs zs)
theorem lay_strs : ∀ {zs : List Str}, (∀ z ∈ zs, Asc z) → PyData.canLayAll0 (zs.map PyData.str) = true
  | [], _ => rfl
  | z :: zs, h => by
    have h1 := asc_ok (h z List.mem_cons_self)
    have h2 := lay_strs fun y hy => h y (List.mem_cons_of_mem _ hy)
    simp only [List.map_cons, PyData.canLayAll0, PyData.canLay0, h1, h2, Bool.and_self]
theorem dep_strs : ∀ zs : List Str, PyData.depthAll (zs.map PyData.str) = 0
  | [] => rfl
  | z :: zs => by simp only [List.map_cons, PyData.depthAll, PyData.depth, dep_strs zs]; rfl
theorem shaped_strs {zs : List Str} (h : ∀ z ∈ zs, Asc z) : SeqAt.shaped (.list (zs.map PyData.str)) = true := by
  unfold SeqAt.shaped
  have h1 := lay_strs h
  have h2 := dep_strs zs
  simp only [PyData.canLay0, PyData.depth, h1, h2]
  decide
theorem eqv_nil (ds : List PyData) : PyData.eqv (.list ds) (.list []) = ds.isEmpty := by cases ds <;> simp [PyData.eqv, PyData.eqvAll]
theorem join_len (a : Str) (ha : a.length = 0) : ∀ ys : List Str, (Str.join a ys).length = (ys.map (·.length)).sum
  | [] => rfl
  | [x] => by show x.length = _; simp
  | x :: y :: r => by
    show (x ++ a ++ Str.join a (y :: r)).length = _
    rw [PySem.strLen_append, PySem.strLen_append, join_len a ha (y :: r), ha]
    simp [List.sum_cons]
theorem join_mem (a : Str) (ha : a.cps.toList = []) : ∀ (ys : List Str) (c : Nat), c ∈ (Str.join a ys).cps.toList → ∃ y ∈ ys, c ∈ y.cps.toList
  | [], c, h => by
    have h' : c ∈ (Str.empty : Str).cps.toList := h
    exact absurd h' (by simp [Str.empty])
  | [x], c, h => ⟨x, List.mem_cons_self, h⟩
  | x :: y :: r, c, h => by
    have h' : c ∈ ((x ++ a) ++ Str.join a (y :: r)).cps.toList := h
    have e : ((x ++ a) ++ Str.join a (y :: r)).cps.toList = x.cps.toList ++ a.cps.toList ++ (Str.join a (y :: r)).cps.toList := by
      show ((x.cps ++ a.cps) ++ _).toList = _
      simp
    rw [e, ha, List.append_nil] at h'
    rcases List.mem_append.mp h' with q | q
    · exact ⟨x, List.mem_cons_self, q⟩
    · obtain ⟨z, hz, hc⟩ := join_mem a ha (y :: r) c q
      exact ⟨z, List.mem_cons_of_mem _ hz, hc⟩
theorem int_sml {n : Int} (h : n.natAbs < 2 ^ 150) : (Str.ofString (toString n)).length ≤ 1000 ∧ Asc (Str.ofString (toString n)) := by
  have h1 : (toString n).length ≤ 151 := int_text_length_le (k := 150) (by decide) (PySem.Flt.log2_lt_of (by decide) h)
  constructor
  · rw [PySem.ofString_length]
    omega
  · intro c hc
    rw [Str.ofString_eq_toList] at hc
    have hc' : c ∈ (toString n).toList.map Char.toNat := by simpa using hc
    obtain ⟨d, hd, rfl⟩ := List.mem_map.mp hc'
    exact int_ascii n d hd
theorem atI_mem {l : List V} {k : Int} (h0 : 0 ≤ k) (h1 : k < (l.length : Int)) : ∃ x, x ∈ l ∧ atI l k = some x := by
  have hk : k.toNat < l.length := by omega
  exact ⟨l[k.toNat], List.getElem_mem _, atI_of h0 (List.getElem?_eq_getElem hk)⟩
/-! ### new things, at a heap of which only that is known -/
section
variable {H : Hp} {Q : VK} {xs : List V}
theorem newL_mk (k : ∀ p G, H p = none → Same H G → G p = some (.lst xs) → Q (.ref p) G) : NewL xs H Q := fun p np => k p _ np (same_new np) upd_same
theorem newT_mk (k : ∀ p G, H p = none → Same H G → G p = some (.tup xs) → Q (.ref p) G) : NewT xs H Q := fun p np => k p _ np (same_new np) upd_same
theorem newD_mk (k : ∀ p G, H p = none → Same H G → G p = some (.dK []) → Q (.ref p) G) : NewD H Q := fun p np => k p _ np (same_new np) upd_same
theorem newE_mk {C : Addr} {f : Str} {y : V} (k : ∀ a d G, H a = none → H d = none → d ≠ a → Same H G → G a = some (exo a C (some d)) → G d = some (exd d [(f, y)]) → Q (.ref a) G) : NewE C f y H Q := fun a d na nd h =>
  k a d _ na nd h (fun b o e => by rw [upd_ne (ne_of_none e na), upd_ne (ne_of_none e nd)]; exact e) upd_same (by rw [upd_ne h, upd_same])
end
/-! ### comprehensions whose turns change nothing that stands -/
section
variable {σ : L2.St} {H : Hp} {Q : VK} {te : TE} {g : TG} {tt : TT} {vs : List Nat} {n : Nat} {Gd : Hp → Prop} {Yd : Nat → V → Prop}
theorem lcs_of {α : Type} (cs : List α) (keep : α → Bool) (f : α → V) (hn : cs.length = n) (hz : n ≤ 100000) (hG : ∀ H', Same H H' → Gd H')
    (turn : ∀ i c x H' (R : VK) (S : Hp → Prop), cs[i]? = some c → Yd i x → Same H H' → (keep c = true → ∀ H4, Same H' H4 → R (f c) H4) → (keep c = false → ∀ H4, Same H' H4 → S H4) →
      g x (wipe σ vs) H' fun σ2 H2 => wipe σ2 vs = wipe σ vs ∧ tt σ2 H2 fun b H3 => if b = true then te σ2 H3 R else S H3)
    (fin : ∀ D H', H D = none → Same H H' → H' D = some (.lst ((cs.filter keep).map f)) → Q (.ref D) H') : Lcs n Gd Yd g tt te vs σ H Q := by
  intro D hD
  refine ⟨fun i H' => Same H H' ∧ H' D = some (.lst (((cs.take i).filter keep).map f)), ⟨same_new hD, upd_same⟩, fun i H' _ p => hG H' p.1, ?_, fun H' p => ?_⟩
  · rintro i x H' hi hy ⟨s1, d1⟩
    obtain ⟨c, hc⟩ : ∃ c, cs[i]? = some c := ⟨cs[i]'(by omega), List.getElem?_eq_getElem (by omega)⟩
    have e : cs.take (i + 1) = cs.take i ++ [c] := by rw [List.take_add_one, hc]; rfl
    refine turn i c x H' _ _ hc hy s1 (fun hk H4 s2 => ?_) (fun hk H4 s2 => ?_)
    · refine ⟨_, s2 _ _ d1, ?_, ?_, ?_⟩
      · rw [List.length_map]
        have h1 := List.length_filter_le keep (cs.take i)
        rw [List.length_take] at h1
        rw [sizeLine_eq]
        omega
      · intro b o q
        have nb : b ≠ D := ne_of_none q hD
        rw [upd_ne nb]
        exact s2 _ _ (s1 _ _ q)
      · rw [upd_same, e, List.filter_append, List.map_append]
        simp [hk]
    · refine ⟨s1.trans s2, ?_⟩
      rw [e, List.filter_append]
      simp [hk]
      exact s2 _ _ d1
  · obtain ⟨s1, d1⟩ := p
    rw [List.take_of_length_le (by omega)] at d1
    exact fin D H' hD s1 d1
end
theorem Bt.put {p q : Addr} {H H' : Hp} {o : HO} (e : Bt p H H') (h : H q = none) : Bt p H (upd H' q o) := fun b u n k => by rw [upd_ne (ne_of_none k h)]; exact e b u n k
theorem Bg.put {H : Hp} {p q : Addr} {c : Int} {o : HO} (h : Bg H p c) (n : q ≠ p) : Bg (upd H q o) p c := by
  obtain ⟨a, b, k, h1, r⟩ := h
  exact ⟨a, b, k, by rw [upd_ne n.symm]; exact h1, r⟩
theorem keep_all {α : Type} (cs : List α) : cs.filter (fun _ => true) = cs := by simp
theorem Kn.same {K : PySem.W.Frag} {p : Addr} {H H' : Hp} {v : V} (h : Kn K p H v) (e : Same H H') : Kn K p H' v := h.mono (.of e)
end Dz

set_option Elab.async false
set_option linter.all false
set_option maxRecDepth 100000
set_option maxHeartbeats 2000000
/-! Keywords, defaults; two targets at once. -/
namespace Dz
open PySem PySem.Spec PyProof.Rows L2
/-- a def with defaults that keeps its promise -/
structure Kx (P : Program) (w : World) (K : PySem.W.Frag) (mg : Str → Option Value) (base : Heap) (CX : CXT) (k : Nat) (x qual : Str) (st : Stmt) (dvs : List V) (kws : List (Str × V)) (f : Addr) (ps : List Str) (sp : Sp) : Prop where
  ex : ∃ fd, FnG P w K mg base CX k f fd ps sp ∧ FunD K x qual (defArgs st) (defBody st) (defScope st) dvs kws f fd
/-- such a def of the module -/
structure Dx (K : PySem.W.Frag) (mg : Str → Option Value) (x : Str) (st : Stmt) (dvs : List V) (kws : List (Str × V)) (f : Addr) : Prop where
  ex : ∃ fd, FunD K x x (defArgs st) (defBody st) (defScope st) dvs kws f fd
  mg : mg x = some (.ref f)
  kp : PySem.W.keepIn K (.ref f) = true
/-- f called with n values and the keywords ks -/
def CallKR (X : Cx) (f : Value) (n : Nat) (ks : List Str) (r : List V → List V → Hp → VK → Prop) : Prop :=
  ∀ (pins : List (Addr × Obj)) (s : Shared) (σ : L2.St) (H : Hp) (vs zs : List V) (us ws : List Value) (Q : VK), Inv X pins σ H s → Vals vs us → Vals zs ws → vs.length = n → zs.length = ks.length → r vs zs H Q →
    wpAny (model X.prog X.w) X.A (call f us (ks.zip ws)) (EP X pins σ Q) X.xe s
section
variable {X : Cx} {CX : CXT} {k n : Nat} {f : Addr} {fd : FuncData} {ps ks : List Str} {sp : Sp} {E : XK} {x : Str} {p pos : Pos} {e : Expr} {es : List Expr} {kws : List Keyword} {t tk : TA} {g : List Value → List Value → List Value} {gV : List V → List V → List V}
  {r : List V → List V → Hp → VK → Prop}
theorem callKR_fn (F : FnG X.prog X.w X.K X.mg X.base CX k f fd ps sp) (hg : Calm X.A) (hr : Room k X.A) (hb : KBn X.K fd ps n ks g gV) (hx : Passes CX X E) : CallKR X (.ref f) n ks (fun vs zs H Q => sp (gV vs zs) H Q E) := by
  intro pins s σ H vs zs us ws Q I rv rz l1 l2 h
  refine wpAny_call (codeAny_mono (F.go X.A X.stack s H ⟨us, ks.zip ws⟩ (g us ws) (gV vs zs) Q E hg hr I.env0 (hb.to s us ws I.kIn (rv.length.symm.trans l1) (rz.length.symm.trans l2)) (hb.rel rv rz) h) ?_)
  intro rs s' hq
  match rs, hq with
  | .error e, hq => exact hx pins σ H s e s' I hq
  | .ok (.ret u), hq => exact I.after hq
/-- the call with keywords: the values, the keywords' values, how many of each -/
def tCK (n m : Nat) (r : List V → List V → Hp → VK → Prop) (t tk : TA) : TE := fun σ H Q => t σ H fun vs H1 => tk σ H1 fun zs H2 => vs.length = n ∧ zs.length = m ∧ r vs zs H2 Q
theorem pe_fnK (hc : CallKR X (.ref f) n ks r) (hl : Gl X x) (hm : X.mg x = some (.ref f)) (hk : PySem.W.keepIn X.K (.ref f) = true) (ha : PA X (e :: es) t) (hkw : PK X kws tk)
    (hall : (backToKw pos (keywordEach kws X.env)).all (·.1.isSome) = true := by rfl) (hks : (backToKw pos (keywordEach kws X.env)).filterMap (·.1) = ks := by rfl) (hdb : (x == ("__debug__" : Str)) = false := by decide)
    (he : starEach (e :: es) X.env = (false, eval e X.env) :: starEach es X.env := by rfl) (hpl : ((backTo pos (starEach (e :: es) X.env)).any (·.1) || (backToKw pos (keywordEach kws X.env)).any (·.1.isNone)) = false := by rfl) :
    PE X (.Call (.Name x p) (e :: es) kws pos) (tCK n ks.length r t tk) := by
  constructor
  intro pins s σ H Q I h
  refine wpAny_Call_Name_kw (ld_glob I hl hm ?_ hdb)
  refine PySem.W.callWith_KW (h₀ := X.base) I.ok.mod.kin hk hall (thn (ha.run pos pins s σ H _ I h) ?_) hpl he
  rintro us s1 ⟨vs, H1, I1, rv, q⟩
  refine thn (hkw.run pos pins s1 σ H1 _ I1 q) ?_
  rintro ws s2 ⟨zs, H2, I2, rz, l1, l2, q2⟩
  refine ⟨I2.kIn, ?_⟩
  rw [hks]
  exact hc pins s2 σ H2 vs zs us ws Q I2 rv rz l1 l2 q2
theorem pe_fnK0 (hc : CallKR X (.ref f) 0 ks r) (hl : Gl X x) (hm : X.mg x = some (.ref f)) (hk : PySem.W.keepIn X.K (.ref f) = true) (hkw : PK X kws tk)
    (hall : (backToKw pos (keywordEach kws X.env)).all (·.1.isSome) = true := by rfl) (hks : (backToKw pos (keywordEach kws X.env)).filterMap (·.1) = ks := by rfl) (hdb : (x == ("__debug__" : Str)) = false := by decide)
    (hpl : ((backTo pos (starEach [] X.env)).any (·.1) || (backToKw pos (keywordEach kws X.env)).any (·.1.isNone)) = false := by rfl) :
    PE X (.Call (.Name x p) [] kws pos) (tCK 0 ks.length r tNil tk) := by
  constructor
  intro pins s σ H Q I h
  refine wpAny_Call_Name_kw (ld_glob I hl hm ?_ hdb)
  refine PySem.W.callWith_KW0 (h₀ := X.base) I.ok.mod.kin hk hall ?_ hpl
  refine thn (hkw.run pos pins s σ H _ I h) ?_
  rintro ws s2 ⟨zs, H2, I2, rz, l1, l2, q2⟩
  refine ⟨I2.kIn, ?_⟩
  rw [hks]
  exact hc pins s2 σ H2 [] zs [] ws Q I2 .nil rz l1 l2 q2
end
/-! ### binding -/
section
variable {K : PySem.W.Frag} {x qual : Str} {params : Arguments} {body : List Stmt} {scope : Scope} {dvs : List V} {kws : List (Str × V)} {f : Addr} {fd : FuncData} {ps : List Str}
/-- keyword-only defaults alone; ms: those that lack -/
theorem kb_k (F : FunD K x qual params body scope [] kws f fd) (n : Nat) (ks : List Str) (ms : List (Str × V)) (g : {α : Type} → List α → List α → List α → List α) (hk : kws ≠ []) (hms : ∀ q ∈ ms, q ∈ kws)
    (hrel : ∀ {vs mz zs : List V} {us mv ws : List Value}, Vals vs us → Vals mz mv → Vals zs ws → Vals (g vs mz zs) (g us mv ws))
    (h : ∀ (D : Addr) (doc pm : Value) (an : Option Addr) (cdv ct : Value) (us mv ws : List Value), us.length = n → mv.length = ms.length → ws.length = ks.length →
      KwChain D ((ms.map (·.1)).zip mv) (bindArgs (PySem.W.fnOf x qual params body scope .none (.ref D) doc pm an cdv ct) ⟨us, ks.zip ws⟩) (ps.zip (g us mv ws))) :
    ∃ mv : List Value, KBn K fd ps n ks (fun us ws => g us mv ws) (fun vs zs => g vs (ms.map (·.2)) zs) := by
  obtain ⟨oc, od, dV, kV, doc, pm, an, cdv, ct, osl, rfl, lk, hcd, hD, hK⟩ := F.ex
  rcases hD with ⟨_, rfl⟩ | ⟨z, _⟩
  · rcases hK with z | ⟨D, rfl, hq⟩
    · exact absurd z hk
    · obtain ⟨mv, hl, rk, hks⟩ := kwd_vals (ms := ms) fun q hm => hq q (hms q hm)
      exact ⟨mv, fun s us ws X l1 l2 => BindsTo.of_looks fun M => KwChain.looks X hks (h D doc pm an cdv ct us mv ws l1 hl l2), fun r1 r2 => hrel r1 rk r2⟩
  · exact absurd rfl z
/-- defaults by place alone -/
theorem kb_d (F : FunD K x qual params body scope dvs [] f fd) (n : Nat) (ks : List Str) (g : {α : Type} → List α → List α → List α → List α) (hd : dvs ≠ [])
    (hrel : ∀ {vs ds zs : List V} {us its ws : List Value}, Vals vs us → Vals ds its → Vals zs ws → Vals (g vs ds zs) (g us its ws))
    (h : ∀ (T : Addr) (kV doc pm : Value) (an : Option Addr) (cdv ct : Value) (us its ws : List Value), us.length = n → its.length = dvs.length → ws.length = ks.length →
      ∃ k, bindArgs (PySem.W.fnOf x qual params body scope (.ref T) kV doc pm an cdv ct) ⟨us, ks.zip ws⟩ = seqItems? (.ref T) >>= k ∧ k (some its.toArray) = pure (ps.zip (g us its ws))) :
    ∃ its : List Value, KBn K fd ps n ks (fun us ws => g us its ws) (fun vs zs => g vs dvs zs) := by
  obtain ⟨oc, od, dV, kV, doc, pm, an, cdv, ct, osl, rfl, lk, hcd, hD, hK⟩ := F.ex
  rcases hD with ⟨z, _⟩ | ⟨_, T, o, its, m, rfl, lT, oT, rT⟩
  · exact absurd z hd
  · refine ⟨its, fun s us ws X l1 l2 => ?_, fun r1 r2 => hrel r1 rT r2⟩
    obtain ⟨k, e1, e2⟩ := h T kV doc pm an cdv ct us its ws l1 rT.length.symm l2
    refine BindsTo.of_looks fun M => ?_
    rw [e1]
    exact looks_items X lT oT (.of_pure e2)
/-- keywords where nothing is left out -/
theorem kb_n (F : FunD K x qual params body scope dvs kws f fd) (n : Nat) (ks : List Str) (g : {α : Type} → List α → List α → List α)
    (hrel : ∀ {vs zs : List V} {us ws : List Value}, Vals vs us → Vals zs ws → Vals (g vs zs) (g us ws))
    (h : ∀ (dV kV doc pm : Value) (an : Option Addr) (cdv ct : Value) (us ws : List Value), us.length = n → ws.length = ks.length →
      bindArgs (PySem.W.fnOf x qual params body scope dV kV doc pm an cdv ct) ⟨us, ks.zip ws⟩ = pure (ps.zip (g us ws))) :
    KBn K fd ps n ks (fun us ws => g us ws) (fun vs zs => g vs zs) := by
  obtain ⟨oc, od, dV, kV, doc, pm, an, cdv, ct, osl, rfl, lk, hcd, hD, hK⟩ := F.ex
  exact ⟨fun s us ws X l1 l2 => .of_eq (h dV kV doc pm an cdv ct us ws l1 l2), fun r1 r2 => hrel r1 r2⟩
end
/-- a list's items by their places -/
def perm {α : Type} (is : List Nat) (l : List α) : List α := is.filterMap fun i => l[i]?
theorem vals_perm {xs : List V} {us : List Value} (r : Vals xs us) : ∀ is : List Nat, Vals (perm is xs) (perm is us)
  | [] => .nil
  | i :: is => by
    have t := vals_perm r is
    cases e : xs[i]? with
    | none =>
      have e2 := r.none_of e
      have h1 : perm (i :: is) xs = perm is xs := by unfold perm; rw [List.filterMap_cons_none e]
      have h2 : perm (i :: is) us = perm is us := by unfold perm; rw [List.filterMap_cons_none e2]
      rw [h1, h2]
      exact t
    | some x =>
      obtain ⟨u, e2, rx⟩ := r.get e
      have h1 : perm (i :: is) xs = x :: perm is xs := by unfold perm; rw [List.filterMap_cons_some e]
      have h2 : perm (i :: is) us = u :: perm is us := by unfold perm; rw [List.filterMap_cons_some e2]
      rw [h1, h2]
      exact .cons rx t
theorem callKR_x {X : Cx} {CX : CXT} {k n : Nat} {x qual : Str} {st : Stmt} {dvs : List V} {kws : List (Str × V)} {f : Addr} {ps ks : List Str} {sp : Sp} {E : XK} {gV : List V → List V → List V}
    (G : Kx X.prog X.w X.K X.mg X.base CX k x qual st dvs kws f ps sp) (hg : Calm X.A) (hr : Room k X.A) (hb : ∀ fd, FunD X.K x qual (defArgs st) (defBody st) (defScope st) dvs kws f fd → ∃ g, KBn X.K fd ps n ks g gV) (hx : Passes CX X E) :
    CallKR X (.ref f) n ks (fun vs zs H Q => sp (gV vs zs) H Q E) := by
  obtain ⟨fd, F, D⟩ := G.ex
  obtain ⟨g, b⟩ := hb fd D
  exact callKR_fn F hg hr b hx
theorem callR_x {X : Cx} {CX : CXT} {k : Nat} {x qual : Str} {st : Stmt} {dvs ms : List V} {kws : List (Str × V)} {f : Addr} {ps : List Str} {sp : Sp} {E : XK}
    (G : Kx X.prog X.w X.K X.mg X.base CX k x qual st dvs kws f ps sp) (hg : Calm X.A) (hr : Room k X.A) (hb : ∀ fd, FunD X.K x qual (defArgs st) (defBody st) (defScope st) dvs kws f fd → ∃ ds, Vals ms ds ∧ Binds X.K fd ps ds) (hx : Passes CX X E) :
    CallR X (.ref f) (fun vs H Q => sp (vs ++ ms) H Q E) := by
  obtain ⟨fd, F, D⟩ := G.ex
  obtain ⟨ds, r, b⟩ := hb fd D
  exact callR_fn F hg hr b r hx
section
variable {σ : L2.St} {H : Hp} {Q : VK} {t tk : TA} {i j : Nat} {nx : L2.St → Hp → Prop} {rt : VK} {bk ct : L2.St → Hp → Prop}
theorem w_ck {n m : Nat} {r : List V → List V → Hp → VK → Prop} (k : t σ H fun vs H1 => tk σ H1 fun zs H2 => vs.length = n ∧ zs.length = m ∧ r vs zs H2 Q) : tCK n m r t tk σ H Q := k
theorem w_ckl {vs zs : List V} {n m : Nat} {P : Prop} (h1 : vs.length = n) (h2 : zs.length = m) (k : P) : vs.length = n ∧ zs.length = m ∧ P := ⟨h1, h2, k⟩
theorem w_par (k : t σ H fun vs H1 => ∃ v w, vs = [v, w] ∧ nx ((σ.set i (some v)).set j (some w)) H1) : tPar i j t ⟨nx, rt, bk, ct⟩ σ H := k
theorem w_pair {Q : V → V → Prop} {v w : V} (k : Q v w) : ∃ a b, [v, w] = [a, b] ∧ Q a b := ⟨v, w, rfl, k⟩
theorem w_isN {x : V} (k : Q (.bl (decide (x = .non))) H) : (V.non = .non ∧ Q (.bl (decide (x = .non))) H) := ⟨rfl, k⟩
end
/-- a def with defaults, by its body's walk where no repr is under way and nothing is raised -/
theorem fnG_D {P : Program} {w : World} {K : PySem.W.Frag} {mg : Str → Option Value} {base : Heap} {CX : CXT} {x qual : Str} {params : Arguments} {body : List Stmt} {scope : Scope} {dvs : List V} {kws : List (Str × V)} {f : Addr} {fd : FuncData} {N ps : List Str} {k : Nat} {sp : Sp}
    (F : FunD K x qual params body scope dvs kws f fd) (S : FnScope N ps scope) (len : ∀ vs H Q E, sp vs H Q E → vs.length = ps.length)
    (walk : ∀ (cdv : Value) (A : Around) (outer : List Env) (s : Shared) (H : Hp) (vs : List V) (Q : VK) (E : XK), Calm A → Room k (A.deeper (envOfC qual scope s.heap.objs.size f cdv)) → sp vs H Q E →
      ∃ t, PSs (cxOf CX P w K mg base N qual scope f cdv A outer s H E) body t ∧ t { nx := fun _ H' => Q .non H', rt := Q } (start N vs) H) :
    FnG P w K mg base CX (k + 1) f fd ps sp := by
  obtain ⟨oc, od, dV, kV, doc, pm, an, cdv, ct, osl, rfl, lk, hcd, _, _⟩ := F.ex
  exact fnG_at lk hcd S len fun A outer s H vs Q E hg hr hsp => walk cdv A outer s H vs Q E hg hr hsp
theorem fnG_Dnx {P : Program} {w : World} {K : PySem.W.Frag} {mg : Str → Option Value} {base : Heap} {x qual : Str} {params : Arguments} {body : List Stmt} {scope : Scope} {dvs : List V} {kws : List (Str × V)} {f : Addr} {fd : FuncData} {N ps : List Str} {k : Nat} {sp : Sp}
    (F : FunD K x qual params body scope dvs kws f fd) (S : FnScope N ps scope) (len : ∀ vs H Q E, sp vs H Q E → vs.length = ps.length)
    (walk : ∀ (cdv : Value) (A : Around) (outer : List Env) (s : Shared) (H : Hp) (vs : List V) (Q : VK) (E : XK), Calm A → Room k (A.deeper (envOfC qual scope s.heap.objs.size f cdv)) → sp vs H Q E →
      ∃ t, PSs (cxOf CX0 P w K mg base N qual scope f cdv A outer s H E).nox body t ∧ t { nx := fun _ H' => Q .non H', rt := Q } (start N vs) H) :
    FnG P w K mg base CX0 (k + 1) f fd ps sp := fnG_D F S len fun cdv A outer s H vs Q E hg hr hsp => by
  obtain ⟨t, h, q⟩ := walk cdv A outer s H vs Q E hg hr hsp
  exact ⟨t, h.nox, q⟩
end Dz

set_option Elab.async false
set_option linter.all false
set_option maxRecDepth 100000
set_option maxHeartbeats 2000000
/-! Texts; how long repr's texts are; further steps. -/
namespace Dz
open PySem PySem.Spec PyProof.Rows L2
theorem asc_empty : Asc "" := by
  intro c hc
  have e : (Str.ofString "").cps.toList = [] := rfl
  rw [e] at hc
  cases hc
theorem at_sign {z : Str} {k : Int} (h0 : 0 ≤ k) (h1 : k < z.length) : ∃ c, c ∈ z.cps.toList ∧ atI z.cps.toList k = some c := by
  have hk : k.toNat < z.cps.toList.length := by
    have : z.cps.toList.length = z.length := by simp [Str.length]
    omega
  have e : k = ((k.toNat : Nat) : Int) := (Int.toNat_of_nonneg h0).symm
  obtain ⟨n, hn⟩ : ∃ n : Nat, n = k.toNat := ⟨_, rfl⟩
  rw [← hn] at e hk
  rw [e]
  exact ⟨z.cps.toList[n], List.getElem_mem _, atI_nat (List.getElem?_eq_getElem hk)⟩
/-- texts of one plain sign each -/
def One (zs : List Str) : Prop := ∀ z ∈ zs, z.length = 1 ∧ Asc z
theorem one_nil : One [] := fun _ h => nomatch h
theorem one_sum : ∀ {zs : List Str}, One zs → (zs.map (·.length)).sum = zs.length
  | [], _ => rfl
  | z :: zs, h => by
    rw [List.map_cons, List.sum_cons, (h z List.mem_cons_self).1, one_sum fun y hy => h y (List.mem_cons_of_mem _ hy), List.length_cons]
    omega
theorem one_set {zs : List Str} {j : Nat} {y : Str} (h : One zs) (hy : y.length = 1 ∧ Asc y) : One (zs.set j y) := fun z hz => by
  rcases List.mem_or_eq_of_mem_set hz with q | q
  · exact h z q
  · rw [q]; exact hy
theorem one_more {zs : List Str} {y : Str} (h : One zs) (hy : y.length = 1 ∧ Asc y) : One (zs ++ [y]) := fun z hz => by
  rcases List.mem_append.mp hz with q | q
  · exact h z q
  · rw [List.mem_singleton.mp q]; exact hy
theorem one_join {zs : List Str} (h : One zs) : (Txt.join "" zs).length = zs.length ∧ Asc (Txt.join "" zs) := by
  rw [TL.join_eq]
  refine ⟨(join_len "" rfl zs).trans (one_sum h), fun c hc => ?_⟩
  obtain ⟨y, hy, hc'⟩ := join_mem "" rfl zs c hc
  exact (h y hy).2 c hc'
theorem one_sign {c : Nat} (h : c < 128) : (⟨#[c]⟩ : Str).length = 1 ∧ Asc ⟨#[c]⟩ := ⟨rfl, fun d hd => by
  have : d = c := by simpa using hd
  rw [this]; exact h⟩
theorem asc_app {x y : Str} (hx : Asc x) (hy : Asc y) : Asc (x ++ y) := fun c hc => by
  have e : (x ++ y).cps.toList = x.cps.toList ++ y.cps.toList := by
    show (x.cps ++ y.cps).toList = _
    simp
  rw [e] at hc
  rcases List.mem_append.mp hc with h | h
  · exact hx c h
  · exact hy c h
theorem cut_mem {z : Str} {lo hi : Option Int} {c : Nat} (h : c ∈ (cutS z lo hi).cps.toList) : c ∈ z.cps.toList := by
  unfold cutS at h
  have h' : c ∈ (z.cps.toList.drop (HT.sIx z.length 0 lo)).take (HT.sIx z.length z.length hi - HT.sIx z.length 0 lo) := by simpa using h
  exact List.mem_of_mem_drop (List.mem_of_mem_take h')
theorem asc_cut {z : Str} {lo hi : Option Int} (h : Asc z) : Asc (cutS z lo hi) := fun c hc => h c (cut_mem hc)
/-! ### how long a shown thing is -/
theorem sh_list {ds : List PyData} {B : Nat} (h : ∀ d ∈ ds, d.shown.length ≤ B) : (PyData.list ds).shown.length ≤ (B + 2) * ds.length + 3 := by
  have h1 := listText_len_le (PyData.shownAll ds)
  have h2 : ∀ l : List PyData, (∀ d ∈ l, d.shown.length ≤ B) → ((PyData.shownAll l).map (·.length)).sum ≤ B * l.length := by
    intro l
    induction l with
    | nil => intro _; simp [PyData.shownAll]
    | cons d l ih =>
      intro hl
      have a := hl d List.mem_cons_self
      have b := ih fun e he => hl e (List.mem_cons_of_mem _ he)
      simp only [PyData.shownAll, List.map_cons, List.sum_cons, List.length_cons]
      rw [Nat.mul_add]
      omega
  have h3 := h2 ds h
  have h4 := PyData.shownAll_length ds
  show (listText (PyData.shownAll ds)).length ≤ _
  rw [Nat.add_mul]
  omega
theorem sh_tup {ds : List PyData} {B : Nat} (h : ∀ d ∈ ds, d.shown.length ≤ B) : (PyData.tuple ds).shown.length ≤ (B + 2) * ds.length + 3 := by
  have h1 := tupleText_len_le (PyData.shownAll ds)
  have h2 : ∀ l : List PyData, (∀ d ∈ l, d.shown.length ≤ B) → ((PyData.shownAll l).map (·.length)).sum ≤ B * l.length := by
    intro l
    induction l with
    | nil => intro _; simp [PyData.shownAll]
    | cons d l ih =>
      intro hl
      have a := hl d List.mem_cons_self
      have b := ih fun e he => hl e (List.mem_cons_of_mem _ he)
      simp only [PyData.shownAll, List.map_cons, List.sum_cons, List.length_cons]
      rw [Nat.mul_add]
      omega
  have h3 := h2 ds h
  have h4 := PyData.shownAll_length ds
  show (tupleText (PyData.shownAll ds)).length ≤ _
  rw [Nat.add_mul]
  omega
theorem sh_int {i : Int} (h : i.natAbs.log2 < 1920) : (PyData.int i).shown.length ≤ 1921 := by
  have := int_text_length_le (a := i) (k := 1920) (by decide) h
  show (Str.ofString (toString i)).length ≤ _
  rw [PySem.ofString_length]
  exact this
theorem sh_none : (PyData.none).shown.length ≤ 1921 := by decide +kernel
theorem sh_bool (b : Bool) : (PyData.bool b).shown.length ≤ 1921 := by cases b <;> decide +kernel
theorem sh_str {x : Str} (h : Asc x) : (PyData.str x).shown.length ≤ 10 * x.length + 2 := by
  have := StrLaws.reprText_len x fun c hc => Nat.lt_of_lt_of_le (h c hc) (by decide)
  show (reprText x).length ≤ _
  omega
section
variable {σ : L2.St} {H : Hp} {Q : VK} {te tl to : TE} {t : TA} {K : PySem.W.Frag}
theorem w_slS {z : Str} {lo hi : Option Int} (hz : z.length ≤ sizeLine) (k : Q (.str (cutS z lo hi)) H) : rSlS (.str z) lo hi H Q := ⟨z, rfl, hz, k⟩
theorem w_ixS {z : Str} {i : Int} {c : Nat} (hz : z.length ≤ sizeLine) (ha : atI z.cps.toList i = some c) (k : Q (.str ⟨#[c]⟩) H) : rIxS (.str z) (.int i) H Q := ⟨z, i, c, rfl, rfl, hz, ha, k⟩
theorem w_nn {P : Prop} (k : P) : V.non = V.non ∧ P := ⟨rfl, k⟩
theorem w_bm {T : String} {r : V → List V → Hp → VK → Prop} (k : to σ H fun x H1 => tyV K T x H1 ∧ t σ H1 fun xs H2 => r x xs H2 Q) : tBM K T r to t σ H Q := k
theorem w_bm0 {T : String} {r : V → List V → Hp → VK → Prop} (k : to σ H fun x H1 => tyV K T x H1 ∧ r x [] H1 Q) : tBM0 K T r to σ H Q := k
theorem w_tyL {l : Addr} {xs : List V} {P : Prop} (h : H l = some (.lst xs)) (k : P) : tyV K "list" (.ref l) H ∧ P := ⟨Or.inl ⟨rfl, _, Or.inl (Or.inl h)⟩, k⟩
theorem w_append {l : Addr} {xs : List V} {y : V} (h : H l = some (.lst xs)) (hz : xs.length < sizeLine) (k : Q .non (upd H l (.lst (xs ++ [y])))) : rAppend (.ref l) [y] H Q := ⟨l, xs, y, rfl, rfl, h, hz, k⟩
end
end Dz

set_option Elab.async false
set_option linter.all false
set_option maxRecDepth 100000
set_option maxHeartbeats 2000000
/-! What repr can show, with bounds. -/
namespace Dz
open PySem PySem.Spec PyProof.Rows L2
/-- data that repr shows: at most B signs, at most k deep -/
structure Sh (d : PyData) (B k : Nat) : Prop where
  ok : d.showable = true
  nd : d.hasDict = false
  dp : d.depth ≤ k
  ln : d.shown.length ≤ B
theorem Sh.more {d : PyData} {B k B' k' : Nat} (h : Sh d B k) (e : B ≤ B' := by omega) (f : k ≤ k' := by omega) : Sh d B' k' := ⟨h.ok, h.nd, Nat.le_trans h.dp f, Nat.le_trans h.ln e⟩
theorem Sh.int {i : Int} (h : i.natAbs.log2 < 1920) : Sh (.int i) 1921 0 := ⟨decide_eq_true h, rfl, Nat.le_refl 0, sh_int h⟩
theorem Sh.small {i : Int} (h : i.natAbs < 2 ^ 64) : Sh (.int i) 1921 0 := .int (Nat.lt_of_lt_of_le (PySem.Flt.log2_lt_of (k := 64) (by decide) h) (by decide))
theorem Sh.non : Sh .none 1921 0 := ⟨rfl, rfl, Nat.le_refl 0, sh_none⟩
theorem Sh.bl (b : Bool) : Sh (.bool b) 1921 0 := ⟨rfl, rfl, Nat.le_refl 0, sh_bool b⟩
theorem Sh.str {x : Str} (h : Asc x) : Sh (.str x) (10 * x.length + 2) 0 := ⟨rfl, rfl, Nat.le_refl 0, sh_str h⟩
theorem sh_all {ds : List PyData} {B k : Nat} (h : ∀ d ∈ ds, Sh d B k) : PyData.showableAll ds = true ∧ PyData.hasDictAll ds = false ∧ PyData.depthAll ds ≤ k := by
  induction ds with
  | nil => exact ⟨rfl, rfl, Nat.zero_le _⟩
  | cons d ds ih =>
    have a := h d List.mem_cons_self
    obtain ⟨b1, b2, b3⟩ := ih fun e he => h e (List.mem_cons_of_mem _ he)
    refine ⟨?_, ?_, ?_⟩
    · show (d.showable && PyData.showableAll ds) = true
      rw [a.ok, b1]; rfl
    · show (d.hasDict || PyData.hasDictAll ds) = false
      rw [a.nd, b2]; rfl
    · show max d.depth (PyData.depthAll ds) ≤ k
      have := a.dp
      omega
theorem Sh.list {ds : List PyData} {B k : Nat} (h : ∀ d ∈ ds, Sh d B k) : Sh (.list ds) ((B + 2) * ds.length + 3) (k + 1) := by
  obtain ⟨b1, b2, b3⟩ := sh_all h
  exact ⟨b1, b2, Nat.succ_le_succ b3, sh_list fun d hd => (h d hd).ln⟩
theorem Sh.tup {ds : List PyData} {B k : Nat} (h : ∀ d ∈ ds, Sh d B k) : Sh (.tuple ds) ((B + 2) * ds.length + 3) (k + 1) := by
  obtain ⟨b1, b2, b3⟩ := sh_all h
  exact ⟨b1, b2, Nat.succ_le_succ b3, sh_tup fun d hd => (h d hd).ln⟩
theorem w_show {K : PySem.W.Frag} {H : Hp} {Q : VK} {v : V} {d : PyData} {B k : Nat} (dp : Dp K H v d) (s : Sh d B k) (q : Q (.str d.shown) H) (hk : k ≤ 60 := by decide) (hB : B ≤ 16777216 := by decide) : rShow K [v] H Q :=
  ⟨v, d, rfl, dp, s.ok, s.nd, Nat.le_trans s.dp hk, Nat.le_trans s.ln (Nat.le_trans hB (by decide)), q⟩
/-- lists of texts -/
theorem pickS {zs : List Str} {l : List V} {k m : Int} (e : l = zs.map V.str) (h0 : 0 ≤ k) (h1 : k < m) (hm : m ≤ zs.length) : ∃ z, z ∈ zs ∧ atI l k = some (.str z) := by
  subst e
  have hk : k.toNat < zs.length := by omega
  exact ⟨zs[k.toNat], List.getElem_mem _, atI_of h0 (by rw [List.getElem?_map, List.getElem?_eq_getElem hk]; rfl)⟩
theorem cut_len (a : Str) (lo hi : Option Int) : (cutS a lo hi).length ≤ a.length := by
  have e : (cutS a lo hi).length = ((a.cps.toList.drop (HT.sIx a.length 0 lo)).take (HT.sIx a.length a.length hi - HT.sIx a.length 0 lo)).length := by
    show Array.size _ = _
    simp [cutS]
  rw [e, List.length_take, List.length_drop]
  have : a.cps.toList.length = a.length := Array.length_toList
  omega
theorem app_len (x y : Str) : (x ++ y).length = x.length + y.length := PySem.strLen_append x y
/-- the rest, once for two ways to it (by `apply`: P is found by the first `exact rest`) -/
theorem w_both {P G : Prop} (k : P → G) (h : P) : G := k h
end Dz

set_option Elab.async false
set_option linter.all false
set_option maxRecDepth 100000
set_option maxHeartbeats 2000000
local macro_rules | `(tactic| walk_at "vc1") => `(tactic| first
  | with_reducible refine Dz.w_seq ?_
  | with_reducible refine Dz.w_asg ?_
  | with_reducible refine Dz.w_gn ?_
  | with_reducible refine Dz.w_gsub ?_
  | with_reducible refine Dz.w_ret ?_
  | with_reducible refine Dz.w_drop ?_
  | with_reducible refine Dz.w_ifS ?_
  | with_reducible refine Dz.w_next ?_
  | ((with_reducible refine Dz.w_varE ?_); (refine ⟨_, rfl, ?_⟩))
  | with_reducible refine Dz.w_c ?_
  | with_reducible refine Dz.w_op ?_
  | with_reducible refine Dz.w_un ?_
  | with_reducible refine Dz.w_rI0 ?_
  | with_reducible refine Dz.w_rU ?_
  | with_reducible refine Dz.w_nil ?_
  | with_reducible refine Dz.w_cons ?_
  | with_reducible refine Dz.w_lst ?_
  | with_reducible refine Dz.w_tup ?_
  | with_reducible refine Dz.w_cb ?_
  | with_reducible refine Dz.w_test ?_
  | with_reducible refine Dz.w_B ?_
  | with_reducible refine Dz.w_bl ?_
  | with_reducible refine Dz.w_notV ?_
  | with_reducible refine Dz.w_andV ?_
  | with_reducible refine Dz.w_orV ?_
  | with_reducible refine Dz.w_not ?_
  | with_reducible refine Dz.w_and ?_
  | with_reducible refine Dz.w_or ?_
  | with_reducible refine Dz.w_ifE ?_
  | with_reducible refine Dz.w_lc ?_
  | with_reducible refine Dz.w_for ?_
  | with_reducible refine Dz.w_iR1 ?_
  | with_reducible refine Dz.w_iL ?_
  | with_reducible refine Dz.w_iT ?_
  | with_reducible refine Dz.w_iS ?_
  | with_reducible refine Dz.w_gcons ?_
  | with_reducible refine Dz.w_gnil ?_
  | with_reducible refine Dz.w_tyes ?_
  | with_reducible refine Dz.w_sl ?_
  | with_reducible refine Dz.w_nopart ?_
  | with_reducible refine Dz.w_part ?_
  | with_reducible refine Dz.w_int ?_
  | with_reducible refine Dz.w_m1 ?_
  | with_reducible refine Dz.w_strA ?_
  | with_reducible refine Dz.w_chain ?_
  | with_reducible refine Dz.w_vei ?_
  | with_reducible refine Dz.w_revL ?_
  | with_reducible refine Dz.w_dnew ?_
  | with_reducible refine Dz.w_ost ?_
  | with_reducible refine Dz.w_ck ?_
  | with_reducible refine Dz.w_par ?_
  | with_reducible refine Dz.w_pair ?_
  | with_reducible refine Dz.w_bm ?_
  | with_reducible refine Dz.w_bm0 ?_
  | with_reducible refine Dz.w_nn ?_
  | ((with_reducible refine Dz.w_rEq ?_ ?_); (exact rfl))
  | ((with_reducible refine Dz.w_rNe ?_ ?_); (exact rfl)))
local macro_rules | `(tactic| walk_at "vc") => `(tactic| ((try dsimp only); repeat (walk_at "vc1"; (try dsimp only))))
namespace K02
open PySem PySem.Spec PyProof.Rows L2 Dz
def top (i : Nat) : Stmt := PySem.Challenge.pw_drowsetree_k02_numbers_by_names.main.body.getD i (.Pass ⟨0, 0, 0, 0⟩)
abbrev s_number_of : Stmt := top 3
theorem sc_number_of : FnScope ["thing", "least", "most", "number"] ["thing", "least", "most"] (defScope s_number_of) := ⟨rfl, rfl, rfl, by decide +kernel, rfl, by decide +kernel, by decide +kernel⟩
abbrev s__is_made_of : Stmt := top 4
theorem sc__is_made_of : FnScope ["text", "signs", "sign"] ["text", "signs"] (defScope s__is_made_of) := ⟨rfl, rfl, rfl, by decide +kernel, rfl, by decide +kernel, by decide +kernel⟩
abbrev s__is_plain_number : Stmt := top 5
theorem sc__is_plain_number : FnScope ["thing"] ["thing"] (defScope s__is_plain_number) := ⟨rfl, rfl, rfl, by decide +kernel, rfl, by decide +kernel, by decide +kernel⟩
abbrev s__law_cell : Stmt := top 7
theorem sc__law_cell : FnScope ["_law_script", "_law_k"] ["_law_script", "_law_k"] (defScope s__law_cell) := ⟨rfl, rfl, rfl, by decide +kernel, rfl, by decide +kernel, by decide +kernel⟩
abbrev s__law_bag : Stmt := top 8
theorem sc__law_bag : FnScope ["_law_cell_here"] ["_law_cell_here"] (defScope s__law_bag) := ⟨rfl, rfl, rfl, by decide +kernel, rfl, by decide +kernel, by decide +kernel⟩
abbrev s__law_take : Stmt := top 9
theorem sc__law_take : FnScope ["_law_bag_here", "_law_below", "_law_digit", "_law_number"] ["_law_bag_here", "_law_below"] (defScope s__law_take) := ⟨rfl, rfl, rfl, by decide +kernel, rfl, by decide +kernel, by decide +kernel⟩
abbrev s__law_read : Stmt := top 10
theorem sc__law_read : FnScope ["_law_one", "_law_found", "_law_sign"] ["_law_one"] (defScope s__law_read) := ⟨rfl, rfl, rfl, by decide +kernel, rfl, by decide +kernel, by decide +kernel⟩
abbrev s__law_text : Stmt := top 11
theorem sc__law_text : FnScope ["_law_bag_here", "_law_signs", "_law_size", "_law_text_here", "_law_k", "_law_at", "_law_way"] ["_law_bag_here"] (defScope s__law_text) := ⟨rfl, rfl, rfl, by decide +kernel, rfl, by decide +kernel, by decide +kernel⟩
abbrev s__law_bound : Stmt := top 12
theorem sc__law_bound : FnScope ["_law_bag_here", "_law_near", "_law_some"] ["_law_bag_here", "_law_near"] (defScope s__law_bound) := ⟨rfl, rfl, rfl, by decide +kernel, rfl, by decide +kernel, by decide +kernel⟩
abbrev s__law_between : Stmt := top 13
theorem sc__law_between : FnScope ["_law_number", "_law_low", "_law_high"] ["_law_number", "_law_low", "_law_high"] (defScope s__law_between) := ⟨rfl, rfl, rfl, by decide +kernel, rfl, by decide +kernel, by decide +kernel⟩
abbrev s_law : Stmt := top 14
theorem sc_law : FnScope ["_law_script", "_law_k", "_law_bag_here", "_law_odd", "_law_one", "_law_number", "_law_low", "_law_high", "_law_due", "_law_turn", "_law_found"] ["_law_script"] (defScope s_law) := ⟨rfl, rfl, rfl, by decide +kernel, rfl, by decide +kernel, by decide +kernel⟩
/-- where things stand -/
structure Ad where
  f_number_of : Addr
  f__is_made_of : Addr
  f__is_plain_number : Addr
  f__law_cell : Addr
  f__law_bag : Addr
  f__law_take : Addr
  f__law_read : Addr
  f__law_text : Addr
  f__law_bound : Addr
  f__law_between : Addr
  f_law : Addr
/-- what the top has written -/
structure Txt (K : PySem.W.Frag) (mg : Str → Option Value) (A : Ad) : Prop where
  z_all : mg "all" = none
  z_int : mg "int" = none
  z_isinstance : mg "isinstance" = none
  z_len : mg "len" = none
  z_max : mg "max" = none
  z_min : mg "min" = none
  z_range : mg "range" = none
  z_repr : mg "repr" = none
  z_str : mg "str" = none
  z_sum : mg "sum" = none
  c_MOST : Gv mg "MOST" (.int 1000000)
  c__FIGURES : Gv mg "_FIGURES" (.str "0123456789")
  d__is_made_of : Df K mg "_is_made_of" s__is_made_of A.f__is_made_of
  d__is_plain_number : Df K mg "_is_plain_number" s__is_plain_number A.f__is_plain_number
  d__law_cell : Df K mg "_law_cell" s__law_cell A.f__law_cell
  d__law_bag : Df K mg "_law_bag" s__law_bag A.f__law_bag
  d__law_take : Df K mg "_law_take" s__law_take A.f__law_take
  d__law_read : Df K mg "_law_read" s__law_read A.f__law_read
  d__law_text : Df K mg "_law_text" s__law_text A.f__law_text
  d__law_bound : Df K mg "_law_bound" s__law_bound A.f__law_bound
  d__law_between : Df K mg "_law_between" s__law_between A.f__law_between
  d_law : Df K mg "law" s_law A.f_law
  x_number_of : Dx K mg "number_of" s_number_of [] ([("least", .int 0), ("most", .int 1000000)] : List (Str × V)) A.f_number_of
section
variable {P : Program} {w : World} {K : PySem.W.Frag} {mg : Str → Option Value} {base : Heap} {A : Ad}
theorem kb_number_of_1_most {K : PySem.W.Frag} {f : Addr} {fd : FuncData} (F : FunD K "number_of" "number_of" (defArgs s_number_of) (defBody s_number_of) (defScope s_number_of) [] ([("least", .int 0), ("most", .int 1000000)] : List (Str × V)) f fd) : ∃ g, KBn K fd ["thing", "least", "most"] 1 ["most"] g (fun vs zs => perm [0, 1, 2] (vs ++ ([("least", .int 0)] : List (Str × V)).map (·.2) ++ zs)) := by
  obtain ⟨mv, h⟩ := kb_k F (ps := ["thing", "least", "most"]) 1 ["most"] ([("least", .int 0)] : List (Str × V)) (fun us mv ws => perm [0, 1, 2] (us ++ mv ++ ws)) (by decide) (by decide) (fun r1 r2 r3 => vals_perm ((r1.append r2).append r3) _) (fun D doc pm an cdv ct us mv ws h1 h2 h3 => match us, h1, mv, h2, ws, h3 with | [a0], _, [b0], _, [c0], _ => ⟨_, _, _, _, _, _, rfl, rfl, (show _ = _ from rfl)⟩)
  exact ⟨_, h⟩
theorem kb_number_of_1_least_most {K : PySem.W.Frag} {f : Addr} {fd : FuncData} (F : FunD K "number_of" "number_of" (defArgs s_number_of) (defBody s_number_of) (defScope s_number_of) [] ([("least", .int 0), ("most", .int 1000000)] : List (Str × V)) f fd) : ∃ g, KBn K fd ["thing", "least", "most"] 1 ["least", "most"] g (fun vs zs => perm [0, 1, 2] (vs ++ ([] : List (Str × V)).map (·.2) ++ zs)) := by
  obtain ⟨mv, h⟩ := kb_k F (ps := ["thing", "least", "most"]) 1 ["least", "most"] ([] : List (Str × V)) (fun us mv ws => perm [0, 1, 2] (us ++ mv ++ ws)) (by decide) (by decide) (fun r1 r2 r3 => vals_perm ((r1.append r2).append r3) _) (fun D doc pm an cdv ct us mv ws h1 h2 h3 => match us, h1, mv, h2, ws, h3 with | [a0], _, [], _, [c0, c1], _ => (show _ = _ from rfl))
  exact ⟨_, h⟩
theorem kb_number_of_1_most_least {K : PySem.W.Frag} {f : Addr} {fd : FuncData} (F : FunD K "number_of" "number_of" (defArgs s_number_of) (defBody s_number_of) (defScope s_number_of) [] ([("least", .int 0), ("most", .int 1000000)] : List (Str × V)) f fd) : ∃ g, KBn K fd ["thing", "least", "most"] 1 ["most", "least"] g (fun vs zs => perm [0, 2, 1] (vs ++ ([] : List (Str × V)).map (·.2) ++ zs)) := by
  obtain ⟨mv, h⟩ := kb_k F (ps := ["thing", "least", "most"]) 1 ["most", "least"] ([] : List (Str × V)) (fun us mv ws => perm [0, 2, 1] (us ++ mv ++ ws)) (by decide) (by decide) (fun r1 r2 r3 => vals_perm ((r1.append r2).append r3) _) (fun D doc pm an cdv ct us mv ws h1 h2 h3 => match us, h1, mv, h2, ws, h3 with | [a0], _, [], _, [c0, c1], _ => (show _ = _ from rfl))
  exact ⟨_, h⟩
theorem kb_number_of_1 {K : PySem.W.Frag} {f : Addr} {fd : FuncData} (F : FunD K "number_of" "number_of" (defArgs s_number_of) (defBody s_number_of) (defScope s_number_of) [] ([("least", .int 0), ("most", .int 1000000)] : List (Str × V)) f fd) : ∃ ds, Vals [.int 0, .int 1000000] ds ∧ Binds K fd ["thing", "least", "most"] ds :=
  F.binds0 1 (by decide) (by decide) (fun D doc pm an cdv ct us ks h1 h2 => match us, h1, ks, h2 with | [a0], _, [b0, b1], _ => ⟨_, _, _, _, _, _, rfl, rfl, ⟨_, _, _, _, _, _, rfl, rfl, (show _ = _ from rfl)⟩⟩)
theorem kb_number_of_1_least {K : PySem.W.Frag} {f : Addr} {fd : FuncData} (F : FunD K "number_of" "number_of" (defArgs s_number_of) (defBody s_number_of) (defScope s_number_of) [] ([("least", .int 0), ("most", .int 1000000)] : List (Str × V)) f fd) : ∃ g, KBn K fd ["thing", "least", "most"] 1 ["least"] g (fun vs zs => perm [0, 2, 1] (vs ++ ([("most", .int 1000000)] : List (Str × V)).map (·.2) ++ zs)) := by
  obtain ⟨mv, h⟩ := kb_k F (ps := ["thing", "least", "most"]) 1 ["least"] ([("most", .int 1000000)] : List (Str × V)) (fun us mv ws => perm [0, 2, 1] (us ++ mv ++ ws)) (by decide) (by decide) (fun r1 r2 r3 => vals_perm ((r1.append r2).append r3) _) (fun D doc pm an cdv ct us mv ws h1 h2 h3 => match us, h1, mv, h2, ws, h3 with | [a0], _, [b0], _, [c0], _ => ⟨_, _, _, _, _, _, rfl, rfl, (show _ = _ from rfl)⟩)
  exact ⟨_, h⟩
theorem kb_number_of_0_most_thing_least {K : PySem.W.Frag} {f : Addr} {fd : FuncData} (F : FunD K "number_of" "number_of" (defArgs s_number_of) (defBody s_number_of) (defScope s_number_of) [] ([("least", .int 0), ("most", .int 1000000)] : List (Str × V)) f fd) : ∃ g, KBn K fd ["thing", "least", "most"] 0 ["most", "thing", "least"] g (fun vs zs => perm [1, 2, 0] (vs ++ ([] : List (Str × V)).map (·.2) ++ zs)) := by
  obtain ⟨mv, h⟩ := kb_k F (ps := ["thing", "least", "most"]) 0 ["most", "thing", "least"] ([] : List (Str × V)) (fun us mv ws => perm [1, 2, 0] (us ++ mv ++ ws)) (by decide) (by decide) (fun r1 r2 r3 => vals_perm ((r1.append r2).append r3) _) (fun D doc pm an cdv ct us mv ws h1 h2 h3 => match us, h1, mv, h2, ws, h3 with | [], _, [], _, [c0, c1, c2], _ => (show _ = _ from rfl))
  exact ⟨_, h⟩
theorem ok__law_cell (T : Txt K mg A)   : Kp P w K mg base CX0 1 A.f__law_cell ["_law_script", "_law_k"] [] (spCel K) := by
  obtain ⟨fd, F⟩ := T.d__law_cell.ex
  refine ⟨fd, fnG_nx (k := 0) F sc__law_cell (fun vs H Q E h => ?_) (fun cdv Ar outer s H vs Q E hcl hr h => ?_), F.binds (fun _ _ _ _ _ _ us hl => match us, hl with | [_, _], _ => rfl)⟩
  · obtain ⟨a, ns, k, rfl, hS, hl, h0, h1, q⟩ := h
    rfl
  · obtain ⟨a, ns, k, rfl, hS, hl, h0, h1, q⟩ := h
    have hu64 := hr.units
    have hu := hu_of hr
    refine ⟨_, (pss_cons (ps_if (pt_cmpR op_lt (pv 1) (pe_callB call_len_seq (by rfl) T.z_len (by decide +kernel) (pa_cons (pv 0) pa_nil)) (nomark _)) (pss_one (ps_ret (pe_ix ix_list (pv 0) (pv 1) (fun _ _ => rfl)))) pss_nil)
      (pss_one (ps_ret (pe_op op_add (pe_op op_add (pe_op op_mulW pe_int (pv 1)) pe_int) (pe_op op_mod (pe_callB (cr_sum rfl) (by rfl) T.z_sum (by decide +kernel) (pa_cons (pe_slice sl_list (pv 0) po_none (po_some pe_int)) pa_nil)) pe_int))))), ?_⟩
    walk_at "vc"
    refine ⟨a, _, rfl, .inl hS, ?_⟩
    walk_at "vc"
    refine w_ite (fun c0 => ?_) (fun c0 => ?_)
    · obtain ⟨z, _, hz⟩ := map_at h0 c0
      walk_at "vc"
      refine w_ixL hS hz ?_
      exact q z H (Same.refl H)
    · walk_at "vc"
      refine w_rI (mulW_small (by decide) (by omega)) ?_
      walk_at "vc"
      refine ⟨a, _, rfl, hS, fun p np => ?_⟩
      obtain ⟨ms, e⟩ := cut_ints ns none (some 1)
      rw [e]
      walk_at "vc"
      refine ⟨p, ms, rfl, .of upd_same, ?_⟩
      walk_at "vc"
      refine w_rI (show (0 : Int) < 1000003 by decide) ?_
      walk_at "vc"
      exact q _ _ (same_new np)

theorem ok__law_bag (T : Txt K mg A)   : Kp P w K mg base CX0 1 A.f__law_bag ["_law_cell_here"] [] (spBag) := by
  obtain ⟨fd, F⟩ := T.d__law_bag.ex
  refine ⟨fd, fnG_nx (k := 0) F sc__law_bag (fun vs H Q E h => ?_) (fun cdv Ar outer s H vs Q E hcl hr h => ?_), F.binds (fun _ _ _ _ _ _ us hl => match us, hl with | [_], _ => rfl)⟩
  · obtain ⟨z, rfl, q⟩ := h
    rfl
  · obtain ⟨z, rfl, q⟩ := h
    have hu64 := hr.units
    have hu := hu_of hr
    refine ⟨_, (pss_one (ps_ret (pe_lst (pa_cons (pe_callB (call_max2 rfl) (by rfl) T.z_max (by decide +kernel) (pa_cons pe_int (pa_cons (pe_op op_sub (pv 0) (pe_op op_pow pe_int pe_int)) pa_nil))) (pa_cons (pe_op op_mod (pv 0) pe_int) (pa_cons pe_int pa_nil)))))), ?_⟩
    walk_at "vc"
    refine w_rI ⟨by decide, by decide, by decide⟩ ?_
    walk_at "vc"
    refine ⟨_, _, rfl, ?_⟩
    walk_at "vc"
    refine w_rI (show (0 : Int) < 2147483629 by decide) ?_
    walk_at "vc"
    refine ⟨sz_ok (by simp), fun p np => ?_⟩
    exact q p _ np (same_new np) ⟨_, _, 0, upd_same, by split <;> omega, Int.emod_nonneg _ (by decide), Int.emod_lt_of_pos _ (by decide), by decide, by decide⟩

theorem ok__law_take (T : Txt K mg A)   : Kp P w K mg base CX0 1 A.f__law_take ["_law_bag_here", "_law_below"] [] (spTake) := by
  obtain ⟨fd, F⟩ := T.d__law_take.ex
  refine ⟨fd, fnG_nx (k := 0) F sc__law_take (fun vs H Q E h => ?_) (fun cdv Ar outer s H vs Q E hcl hr h => ?_), F.binds (fun _ _ _ _ _ _ us hl => match us, hl with | [_, _], _ => rfl)⟩
  · obtain ⟨p, n, c, rfl, ⟨a, b, k, hp, h0, h1, h2, h3, h4⟩, hc, n0, nn, q⟩ := h
    rfl
  · obtain ⟨p, n, c, rfl, ⟨a, b, k, hp, h0, h1, h2, h3, h4⟩, hc, n0, nn, q⟩ := h
    have hu64 := hr.units
    have hu := hu_of hr
    refine ⟨_, (pss_cons (ps_if (pt_cmpR op_gt (pe_ix ix_list (pv 0) pe_int (fun _ _ => rfl)) pe_int (nomark _)) (pss_cons (ps_set (i := 2) sc__law_take.nd rfl (Or.inl rfl) (pe_op op_mod (pe_ix ix_list (pv 0) pe_int (fun _ _ => rfl)) (pv 1)))
      (pss_cons (ps_asg (pe_op op_fdivW (pe_ix ix_list (pv 0) pe_int (fun _ _ => rfl)) (pv 1)) (pg_sub (pv 0) pe_int set_list))
      (pss_one (ps_ret (pv 2))))) pss_nil)
      (pss_cons (ps_asg (pe_op op_add (pe_ix ix_list (pv 0) pe_int (fun _ _ => rfl)) pe_int) (pg_sub (pv 0) pe_int set_list))
      (pss_cons (ps_set (i := 3) sc__law_take.nd rfl (Or.inl rfl) (pe_op op_mod (pe_op op_pow (pe_op op_add (pe_op op_add (pe_ix ix_list (pv 0) pe_int (fun _ _ => rfl)) (pe_op op_mulW pe_int (pe_ix ix_list (pv 0) pe_int (fun _ _ => rfl)))) pe_int) pe_int) pe_int))
      (pss_cons (ps_set (i := 3) sc__law_take.nd rfl (Or.inl rfl) (pe_op op_mod (pe_op op_pow (pe_op op_add (pv 3) (pe_op op_mulW pe_int (pe_ix ix_list (pv 0) pe_int (fun _ _ => rfl)))) pe_int) pe_int))
      (pss_one (ps_ret (pe_op op_mod (pe_op op_fdivW (pv 3) pe_int) (pv 1)))))))), ?_⟩
    walk_at "vc"
    refine w_ixL (.of hp) atI0 ?_
    walk_at "vc"
    refine w_ite (fun c0 => ?_) (fun c0 => ?_)
    · walk_at "vc"
      refine w_ixL (.of hp) atI0 ?_
      walk_at "vc"
      refine w_rI (show 0 < n from n0) ?_
      walk_at "vc"
      refine w_ixL (.of hp) atI0 ?_
      walk_at "vc"
      refine w_rI (wide_div n0 nn (by decide) (by decide)) ?_
      walk_at "vc"
      refine w_setL hp rfl ?_
      walk_at "vc"
      exact q _ _ (Int.emod_nonneg _ (by omega)) (Int.emod_lt_of_pos _ n0) Bt.at_ ⟨a / n, b, k, upd_same, Int.ediv_nonneg h0 (by omega), h1, h2, h3, by omega⟩
    · walk_at "vc"
      refine w_ixL (.of hp) atI2 ?_
      walk_at "vc"
      refine w_setL hp rfl ?_
      have hp' : (upd H p (.lst [.int a, .int b, .int (k + 1)])) p = some (.lst [.int a, .int b, .int (k + 1)]) := upd_same
      walk_at "vc"
      refine w_ixL (.of hp') atI1 ?_
      walk_at "vc"
      refine w_ixL (.of hp') atI2 ?_
      walk_at "vc"
      refine w_rI (mulW_small (by decide) (by omega)) ?_
      walk_at "vc"
      refine w_rI ⟨by decide, by decide, take_num h1 h2 h3 (by omega) (by decide) (by decide)⟩ ?_
      walk_at "vc"
      refine w_rI (show (0 : Int) < 2147483647 by decide) ?_
      walk_at "vc"
      refine w_ixL (.of hp') atI2 ?_
      walk_at "vc"
      refine w_rI (mulW_small (by decide) (by omega)) ?_
      walk_at "vc"
      refine w_rI ⟨by decide, by decide, take_num2 (Int.emod_nonneg _ (by decide)) (Int.emod_lt_of_pos _ (by decide)) h3 (by omega)⟩ ?_
      walk_at "vc"
      refine w_rI (show (0 : Int) < 2147483587 by decide) ?_
      walk_at "vc"
      refine w_rI (wide_div (b := 10) (by decide) (by decide) (by decide) (by decide)) ?_
      walk_at "vc"
      refine w_rI (show 0 < n from n0) ?_
      exact q _ _ (Int.emod_nonneg _ (by omega)) (Int.emod_lt_of_pos _ n0) Bt.at_ ⟨a, b, k + 1, upd_same, h0, h1, h2, by omega, by omega⟩


def FG : Str := "0123456789"
def allIn (z t : Str) : Bool := z.cps.toList.all fun c => decide (c ∈ t.cps.toList)
def hd (z : Str) : Nat := z.cps.toList.headD 0
def plain (z : Str) : Bool := (!decide (V.str z = V.str "") && allIn z FG) && (decide (V.str z = V.str "0") || !decide (hd z = 48))
def dv (z : Str) : Int := ((NumText.digitsVal z.cps.toList : Nat) : Int)
def plV (v : V) : Bool := match v with
  | .str z => plain z
  | _ => false
def rdV (v : V) : V := match v with
  | .str z => if plain z = true then .int (dv z) else .non
  | _ => .non
def betw (x : V) (lo hi : Int) : V := match x with
  | .int n => if lo ≤ n ∧ n ≤ hi then .int n else .non
  | _ => .non
def numV (v : V) (lo hi : Int) : V := betw (rdV v) lo hi
/-- a thing of at most 600 signs, if a text -/
def Sml (v : V) : Prop := ∀ z, v = .str z → z.length ≤ 600
def spB (K : PySem.W.Frag) (f : V → Bool) : Sp := fun vs H Q _ => ∃ p v, vs = [v] ∧ Kn K p H v ∧ Sml v ∧ ∀ H', Same H H' → Q (.bl (f v)) H'
def spRd (K : PySem.W.Frag) : Sp := fun vs H Q _ => ∃ p v, vs = [v] ∧ Kn K p H v ∧ Sml v ∧ ∀ H', Same H H' → Q (rdV v) H'
def spMade : Sp := fun vs H Q _ => ∃ z t : Str, vs = [.str z, .str t] ∧ z.length ≤ 600 ∧ ∀ H', Same H H' → Q (.bl (!decide (V.str z = V.str "") && allIn z t)) H'
def spNo (K : PySem.W.Frag) : Sp := fun vs H Q _ => ∃ p v lo hi, vs = [v, .int lo, .int hi] ∧ Kn K p H v ∧ Sml v ∧ 0 ≤ hi ∧ hi ≤ 1000000000 ∧ ∀ H', Same H H' → Q (numV v lo hi) H'
def spBetw : Sp := fun vs H Q _ => ∃ x lo hi, vs = [x, .int lo, .int hi] ∧ (x = .non ∨ ∃ n, x = .int n) ∧ Q (betw x lo hi) H
theorem pl_not {v : V} (h : isStr v = false) : plV v = false := by cases v <;> first | rfl | cases h
theorem rd_not {v : V} (h : isStr v = false) : rdV v = .non := by cases v <;> first | rfl | cases h
theorem str_of {v : V} (h : isStr v = true) : ∃ z, v = .str z := by cases v <;> first | exact ⟨_, rfl⟩ | cases h
theorem rd_kind (v : V) : rdV v = .non ∨ ∃ n, rdV v = .int n := by
  cases v with
  | str z =>
    by_cases h : plain z = true
    · exact Or.inr ⟨dv z, if_pos h⟩
    · exact Or.inl (if_neg h)
  | _ => exact Or.inl rfl
theorem num_kind (v : V) (lo hi : Int) : numV v lo hi = .non ∨ ∃ n, numV v lo hi = .int n ∧ lo ≤ n ∧ n ≤ hi := by
  unfold numV
  rcases rd_kind v with h | ⟨n, h⟩
  · rw [h]; exact Or.inl rfl
  · rw [h]
    by_cases c : lo ≤ n ∧ n ≤ hi
    · exact Or.inr ⟨n, if_pos c, c.1, c.2⟩
    · exact Or.inl (if_neg c)
theorem num_no {v : V} {lo hi : Int} (h : plV v = false) : numV v lo hi = .non := by
  cases v with
  | str z =>
    have h' : plain z = false := h
    show betw (if plain z = true then .int (dv z) else .non) lo hi = .non
    rw [if_neg (by rw [h']; decide)]
    rfl
  | _ => rfl
theorem num_yes {z : Str} {lo hi : Int} (h : plain z = true) : numV (.str z) lo hi = if lo ≤ dv z ∧ dv z ≤ hi then .int (dv z) else .non := by
  show betw (if plain z = true then .int (dv z) else .non) lo hi = _
  rw [if_pos h]
  rfl
/-! ### figures -/
theorem fg_in {c : Nat} : c ∈ FG.cps.toList ↔ 48 ≤ c ∧ c ≤ 57 := by
  have e : FG.cps.toList = [48, 49, 50, 51, 52, 53, 54, 55, 56, 57] := by decide +kernel
  rw [e]
  simp only [List.mem_cons, List.not_mem_nil, or_false]
  omega
theorem ne_nil {z : Str} (h : decide (V.str z = V.str "") = false) : z.cps.toList ≠ [] := by
  intro e
  have e2 : z = "" := by
    cases z with
    | mk a =>
      have : a = #[] := by simpa using e
      rw [this]
      rfl
  subst e2
  simp at h
theorem all_dig {z : Str} (h : allIn z FG = true) : NumText.AllDigits z.cps.toList := fun c hc => by
  have := List.all_eq_true.mp h c hc
  exact fg_in.mp (of_decide_eq_true this)
theorem dv_int {z : Str} (h1 : decide (V.str z = V.str "") = false) (h2 : allIn z FG = true) (hz : z.length ≤ 600) : PySem.intText? z = some (dv z) :=
  intText_digits (all_dig h2) (ne_nil h1) (by omega)
theorem val_lt : ∀ l : List Nat, NumText.AllDigits l → NumText.digitsVal l < 10 ^ l.length := by
  intro l
  induction h : l.length generalizing l with
  | zero =>
    intro _
    have : l = [] := List.eq_nil_of_length_eq_zero h
    rw [this]
    decide
  | succ n ih =>
    intro hd
    have hne : l ≠ [] := by intro e; rw [e] at h; cases h
    have e := List.dropLast_concat_getLast hne
    have hl : l.dropLast.length = n := by rw [List.length_dropLast]; omega
    have hd2 : NumText.AllDigits l.dropLast := fun c hc => hd c (List.dropLast_subset l hc)
    have a := ih l.dropLast hl hd2
    have b := hd _ (List.getLast_mem hne)
    rw [← e, NumText.digitsVal_snoc, Nat.pow_succ]
    omega
theorem val_ge : ∀ l : List Nat, NumText.AllDigits l → ∀ c r, l = c :: r → 49 ≤ c → 10 ^ r.length ≤ NumText.digitsVal l := by
  have key : ∀ (r : List Nat) (a : Nat), a * 10 ^ r.length ≤ r.foldl (fun acc c => acc * 10 + (c - 48)) a := by
    intro r
    induction r with
    | nil => intro a; simp
    | cons d r ih =>
      intro a
      have := ih (a * 10 + (d - 48))
      rw [List.foldl_cons, List.length_cons, Nat.pow_succ]
      have h1 : a * (10 ^ r.length * 10) = (a * 10) * 10 ^ r.length := by
        rw [Nat.mul_comm (10 ^ r.length) 10, ← Nat.mul_assoc]
      have h2 : (a * 10) * 10 ^ r.length ≤ (a * 10 + (d - 48)) * 10 ^ r.length := Nat.mul_le_mul_right _ (by omega)
      omega
  intro l _ c r e h
  rw [e]
  show 10 ^ r.length ≤ r.foldl _ (0 * 10 + (c - 48))
  have := key r (0 * 10 + (c - 48))
  have h2 : 1 * 10 ^ r.length ≤ (0 * 10 + (c - 48)) * 10 ^ r.length := Nat.mul_le_mul_right _ (by omega)
  omega
theorem too_long {z : Str} {m : Int} (hp : plain z = true) (h0 : 0 ≤ m) (h : (Str.ofString (toString m)).length < z.length) : m < dv z := by
  obtain ⟨n, rfl⟩ : ∃ n : Nat, m = (n : Int) := ⟨m.toNat, (Int.toNat_of_nonneg h0).symm⟩
  unfold plain at hp
  rw [Bool.and_eq_true, Bool.and_eq_true, Bool.or_eq_true] at hp
  obtain ⟨⟨p1, p2⟩, p3⟩ := hp
  have ad := all_dig p2
  have nn : z.cps.toList ≠ [] := ne_nil (by simpa using p1)
  have lz : z.cps.toList.length = z.length := Array.length_toList
  have e1 : (Str.ofString (toString ((n : Nat) : Int))).length = (TL.numL n).length := by
    rw [← TL.tl_num n]
    exact (Array.length_toList).symm
  have b1 := val_lt (TL.numL n) (TL.numL_digits n)
  rw [TL.numL_val] at b1
  have l1 : 1 ≤ (TL.numL n).length := by
    have := TL.numL_ne n
    exact List.length_pos_iff.mpr this
  cases e : z.cps.toList with
  | nil => exact absurd e nn
  | cons c r =>
    have hr : r.length + 1 = z.length := by rw [← lz, e]; rfl
    have c1 := ad c (by rw [e]; exact List.mem_cons_self)
    have hc : 49 ≤ c := by
      rcases p3 with q | q
      · have : z = "0" := V.str.inj (of_decide_eq_true q)
        rw [this] at h
        rw [e1] at h
        have : (("0" : Str)).length = 1 := by decide +kernel
        omega
      · have q' : ¬ hd z = 48 := by simpa using q
        unfold hd at q'
        rw [e] at q'
        have : ¬ c = 48 := q'
        omega
    have g1 := val_ge z.cps.toList ad c r e hc
    have g2 : 10 ^ (TL.numL n).length ≤ 10 ^ r.length := Nat.pow_le_pow_right (by decide) (by omega)
    show (n : Int) < ((NumText.digitsVal z.cps.toList : Nat) : Int)
    omega
theorem hd_at {z : Str} (h : z.cps.toList ≠ []) : atI z.cps.toList 0 = some (hd z) := by
  unfold hd
  cases e : z.cps.toList with
  | nil => exact absurd e h
  | cons c r => exact atI_nat (j := 0) rfl
theorem hd_eq (c : Nat) : decide (V.str ⟨#[c]⟩ = V.str "0") = decide (c = 48) := by
  have e : (Str.ofString "0") = ⟨#[48]⟩ := by decide +kernel
  rw [e]
  by_cases h : c = 48
  · rw [h]; simp
  · rw [decide_eq_false h]
    refine decide_eq_false fun z => h ?_
    have := Str.mk.inj (V.str.inj z)
    simpa using this
theorem occ {c : Nat} (h : 48 ≤ c ∧ c ≤ 57) : ∃ rest, Builtin.Str.occurrences "0123456789" ⟨#[c]⟩ 0 ("0123456789" : Str).length 1 = (c - 48) :: rest := by
  have : c = 48 ∨ c = 49 ∨ c = 50 ∨ c = 51 ∨ c = 52 ∨ c = 53 ∨ c = 54 ∨ c = 55 ∨ c = 56 ∨ c = 57 := by omega
  rcases this with rfl | rfl | rfl | rfl | rfl | rfl | rfl | rfl | rfl | rfl <;> exact ⟨[], by decide +kernel⟩

theorem ok__is_made_of (T : Txt K mg A)   : Kp P w K mg base CX0 1 A.f__is_made_of ["text", "signs"] [] (spMade) := by
  obtain ⟨fd, F⟩ := T.d__is_made_of.ex
  refine ⟨fd, fnG_nx (k := 0) F sc__is_made_of (fun vs H Q E h => ?_) (fun cdv Ar outer s H vs Q E hcl hr h => ?_), F.binds (fun _ _ _ _ _ _ us hl => match us, hl with | [_, _], _ => rfl)⟩
  · obtain ⟨z, t, rfl, hz, q⟩ := h
    rfl
  · obtain ⟨z, t, rfl, hz, q⟩ := h
    have hu64 := hr.units
    have hu := hu_of hr
    refine ⟨_, (pss_one (ps_ret (pe_and (pe_cmpR op_ne (pv 0) pe_str (nomark _)) (pe_one (pe_callB (cr_all rfl) (by rfl) T.z_all (by decide +kernel) (pa_cons (pe_lc (own := [("sign", 2)]) (by rfl) sc__is_made_of.nd (pi_str (pv 0)) (blkOk_by (own := [("sign", 2)]) (N := ["text", "signs", "sign"]) (sc := defScope s__is_made_of) (by decide +kernel)) (fun _ _ _ _ _ => pg_name (i := 2) sc__is_made_of.nd rfl (Or.inl rfl)) (fun _ _ _ _ _ => pts_nil) (fun _ _ _ _ _ => (pe_cmpR op_in_sign (pv 2) (pv 1) rfl))) pa_nil)))))), ?_⟩
    walk_at "vc"
    cases c : decide (V.str z = V.str "") with
    | true =>
      refine w_itF rfl ?_
      have := q H (Same.refl H)
      rw [c] at this
      exact this
    | false =>
      refine w_itT rfl ?_
      have hq := q
      rw [c] at hq
      walk_at "vc"
      refine w_str1 ?_
      refine lcs_go (wk_str (z := z)) (lcs_of z.cps.toList (fun _ => true) (fun c => .bl (decide (c ∈ t.cps.toList))) (by simp) (by have : z.cps.size = z.length := rfl; omega) (fun _ _ => trivial) ?_ ?_)
      · rintro i c x H' R S hc ⟨c', hc', rfl⟩ s1 kR kS
        have ec : c' = c := by
          rw [Array.getElem?_toList] at hc
          rw [hc] at hc'
          exact (Option.some.inj hc').symm
        subst ec
        walk_at "vc"
        refine ⟨rfl, ?_⟩
        walk_at "vc"
        refine w_itT rfl ?_
        walk_at "vc"
        refine ⟨c', t, rfl, rfl, ?_⟩
        exact kR rfl H' (Same.refl _)
      · intro D H' nD s1 hD
        rw [keep_all] at hD
        walk_at "vc"
        refine ⟨D, z.cps.toList.map fun c => decide (c ∈ t.cps.toList), rfl, .of (by rw [List.map_map]; exact hD), ?_⟩
        have e : (z.cps.toList.map fun c => decide (c ∈ t.cps.toList)).all id = allIn z t := by
          unfold allIn
          rw [List.all_map]
          rfl
        rw [e]
        exact hq H' s1

theorem ok__is_plain_number (T : Txt K mg A) (G__is_made_of : Kp P w K mg base CX0 1 A.f__is_made_of ["text", "signs"] [] (spMade))  : Kp P w K mg base CX0 2 A.f__is_plain_number ["thing"] [] (spB K plV) := by
  obtain ⟨fd, F⟩ := T.d__is_plain_number.ex
  refine ⟨fd, fnG_nx (k := 1) F sc__is_plain_number (fun vs H Q E h => ?_) (fun cdv Ar outer s H vs Q E hcl hr h => ?_), F.binds (fun _ _ _ _ _ _ us hl => match us, hl with | [_], _ => rfl)⟩
  · obtain ⟨p, v, rfl, kn, sm, q⟩ := h
    rfl
  · obtain ⟨p, v, rfl, kn, sm, q⟩ := h
    have hu64 := hr.units
    have hu := hu_of hr
    refine ⟨_, (pss_cons (ps_if (PW.pt (pw_or (pt_not (pt_val (pe_callB call_isStr (by rfl) T.z_isinstance (by decide +kernel) (pa_cons (pv 0) (pa_cons (pe_bltn (v := .ty "str") rfl T.z_str (by decide +kernel) rfl) pa_nil))))) (pw_or1 (pt_not (pt_val (pe_fn (callK0 G__is_made_of hcl (hr.mono (by decide)) pass0) (by rfl) T.d__is_made_of.mg T.d__is_made_of.kp (pa_cons (pv 0) (pa_cons (pe_gv (by rfl) T.c__FIGURES) pa_nil)))))))) (pss_one (ps_ret pe_bl)) pss_nil)
      (pss_one (ps_ret (pe_or (pe_cmpR op_eq (pv 0) pe_str (nomark _)) (pe_one (pe_cmpR op_ne (pe_ix ix_str (pv 0) pe_int (fun _ _ => rfl)) pe_str (nomark _))))))), ?_⟩
    walk_at "vc"
    refine ⟨p, v, rfl, kn, ?_⟩
    walk_at "vc"
    cases c : isStr v with
    | false =>
      refine w_itT rfl ?_
      refine w_itT rfl ?_
      walk_at "vc"
      have := q H (Same.refl H)
      rw [pl_not c] at this
      exact this
    | true =>
      obtain ⟨z, rfl⟩ := str_of c
      have hz := sm z rfl
      refine w_itF rfl ?_
      walk_at "vc"
      refine ⟨z, _, rfl, hz, fun H1 e1 => ?_⟩
      walk_at "vc"
      have hq := q H1 e1
      change Q (.bl (plain z)) H1 at hq
      unfold plain at hq
      cases c1 : (!decide (V.str z = V.str "") && allIn z FG) with
      | false =>
        have c1' : (!decide (V.str z = V.str "") && allIn z "0123456789") = false := c1
        rw [c1] at hq
        refine w_itT (by rw [c1']; rfl) ?_
        walk_at "vc"
        exact hq
      | true =>
        have c1' : (!decide (V.str z = V.str "") && allIn z "0123456789") = true := c1
        rw [c1] at hq
        refine w_itF (by rw [c1']; rfl) ?_
        walk_at "vc"
        refine w_ite (fun c2 => ?_) (fun c2 => ?_)
        · rw [decide_eq_true c2] at hq
          exact hq
        · rw [decide_eq_false c2] at hq
          have nn : z.cps.toList ≠ [] := ne_nil (by
            have := (Bool.and_eq_true_iff.mp c1).1
            simpa using this)
          walk_at "vc"
          refine w_ixS (sz_ok (by omega)) (hd_at nn) ?_
          walk_at "vc"
          rw [hd_eq]
          exact hq

theorem ok_number_of (T : Txt K mg A) (G__is_plain_number : Kp P w K mg base CX0 2 A.f__is_plain_number ["thing"] [] (spB K plV))  : Kx P w K mg base CX0 3 "number_of" "number_of" s_number_of [] ([("least", .int 0), ("most", .int 1000000)] : List (Str × V)) A.f_number_of ["thing", "least", "most"] (spNo K) := by
  obtain ⟨fd, F⟩ := T.x_number_of.ex
  refine ⟨fd, fnG_Dnx (k := 2) F sc_number_of (fun vs H Q E h => ?_) (fun cdv Ar outer s H vs Q E hcl hr h => ?_), F⟩
  · obtain ⟨p, v, lo, hi, rfl, kn, sm, h0, h9, q⟩ := h
    rfl
  · obtain ⟨p, v, lo, hi, rfl, kn, sm, h0, h9, q⟩ := h
    have hu64 := hr.units
    have hu := hu_of hr
    refine ⟨_, (pss_cons (ps_if (PW.pt (pw_or (pt_not (pt_val (pe_fn (callK0 G__is_plain_number hcl (hr.mono (by decide)) pass0) (by rfl) T.d__is_plain_number.mg T.d__is_plain_number.kp (pa_cons (pv 0) pa_nil)))) (pw_or1 (pt_cmpR op_gt (pe_callB call_len_str (by rfl) T.z_len (by decide +kernel) (pa_cons (pv 0) pa_nil)) (pe_callB call_len_str (by rfl) T.z_len (by decide +kernel) (pa_cons (pe_callTy call_str_int (by rfl) T.z_str (by decide +kernel) (pa_cons (pv 2) pa_nil)) pa_nil)) (nomark _))))) (pss_one (ps_ret pe_non)) pss_nil)
      (pss_cons (ps_set (i := 3) sc_number_of.nd rfl (Or.inl rfl) (pe_callTy call_int_str (by rfl) T.z_int (by decide +kernel) (pa_cons (pv 0) pa_nil)))
      (pss_cons (ps_if (pt_chain op_le op_le (pv 1) (pv 3) (pv 2)) (pss_one (ps_ret (pv 3))) pss_nil)
      (pss_one (ps_ret pe_non))))), ?_⟩
    walk_at "vc"
    refine ⟨p, v, rfl, kn, sm, fun H1 e1 => ?_⟩
    walk_at "vc"
    cases c : plV v with
    | false =>
      refine w_itT rfl ?_
      refine w_itT rfl ?_
      walk_at "vc"
      have := q H1 e1
      rw [num_no c] at this
      exact this
    | true =>
      obtain ⟨z, rfl⟩ : ∃ z, v = .str z := str_of (by cases v <;> first | rfl | cases c)
      have hz := sm z rfl
      have hp : plain z = true := c
      have hq := q H1 e1
      rw [num_yes hp] at hq
      refine w_itF rfl ?_
      walk_at "vc"
      refine ⟨z, rfl, sz_ok (by omega), ?_⟩
      walk_at "vc"
      have hb : hi.natAbs < 2 ^ 40 := by
        have : hi.natAbs ≤ 1000000000 := by omega
        exact Nat.lt_of_le_of_lt this (by decide)
      have hl : hi.natAbs.log2 < 1920 := Nat.lt_of_lt_of_le (PySem.Flt.log2_lt_of (k := 40) (by decide) hb) (by decide)
      refine ⟨hi, rfl, hl, ?_⟩
      walk_at "vc"
      have h2 := int_sml (n := hi) (by omega)
      refine ⟨_, rfl, sz_ok h2.1, ?_⟩
      walk_at "vc"
      refine w_ite (fun c1 => ?_) (fun c1 => ?_)
      · have := too_long hp h0 (Int.ofNat_lt.mp c1)
        rw [if_neg (by omega)] at hq
        walk_at "vc"
        exact hq
      · have p1 := hp
        unfold plain at p1
        rw [Bool.and_eq_true, Bool.and_eq_true] at p1
        walk_at "vc"
        refine ⟨z, dv z, rfl, dv_int (by simpa using p1.1.1) p1.1.2 hz, by omega, ?_⟩
        walk_at "vc"
        refine w_ite (fun c2 => ?_) (fun c2 => ?_)
        · walk_at "vc"
          refine w_ite (fun c3 => ?_) (fun c3 => ?_)
          · rw [if_pos ⟨c2, c3⟩] at hq
            walk_at "vc"
            exact hq
          · rw [if_neg fun z => c3 z.2] at hq
            walk_at "vc"
            exact hq
        · rw [if_neg fun z => c2 z.1] at hq
          walk_at "vc"
          refine w_itF rfl ?_
          walk_at "vc"
          exact hq

theorem ok__law_between (T : Txt K mg A)   : Kp P w K mg base CX0 1 A.f__law_between ["_law_number", "_law_low", "_law_high"] [] (spBetw) := by
  obtain ⟨fd, F⟩ := T.d__law_between.ex
  refine ⟨fd, fnG_nx (k := 0) F sc__law_between (fun vs H Q E h => ?_) (fun cdv Ar outer s H vs Q E hcl hr h => ?_), F.binds (fun _ _ _ _ _ _ us hl => match us, hl with | [_, _, _], _ => rfl)⟩
  · obtain ⟨x, lo, hi, rfl, hx, q⟩ := h
    rfl
  · obtain ⟨x, lo, hi, rfl, hx, q⟩ := h
    have hu64 := hr.units
    have hu := hu_of hr
    refine ⟨_, (pss_one (ps_ret (pe_ifExp (PW.pt (pw_and (pt_cmpR op_notN (pv 0) pe_non (nomark _)) (pw_and1 (pt_chain op_le op_le (pv 1) (pv 0) (pv 2))))) (pv 0) pe_non))), ?_⟩
    walk_at "vc"
    rcases hx with rfl | ⟨n, rfl⟩
    · refine w_itF rfl ?_
      refine w_itF rfl ?_
      walk_at "vc"
      exact q
    · refine w_itT rfl ?_
      walk_at "vc"
      have hq : Q (if lo ≤ n ∧ n ≤ hi then .int n else .non) H := q
      refine w_ite (fun c2 => ?_) (fun c2 => ?_)
      · walk_at "vc"
        refine w_ite (fun c3 => ?_) (fun c3 => ?_)
        · rw [if_pos ⟨c2, c3⟩] at hq
          walk_at "vc"
          exact hq
        · rw [if_neg fun z => c3 z.2] at hq
          walk_at "vc"
          exact hq
      · rw [if_neg fun z => c2 z.1] at hq
        walk_at "vc"
        refine w_itF rfl ?_
        walk_at "vc"
        exact hq


def Sm60 (v : V) : Prop := ∀ z, v = .str z → z.length ≤ 80
theorem Sm60.sml {v : V} (h : Sm60 v) : Sml v := fun z e => Nat.le_trans (h z e) (by decide)
def spRead (K : PySem.W.Frag) : Sp := fun vs H Q _ => ∃ p v, vs = [v] ∧ Kn K p H v ∧ Sm60 v ∧ ∀ H', Same H H' → Q (rdV v) H'
def spTxt : Sp := fun vs H Q _ => ∃ p c, vs = [.ref p] ∧ Bg H p c ∧ c ≤ 100000 ∧ ∀ (z : Str) H', z.length ≤ 80 → Bt p H H' → Bg H' p (c + 60) → Q (.str z) H'
def spBound : Sp := fun vs H Q _ => ∃ p c x, vs = [.ref p, x] ∧ Bg H p c ∧ c ≤ 100000 ∧ (x = .non ∨ ∃ n, x = .int n) ∧ ∀ (m : Int) H', 0 ≤ m → m ≤ 1000000000 → Bt p H H' → Bg H' p (c + 5) → Q (.int m) H'
theorem rd_no {z : Str} (h : plain z = false) : rdV (.str z) = .non := if_neg (by rw [h]; decide)
theorem rd_yes {z : Str} (h : plain z = true) : rdV (.str z) = .int (dv z) := if_pos h
theorem all_none {l : List Nat} : NumText.AllDigits (l.take 0) := by
  rw [List.take_zero]
  intro c h
  cases h
theorem all_take {l : List Nat} {i : Nat} {c : Nat} (h : NumText.AllDigits (l.take i)) (hc : l[i]? = some c) (d : 48 ≤ c ∧ c ≤ 57) : NumText.AllDigits (l.take (i + 1)) := by
  have e : l.take (i + 1) = l.take i ++ [c] := by rw [List.take_add_one, hc]; rfl
  rw [e]
  intro x hx
  rcases List.mem_append.mp hx with q | q
  · exact h x q
  · rw [List.mem_singleton.mp q]; exact d
theorem val_take {l : List Nat} {i : Nat} {c : Nat} (hc : l[i]? = some c) (d : 48 ≤ c) : ((NumText.digitsVal (l.take (i + 1)) : Nat) : Int) = 10 * ((NumText.digitsVal (l.take i) : Nat) : Int) + ((c - 48 : Nat) : Int) := by
  have e : l.take (i + 1) = l.take i ++ [c] := by rw [List.take_add_one, hc]; rfl
  rw [e, NumText.digitsVal_snoc]
  omega
theorem val_300 {l : List Nat} (h : NumText.AllDigits l) (hl : l.length ≤ 80) : NumText.digitsVal l < 2 ^ 300 := by
  have a := val_lt l h
  have b : 10 ^ l.length ≤ 10 ^ 80 := Nat.pow_le_pow_right (by decide) hl
  have c : 10 ^ 80 < 2 ^ 300 := by decide +kernel
  omega

theorem ok__law_read (T : Txt K mg A)   : Kp P w K mg base CX0 1 A.f__law_read ["_law_one"] [] (spRead K) := by
  obtain ⟨fd, F⟩ := T.d__law_read.ex
  refine ⟨fd, fnG_nx (k := 0) F sc__law_read (fun vs H Q E h => ?_) (fun cdv Ar outer s H vs Q E hcl hr h => ?_), F.binds (fun _ _ _ _ _ _ us hl => match us, hl with | [_], _ => rfl)⟩
  · obtain ⟨p, v, rfl, kn, sm, q⟩ := h
    rfl
  · obtain ⟨p, v, rfl, kn, sm, q⟩ := h
    have hu64 := hr.units
    have hu := hu_of hr
    refine ⟨_, (pss_cons (ps_if (PW.pt (pw_or (pt_not (pt_val (pe_callB call_isStr (by rfl) T.z_isinstance (by decide +kernel) (pa_cons (pv 0) (pa_cons (pe_bltn (v := .ty "str") rfl T.z_str (by decide +kernel) rfl) pa_nil))))) (pw_or (pt_cmpR op_eq (pv 0) pe_str (nomark _)) (pw_or1 (PW.pt (pw_and (pt_cmpR op_eq (pe_ix ix_str (pv 0) pe_int (fun _ _ => rfl)) pe_str (nomark _)) (pw_and1 (pt_cmpR op_ne (pv 0) pe_str (nomark _))))))))) (pss_one (ps_ret pe_non)) pss_nil)
      (pss_cons (ps_set (i := 1) sc__law_read.nd rfl (Or.inl rfl) pe_int)
      (pss_cons (ps_for PassesOwn.never rfl (pi_str (pv 0)) (pg_name (i := 2) sc__law_read.nd rfl (Or.inl rfl)) (pss_cons (ps_if (pt_cmpR op_notIn_sign (pv 2) pe_str rfl) (pss_one (ps_ret pe_non)) pss_nil)
      (pss_one (ps_set (i := 1) sc__law_read.nd rfl (Or.inl rfl) (pe_op op_add (pe_op op_mulW pe_int (pv 1)) (pe_bm PySem.F.plainAttrs_str PySem.F.slot_str_index PySem.F.type_str_index mt_sindex pe_str (pa_cons (pv 2) pa_nil)))))))
      (pss_one (ps_ret (pv 1)))))), ?_⟩
    walk_at "vc"
    refine ⟨p, v, rfl, kn, ?_⟩
    walk_at "vc"
    cases c : isStr v with
    | false =>
      refine w_itT rfl ?_
      refine w_itT rfl ?_
      walk_at "vc"
      have := q H (Same.refl H)
      rw [rd_not c] at this
      exact this
    | true =>
      obtain ⟨z, rfl⟩ := str_of c
      have hz := sm z rfl
      have lz : z.cps.toList.length = z.length := Array.length_toList
      refine w_itF rfl ?_
      walk_at "vc"
      refine w_iteB (fun c1 => ?_) (fun c1 => ?_)
      · refine w_itT rfl ?_
        walk_at "vc"
        have := q H (Same.refl H)
        rw [rd_no (by unfold plain; rw [c1]; rfl)] at this
        exact this
      · have nn := ne_nil c1
        walk_at "vc"
        refine w_ixS (sz_ok (by omega)) (hd_at nn) ?_
        walk_at "vc"
        rw [hd_eq]
        cases hb : (decide (V.str z = V.str "0") || !decide (hd z = 48)) with
        | false =>
          obtain ⟨h1, h2⟩ := Bool.or_eq_false_iff.mp hb
          have h2' : decide (hd z = 48) = true := by simpa using h2
          refine w_itT h2' ?_
          walk_at "vc"
          refine w_itT (by rw [h1]; rfl) ?_
          walk_at "vc"
          have := q H (Same.refl H)
          rw [rd_no (by unfold plain; rw [hb, Bool.and_false])] at this
          exact this
        | true =>
          apply w_both
          · intro rest
            refine w_iteB (fun c2 => ?_) (fun c2 => ?_)
            · walk_at "vc"
              rw [c2] at hb
              refine w_itF (by simpa using hb) ?_
              exact rest
            · exact rest
          · walk_at "vc"
            refine w_str1 ?_
            refine fors_go wk_str ⟨fun i σ H' => ∃ o : Option V, σ = [some (.str z), some (.int ((NumText.digitsVal (z.cps.toList.take i) : Nat) : Int)), o] ∧ NumText.AllDigits (z.cps.toList.take i) ∧ Same H H', ⟨_, rfl, all_none, Same.refl H⟩, fun _ _ _ _ _ => trivial, ?_, ?_⟩
            · rintro i x σ H' hi ⟨c', hc', rfl⟩ ⟨o, rfl, ad, s1⟩
              have hc : z.cps.toList[i]? = some c' := by rw [Array.getElem?_toList]; exact hc'
              walk_at "vc"
              refine ⟨c', FG, rfl, rfl, ?_⟩
              walk_at "vc"
              by_cases hd : c' ∈ FG.cps.toList
              · refine w_itF (by rw [decide_eq_true hd]; rfl) ?_
                have dg := fg_in.mp hd
                obtain ⟨rest, hr⟩ := occ dg
                have lt3 : (z.cps.toList.take i).length ≤ 80 := by rw [List.length_take]; omega
                have v3 := val_300 ad lt3
                walk_at "vc"
                refine w_rI (mulW_small (by decide) (by rw [Int.natAbs_natCast]; exact v3)) ?_
                walk_at "vc"
                refine ⟨rfl, ?_⟩
                walk_at "vc"
                refine ⟨_, _, _, _, rfl, rfl, hr, ?_⟩
                walk_at "vc"
                refine ⟨some (.str ⟨#[c']⟩), ?_, all_take ad hc dg, s1⟩
                rw [val_take hc dg.1]
                rfl
              · refine w_itT (by rw [decide_eq_false hd]; rfl) ?_
                walk_at "vc"
                have := q H' s1
                have no : allIn z FG = false := by
                  cases e : allIn z FG with
                  | false => rfl
                  | true => exact absurd (of_decide_eq_true (List.all_eq_true.mp e c' (List.mem_of_getElem? hc))) hd
                rw [rd_no (by unfold plain; rw [no, Bool.and_false, Bool.false_and])] at this
                exact this
            · rintro σ H' ⟨o, rfl, ad, s1⟩
              walk_at "vc"
              have e : z.cps.toList.take z.cps.size = z.cps.toList := by rw [← Array.length_toList]; exact List.take_length
              rw [e] at ad ⊢
              have yes : allIn z FG = true := List.all_eq_true.mpr fun c hc => decide_eq_true (fg_in.mpr (ad c hc))
              have := q H' s1
              rw [rd_yes (by unfold plain; rw [c1, yes, hb]; rfl)] at this
              exact this


def SG : Str := " abcXYZ0123456789!\"#$&'()*+,-./:;<=>?@\x5b\\]^_`{|}~\n"
theorem sg_len : SG.length = 49 := by decide +kernel
theorem fg_len : FG.length = 10 := by decide +kernel

theorem ok__law_text (T : Txt K mg A) (G__law_take : Kp P w K mg base CX0 1 A.f__law_take ["_law_bag_here", "_law_below"] [] (spTake))  : Kp P w K mg base CX0 2 A.f__law_text ["_law_bag_here"] [] (spTxt) := by
  obtain ⟨fd, F⟩ := T.d__law_text.ex
  refine ⟨fd, fnG_nx (k := 1) F sc__law_text (fun vs H Q E h => ?_) (fun cdv Ar outer s H vs Q E hcl hr h => ?_), F.binds (fun _ _ _ _ _ _ us hl => match us, hl with | [_], _ => rfl)⟩
  · obtain ⟨p, c, rfl, b, hc, q⟩ := h
    rfl
  · obtain ⟨p, c, rfl, b, hc, q⟩ := h
    have hu64 := hr.units
    have hu := hu_of hr
    refine ⟨_, (pss_cons (ps_set (i := 1) sc__law_text.nd rfl (Or.inl rfl) pe_str)
      (pss_cons (ps_set (i := 2) sc__law_text.nd rfl (Or.inl rfl) (pe_ix ix_list (pe_lst (pa_cons (pe_op op_add pe_int (pe_fn (callK0 G__law_take hcl (hr.mono (by decide)) pass0) (by rfl) T.d__law_take.mg T.d__law_take.kp (pa_cons (pv 0) (pa_cons pe_int pa_nil)))) (pa_cons pe_int (pa_cons pe_int (pa_cons pe_int pa_nil))))) (pe_fn (callK0 G__law_take hcl (hr.mono (by decide)) pass0) (by rfl) T.d__law_take.mg T.d__law_take.kp (pa_cons (pv 0) (pa_cons pe_int pa_nil))) (fun _ _ => rfl)))
      (pss_cons (ps_set (i := 3) sc__law_text.nd rfl (Or.inl rfl) (pe_join pe_str (pe_lc (own := [("_law_k", 4)]) (by rfl) sc__law_text.nd (pi_range1 (by rfl) T.z_range (pa_cons (pv 2) pa_nil)) (blkOk_by (own := [("_law_k", 4)]) (N := ["_law_bag_here", "_law_signs", "_law_size", "_law_text_here", "_law_k", "_law_at", "_law_way"]) (sc := defScope s__law_text) (by decide +kernel)) (fun _ _ _ _ _ => pg_name (i := 4) sc__law_text.nd rfl (Or.inl rfl)) (fun _ _ _ _ _ => pts_nil) (fun _ _ _ _ _ => (pe_ix ix_str pe_str (pe_fn (callK0 G__law_take hcl (hr.mono (by decide)) pass0) (by rfl) T.d__law_take.mg T.d__law_take.kp (pa_cons (pv 0) (pa_cons pe_int pa_nil))) (fun _ _ => rfl))))))
      (pss_cons (ps_set (i := 3) sc__law_text.nd rfl (Or.inl rfl) (pe_ix ix_list (pe_lst (pa_cons (pv 3) (pa_cons pe_str (pa_cons pe_str (pa_cons pe_str (pa_cons pe_str (pa_cons (pe_bm PySem.F.plainAttrs_str PySem.F.slot_str_lstrip PySem.F.type_str_lstrip mt_lstripChars (pv 3) (pa_cons pe_str pa_nil)) pa_nil))))))) (pe_fn (callK0 G__law_take hcl (hr.mono (by decide)) pass0) (by rfl) T.d__law_take.mg T.d__law_take.kp (pa_cons (pv 0) (pa_cons pe_int pa_nil))) (fun _ _ => rfl)))
      (pss_cons (ps_set (i := 5) sc__law_text.nd rfl (Or.inl rfl) (pe_fn (callK0 G__law_take hcl (hr.mono (by decide)) pass0) (by rfl) T.d__law_take.mg T.d__law_take.kp (pa_cons (pv 0) (pa_cons (pe_op op_add (pe_callB call_len_str (by rfl) T.z_len (by decide +kernel) (pa_cons (pv 3) pa_nil)) pe_int) pa_nil))))
      (pss_cons (ps_set (i := 6) sc__law_text.nd rfl (Or.inl rfl) (pe_fn (callK0 G__law_take hcl (hr.mono (by decide)) pass0) (by rfl) T.d__law_take.mg T.d__law_take.kp (pa_cons (pv 0) (pa_cons pe_int pa_nil))))
      (pss_cons (ps_if (pt_cmpR op_eq (pv 6) pe_int (nomark _)) (pss_one (ps_ret (pe_op op_add_str (pe_op op_add_str (pe_slice sl_str (pv 3) po_none (po_some (pv 5))) (pe_ix ix_str (pv 1) (pe_fn (callK0 G__law_take hcl (hr.mono (by decide)) pass0) (by rfl) T.d__law_take.mg T.d__law_take.kp (pa_cons (pv 0) (pa_cons (pe_callB call_len_str (by rfl) T.z_len (by decide +kernel) (pa_cons (pv 1) pa_nil)) pa_nil))) (fun _ _ => rfl))) (pe_slice sl_str (pv 3) (po_some (pv 5)) po_none)))) pss_nil)
      (pss_cons (ps_if (pt_cmpR op_eq (pv 6) pe_int (nomark _)) (pss_one (ps_ret (pe_op op_add_str (pe_op op_add_str (pe_slice sl_str (pv 3) po_none (po_some (pv 5))) (pe_ix ix_str (pv 1) (pe_fn (callK0 G__law_take hcl (hr.mono (by decide)) pass0) (by rfl) T.d__law_take.mg T.d__law_take.kp (pa_cons (pv 0) (pa_cons (pe_callB call_len_str (by rfl) T.z_len (by decide +kernel) (pa_cons (pv 1) pa_nil)) pa_nil))) (fun _ _ => rfl))) (pe_slice sl_str (pv 3) (po_some (pe_op op_add (pv 5) pe_int)) po_none)))) pss_nil)
      (pss_cons (ps_if (pt_cmpR op_eq (pv 6) pe_int (nomark _)) (pss_one (ps_ret (pe_op op_add_str (pe_ix ix_list (pe_lst (pa_cons pe_str (pa_cons pe_str (pa_cons pe_str (pa_cons pe_str pa_nil))))) (pe_fn (callK0 G__law_take hcl (hr.mono (by decide)) pass0) (by rfl) T.d__law_take.mg T.d__law_take.kp (pa_cons (pv 0) (pa_cons pe_int pa_nil))) (fun _ _ => rfl)) (pv 3)))) pss_nil)
      (pss_one (ps_ret (pv 3)))))))))))), ?_⟩
    walk_at "vc"
    refine take_now b (by omega) (by decide) (by decide) fun d H1 d0 d1 e1 b1 => ?_
    walk_at "vc"
    refine ⟨sz_ok (by simp), newL_mk fun l G nl s1 hl => ?_⟩
    walk_at "vc"
    refine take_now (b1.same s1) (by omega) (by decide) (by decide) fun x H2 x0 x1 e2 b2 => ?_
    obtain ⟨n, nm, hz⟩ := pick (ns := [1 + d, 1, 30, 7]) rfl x0 x1 (by show (4 : Int) ≤ 4; decide)
    have nb : 1 ≤ n ∧ n ≤ 30 := by
      simp only [List.mem_cons, List.not_mem_nil, or_false] at nm
      omega
    walk_at "vc"
    refine w_ixL (.of (e2 _ _ (b1.ne nl) hl)) hz ?_
    walk_at "vc"
    refine w_rng1 (by omega) ?_
    refine lcs_go wk_range ?_
    intro D nD
    have e3 : Bt p H H2 := (e1.trans (.of s1)).trans e2
    refine ⟨fun i H' => ∃ zs : List Str, H' D = some (.lst (zs.map V.str)) ∧ zs.length = i ∧ (∀ z ∈ zs, z.length = 1) ∧ Bt p H H' ∧ Bg H' p (c + 2 + i) ∧ D ≠ p, ⟨[], upd_same, rfl, (fun _ h => nomatch h), e3.trans (.new nD), (b2.same (same_new nD)).more (by omega), b2.ne nD⟩, fun _ _ _ _ => trivial, ?_, ?_⟩
    · rintro i y H' hi rfl ⟨zs, hD, hl, ho, e4, b4, nDp⟩
      walk_at "vc"
      refine ⟨rfl, ?_⟩
      walk_at "vc"
      refine w_itT rfl ?_
      walk_at "vc"
      refine take_now b4 (by omega) (by decide) (by decide) fun u H5 u0 u1 e5 b5 => ?_
      obtain ⟨sg, sm, hs⟩ := at_sign (z := FG) u0 (by rw [fg_len]; exact u1)
      walk_at "vc"
      refine w_ixS (z := FG) (sz_ok (by rw [fg_len]; decide)) hs ?_
      have hD5 : H5 D = some (.lst (zs.map V.str)) := e5 _ _ nDp hD
      refine ⟨_, hD5, by rw [List.length_map, sizeLine_eq]; omega, zs ++ [⟨#[sg]⟩], ?_, by rw [List.length_append, hl]; rfl, ?_, ?_, ?_, nDp⟩
      · rw [upd_same, List.map_append]; rfl
      · intro z hz
        rcases List.mem_append.mp hz with h | h
        · exact ho z h
        · rw [List.mem_singleton.mp h]; rfl
      · exact (e4.trans e5).put (e3.back nDp nD)
      · exact (b5.put nDp).more (by omega)
    · rintro H' ⟨zs, hD, hl, ho, e4, b4, nDp⟩
      have hsum : (zs.map (·.length)).sum = zs.length := by
        clear hD hl
        induction zs with
        | nil => rfl
        | cons z zs ih =>
          rw [List.map_cons, List.sum_cons, ho z List.mem_cons_self, ih fun y hy => ho y (List.mem_cons_of_mem _ hy), List.length_cons]
          omega
      have hj : (Txt.join "" zs).length = zs.length := by rw [TL.join_eq]; exact (join_len "" rfl zs).trans hsum
      walk_at "vc"
      refine ⟨_, D, zs, rfl, rfl, .inl (.of hD), ?_, ?_⟩
      · rw [hsum]
        show zs.length + zs.length * 0 ≤ 16777216
        omega
      generalize Txt.join "" zs = tx at hj
      walk_at "vc"
      refine ⟨rfl, ?_⟩
      walk_at "vc"
      refine ⟨tx, _, rfl, rfl, sz_ok (by omega), ?_⟩
      walk_at "vc"
      have hls := len_lstripChars tx "0"
      generalize Txt.lstripChars tx "0" = ty at hls
      refine ⟨sz_ok (by simp), newL_mk fun l3 G3 n3 s3 h3 => ?_⟩
      walk_at "vc"
      refine take_now (b4.same s3) (by omega) (by decide) (by decide) fun r H6 r0 r1 e6 b6 => ?_
      obtain ⟨tz, tm, ht⟩ := pickS (zs := [tx, "1000000", "1000001", "1000000000", "0", ty]) rfl r0 r1 (by show (6 : Int) ≤ 6; decide)
      have tl : tz.length ≤ 30 := by
        have k1 : ("1000000" : Str).length = 7 := by decide +kernel
        have k2 : ("1000001" : Str).length = 7 := by decide +kernel
        have k3 : ("1000000000" : Str).length = 10 := by decide +kernel
        have k4 : ("0" : Str).length = 1 := by decide +kernel
        simp only [List.mem_cons, List.not_mem_nil, or_false] at tm
        rcases tm with rfl | rfl | rfl | rfl | rfl | rfl <;> omega
      walk_at "vc"
      refine w_ixL (.of (e6 _ _ (b4.ne n3) h3)) ht ?_
      walk_at "vc"
      refine ⟨tz, rfl, sz_ok (by omega), ?_⟩
      walk_at "vc"
      refine take_now b6 (by omega) (by omega) (by omega) fun at_ H7 at0 at1 e7 b7 => ?_
      walk_at "vc"
      refine take_now b7 (by omega) (by decide) (by decide) fun way H8 way0 way1 e8 b8 => ?_
      have e48 : Bt p H H8 := ((((e4.trans (.of s3)).trans e6).trans e7).trans e8)
      have l1 := cut_len tz none (some at_)
      have l2 := cut_len tz (some at_) none
      have l3' := cut_len tz (some (at_ + 1)) none
      walk_at "vc"
      refine w_ite (fun c0 => ?_) (fun c0 => ?_)
      · walk_at "vc"
        refine w_slS (sz_ok (by omega)) ?_
        walk_at "vc"
        refine ⟨SG, rfl, sz_ok (by rw [sg_len]; decide), ?_⟩
        walk_at "vc"
        refine take_now b8 (by omega) (by rw [sg_len]; decide) (by rw [sg_len]; decide) fun u H9 u0 u1 e9 b9 => ?_
        obtain ⟨sg, sm, hs⟩ := at_sign (z := SG) u0 u1
        walk_at "vc"
        refine w_ixS (z := SG) (sz_ok (by rw [sg_len]; decide)) hs ?_
        walk_at "vc"
        have k1 : (⟨#[sg]⟩ : Str).length = 1 := rfl
        refine ⟨_, _, rfl, rfl, sz_ok (by omega), ?_⟩
        walk_at "vc"
        refine w_slS (sz_ok (by omega)) ?_
        have k2 := app_len (cutS tz none (some at_)) ⟨#[sg]⟩
        walk_at "vc"
        refine ⟨_, _, rfl, rfl, sz_ok (by omega), ?_⟩
        have k3 := app_len (cutS tz none (some at_) ++ ⟨#[sg]⟩) (cutS tz (some at_) none)
        walk_at "vc"
        exact q _ _ (by omega) (e48.trans e9) (b9.more (by omega))
      walk_at "vc"
      refine w_ite (fun c0 => ?_) (fun c0 => ?_)
      · walk_at "vc"
        refine w_slS (sz_ok (by omega)) ?_
        walk_at "vc"
        refine ⟨SG, rfl, sz_ok (by rw [sg_len]; decide), ?_⟩
        walk_at "vc"
        refine take_now b8 (by omega) (by rw [sg_len]; decide) (by rw [sg_len]; decide) fun u H9 u0 u1 e9 b9 => ?_
        obtain ⟨sg, sm, hs⟩ := at_sign (z := SG) u0 u1
        walk_at "vc"
        refine w_ixS (z := SG) (sz_ok (by rw [sg_len]; decide)) hs ?_
        walk_at "vc"
        have k1 : (⟨#[sg]⟩ : Str).length = 1 := rfl
        refine ⟨_, _, rfl, rfl, sz_ok (by omega), ?_⟩
        walk_at "vc"
        refine w_slS (sz_ok (by omega)) ?_
        have k2 := app_len (cutS tz none (some at_)) ⟨#[sg]⟩
        walk_at "vc"
        refine ⟨_, _, rfl, rfl, sz_ok (by omega), ?_⟩
        have k3 := app_len (cutS tz none (some at_) ++ ⟨#[sg]⟩) (cutS tz (some (at_ + 1)) none)
        walk_at "vc"
        exact q _ _ (by omega) (e48.trans e9) (b9.more (by omega))
      walk_at "vc"
      refine w_ite (fun c0 => ?_) (fun c0 => ?_)
      · walk_at "vc"
        refine ⟨sz_ok (by simp), newL_mk fun l4 G4 n4 s4 h4 => ?_⟩
        walk_at "vc"
        refine take_now (b8.same s4) (by omega) (by decide) (by decide) fun u H9 u0 u1 e9 b9 => ?_
        obtain ⟨ta, tam, hta⟩ := pickS (zs := ["0", "-", "+", "00"]) rfl u0 u1 (by show (4 : Int) ≤ 4; decide)
        have tal : ta.length ≤ 2 := by
          have k1 : ("0" : Str).length = 1 := by decide +kernel
          have k2 : ("-" : Str).length = 1 := by decide +kernel
          have k3 : ("+" : Str).length = 1 := by decide +kernel
          have k4 : ("00" : Str).length = 2 := by decide +kernel
          simp only [List.mem_cons, List.not_mem_nil, or_false] at tam
          rcases tam with rfl | rfl | rfl | rfl <;> omega
        walk_at "vc"
        refine w_ixL (.of (e9 _ _ (b8.ne n4) h4)) hta ?_
        walk_at "vc"
        refine ⟨_, _, rfl, rfl, sz_ok (by omega), ?_⟩
        have k3 := app_len ta tz
        walk_at "vc"
        exact q _ _ (by omega) ((e48.trans (.of s4)).trans e9) (b9.more (by omega))
      walk_at "vc"
      exact q _ _ (by omega) e48 (b8.more (by omega))

theorem ok__law_bound (T : Txt K mg A) (G__law_take : Kp P w K mg base CX0 1 A.f__law_take ["_law_bag_here", "_law_below"] [] (spTake))  : Kp P w K mg base CX0 2 A.f__law_bound ["_law_bag_here", "_law_near"] [] (spBound) := by
  obtain ⟨fd, F⟩ := T.d__law_bound.ex
  refine ⟨fd, fnG_nx (k := 1) F sc__law_bound (fun vs H Q E h => ?_) (fun cdv Ar outer s H vs Q E hcl hr h => ?_), F.binds (fun _ _ _ _ _ _ us hl => match us, hl with | [_, _], _ => rfl)⟩
  · obtain ⟨p, c, x, rfl, b, hc, hx, q⟩ := h
    rfl
  · obtain ⟨p, c, x, rfl, b, hc, hx, q⟩ := h
    have hu64 := hr.units
    have hu := hu_of hr
    refine ⟨_, (pss_cons (ps_set (i := 2) sc__law_bound.nd rfl (Or.inl rfl) (pe_lst (pa_cons pe_int (pa_cons pe_int (pa_cons pe_int (pa_cons (pe_op op_pow pe_int pe_int) (pa_cons (pe_fn (callK0 G__law_take hcl (hr.mono (by decide)) pass0) (by rfl) T.d__law_take.mg T.d__law_take.kp (pa_cons (pv 0) (pa_cons (pe_op op_add (pe_op op_pow pe_int pe_int) pe_int) pa_nil))) pa_nil)))))))
      (pss_cons (ps_if (pt_cmpR op_notN (pv 1) pe_non (nomark _)) (pss_one (ps_expr (pe_bm PySem.F.plainAttrs_list PySem.F.slot_list_append PySem.F.type_list_append mt_append (pv 2) (pa_cons (pe_callB (call_max2 rfl) (by rfl) T.z_max (by decide +kernel) (pa_cons pe_int (pa_cons (pe_callB (call_min2 rfl) (by rfl) T.z_min (by decide +kernel) (pa_cons (pe_op op_pow pe_int pe_int) (pa_cons (pe_op op_sub (pe_op op_add (pv 1) (pe_fn (callK0 G__law_take hcl (hr.mono (by decide)) pass0) (by rfl) T.d__law_take.mg T.d__law_take.kp (pa_cons (pv 0) (pa_cons pe_int pa_nil)))) pe_int) pa_nil))) pa_nil))) pa_nil)))) pss_nil)
      (pss_one (ps_ret (pe_ix ix_list (pv 2) (pe_fn (callK0 G__law_take hcl (hr.mono (by decide)) pass0) (by rfl) T.d__law_take.mg T.d__law_take.kp (pa_cons (pv 0) (pa_cons (pe_callB call_len_seq (by rfl) T.z_len (by decide +kernel) (pa_cons (pv 2) pa_nil)) pa_nil))) (fun _ _ => rfl)))))), ?_⟩
    walk_at "vc"
    refine w_rI ⟨by decide, by decide, by decide⟩ ?_
    walk_at "vc"
    refine w_rI ⟨by decide, by decide, by decide⟩ ?_
    walk_at "vc"
    refine take_now b (by omega) (by decide) (by decide) fun d H1 d0 d1 e1 b1 => ?_
    have d2 : d ≤ 1000000000 := by
      have : d < 1000000001 := d1
      omega
    walk_at "vc"
    refine ⟨sz_ok (by simp), newL_mk fun l G nl s1 hl => ?_⟩
    walk_at "vc"
    have fin : ∀ (ms : List Int) (G2 : Hp), (∀ m ∈ ms, 0 ≤ m ∧ m ≤ 1000000000) → 0 < ms.length → ms.length ≤ 6 → G2 l = some (.lst (ms.map V.int)) → Bt p H G2 → Bg G2 p (c + 2) → ∀ u H3, 0 ≤ u → u < (ms.length : Int) → Bt p G2 H3 → Bg H3 p (c + 2 + 1) → rIxL K (.ref l) (.int u) H3 Q := by
      intro ms G2 hm h0 h6 hl2 e2 b2 u H3 u0 u1 e3 b3
      obtain ⟨m, mm, hz⟩ := pick (ns := ms) rfl u0 u1 (Int.le_refl _)
      refine w_ixL (.of (e3 _ _ (b1.ne nl) hl2)) hz ?_
      exact q m H3 (hm m mm).1 (hm m mm).2 (e2.trans e3) (b3.more (by omega))
    rcases hx with rfl | ⟨n, rfl⟩
    · refine w_itF rfl ?_
      walk_at "vc"
      refine ⟨l, _, rfl, .inl (.of hl), ?_⟩
      walk_at "vc"
      refine take_now ((b1.same s1).more (d := c + 2) (by omega)) (by omega) (show (0 : Int) < 5 by decide) (show (5 : Int).natAbs < 2 ^ 200 by decide) fun u H3 u0 u1 e3 b3 => ?_
      walk_at "vc"
      refine fin [0, 1, 1000000, 1000000000, d] G (fun m hm => ?_) (by simp) (by simp) hl (e1.trans (.of s1)) ((b1.same s1).more (by omega)) u H3 u0 u1 e3 b3
      simp only [List.mem_cons, List.not_mem_nil, or_false] at hm
      omega
    · refine w_itT rfl ?_
      walk_at "vc"
      refine w_tyL hl ?_
      walk_at "vc"
      refine w_rI ⟨by decide, by decide, by decide⟩ ?_
      walk_at "vc"
      refine take_now (b1.same s1) (by omega) (by decide) (by decide) fun e H3 e0 e9 e3 b3 => ?_
      walk_at "vc"
      refine ⟨_, _, rfl, ?_⟩
      walk_at "vc"
      refine ⟨_, _, rfl, ?_⟩
      walk_at "vc"
      have hl3 := e3 _ _ (b1.ne nl) hl
      refine w_append hl3 (by simp [sizeLine_eq]) ?_
      have big : (10 : Int) ^ Int.toNat 9 = 1000000000 := by decide
      have hM : ∃ M : Int, M = (if (if n + e - 1 < (10 : Int) ^ Int.toNat 9 then n + e - 1 else (10 : Int) ^ Int.toNat 9) > 0 then (if n + e - 1 < (10 : Int) ^ Int.toNat 9 then n + e - 1 else (10 : Int) ^ Int.toNat 9) else 0) ∧ 0 ≤ M ∧ M ≤ 1000000000 := ⟨_, rfl, by rw [big]; constructor <;> (split <;> (try split)) <;> omega⟩
      obtain ⟨M, eM, M0, M9⟩ := hM
      rw [← eM]
      have hu : (upd H3 l (.lst ([V.int 0, .int 1, .int 1000000, .int (10 ^ Int.toNat 9), .int d] ++ [.int M]))) l = some (.lst (([0, 1, 1000000, 1000000000, d, M] : List Int).map V.int)) := upd_same
      walk_at "vc"
      refine ⟨l, _, rfl, .inl (.of hu), ?_⟩
      walk_at "vc"
      have b4 := b3.put (o := .lst ([V.int 0, .int 1, .int 1000000, .int (10 ^ Int.toNat 9), .int d] ++ [.int M])) (b1.ne nl)
      refine take_now (b4.more (d := c + 2) (by omega)) (by omega) (show (0 : Int) < 6 by decide) (show (6 : Int).natAbs < 2 ^ 200 by decide) fun u H4 u0 u1 e4 b5 => ?_
      walk_at "vc"
      refine fin [0, 1, 1000000, 1000000000, d, M] _ (fun m hm => ?_) (by simp) (by simp) hu (((e1.trans (.of s1)).trans e3).put (e1.back (b1.ne nl) nl)) (b4.more (by omega)) u H4 u0 u1 e4 b5
      simp only [List.mem_cons, List.not_mem_nil, or_false] at hm
      omega


def numD (v : V) (lo hi : Int) : PyData := match numV v lo hi with
  | .int n => .int n
  | _ => .none
theorem dp_num {K : PySem.W.Frag} {H : Hp} (v : V) (lo hi : Int) : Dp K H (numV v lo hi) (numD v lo hi) := by
  unfold numD
  rcases num_kind v lo hi with h | ⟨n, h, _⟩
  · rw [h]; exact .non
  · rw [h]; exact .int n
theorem sh_num (v : V) {lo hi : Int} (h0 : 0 ≤ lo) (h9 : hi ≤ 1000000000) : Sh (numD v lo hi) 1921 0 := by
  unfold numD
  rcases num_kind v lo hi with h | ⟨n, h, a, b⟩
  · rw [h]; exact .non
  · rw [h]; exact .small (by have : n.natAbs ≤ 1000000000 := by omega
                             exact Nat.lt_of_le_of_lt this (by decide))
theorem scal_num (v : V) (lo hi : Int) : scal (numV v lo hi) (numV v lo hi) = true := by
  rcases num_kind v lo hi with h | ⟨n, h, a, b⟩
  · rw [h]; rfl
  · rw [h]; rfl
def five (v : V) (lo hi : Int) : List V := [numV v lo hi, numV v 0 hi, numV v lo 1000000, numV v 0 1000000, numV v hi lo]
def fiveD (v : V) (lo hi : Int) : List PyData := [numD v lo hi, numD v 0 hi, numD v lo 1000000, numD v 0 1000000, numD v hi lo]
theorem dp_five {K : PySem.W.Frag} {H : Hp} {l : Addr} {v : V} {lo hi : Int} (h : H l = some (.lst (five v lo hi))) : Dp K H (.ref l) (.list (fiveD v lo hi)) :=
  .lst (.of h) (.cons (dp_num ..) (.cons (dp_num ..) (.cons (dp_num ..) (.cons (dp_num ..) (.cons (dp_num ..) .nil)))))
theorem sh_five (v : V) {lo hi : Int} (a : 0 ≤ lo) (b : lo ≤ 1000000000) (c : 0 ≤ hi) (d : hi ≤ 1000000000) : Sh (.list (fiveD v lo hi)) 9618 1 := by
  refine Sh.list (B := 1921) (k := 0) fun x hx => ?_
  simp only [fiveD, List.mem_cons, List.not_mem_nil, or_false] at hx
  rcases hx with rfl | rfl | rfl | rfl | rfl
  · exact sh_num v a d
  · exact sh_num v (Int.le_refl 0) d
  · exact sh_num v a (by decide)
  · exact sh_num v (Int.le_refl 0) (by decide)
  · exact sh_num v c b
theorem sm_not {v : V} (h : isStr v = false) : Sm60 v := fun z e => by rw [e] at h; cases h
def spLaw (K : PySem.W.Frag) : Sp := fun vs H Q _ => ∃ (a : Addr) (ns : List Int), vs = [.ref a] ∧ SqL K H a (ns.map V.int) ∧ ns.length ≤ 63 ∧ ∀ H', Q (.bl true) H'

theorem ok_law (T : Txt K mg A) (G__law_cell : Kp P w K mg base CX0 1 A.f__law_cell ["_law_script", "_law_k"] [] (spCel K)) (G__law_bag : Kp P w K mg base CX0 1 A.f__law_bag ["_law_cell_here"] [] (spBag)) (G__law_take : Kp P w K mg base CX0 1 A.f__law_take ["_law_bag_here", "_law_below"] [] (spTake)) (G__law_text : Kp P w K mg base CX0 2 A.f__law_text ["_law_bag_here"] [] (spTxt)) (G__law_read : Kp P w K mg base CX0 1 A.f__law_read ["_law_one"] [] (spRead K)) (G__law_bound : Kp P w K mg base CX0 2 A.f__law_bound ["_law_bag_here", "_law_near"] [] (spBound)) (G__law_between : Kp P w K mg base CX0 1 A.f__law_between ["_law_number", "_law_low", "_law_high"] [] (spBetw)) (G_number_of : Kx P w K mg base CX0 3 "number_of" "number_of" s_number_of [] ([("least", .int 0), ("most", .int 1000000)] : List (Str × V)) A.f_number_of ["thing", "least", "most"] (spNo K))  {fd : FuncData} (F : Fun K "law" "law" s_law A.f_law fd) : FnG P w K mg base CX0 4 A.f_law fd ["_law_script"] (spLaw K) := by
  refine fnG_nx (k := 3) F sc_law (fun vs H Q E h => ?_) (fun cdv Ar outer s H vs Q E hcl hr h => ?_)
  · obtain ⟨a, ns, rfl, hS, hl, q⟩ := h
    rfl
  · obtain ⟨a, ns, rfl, hS, hl, q⟩ := h
    have hu64 := hr.units
    have hu := hu_of hr
    refine ⟨_, (pss_cons (ps_for PassesOwn.never rfl (pi_range1 (by rfl) T.z_range (pa_cons (pe_callB (call_max2 rfl) (by rfl) T.z_max (by decide +kernel) (pa_cons pe_int (pa_cons (pe_callB (call_min2 rfl) (by rfl) T.z_min (by decide +kernel) (pa_cons pe_int (pa_cons (pe_callB call_len_seq (by rfl) T.z_len (by decide +kernel) (pa_cons (pv 0) pa_nil)) pa_nil))) pa_nil))) pa_nil)) (pg_name (i := 1) sc_law.nd rfl (Or.inl rfl)) (pss_cons (ps_set (i := 2) sc_law.nd rfl (Or.inl rfl) (pe_fn (callK0 G__law_bag hcl (hr.mono (by decide)) pass0) (by rfl) T.d__law_bag.mg T.d__law_bag.kp (pa_cons (pe_fn (callK0 G__law_cell hcl (hr.mono (by decide)) pass0) (by rfl) T.d__law_cell.mg T.d__law_cell.kp (pa_cons (pv 0) (pa_cons (pv 1) pa_nil))) pa_nil)))
      (pss_cons (ps_set (i := 3) sc_law.nd rfl (Or.inl rfl) (pe_ix ix_list (pe_lst (pa_cons pe_non (pa_cons pe_int (pa_cons pe_int (pa_cons pe_bl (pa_cons (pe_lst pa_nil) (pa_cons (pe_tup pa_nil) (pa_cons pe_dnewK (pa_cons (pe_lst (pa_cons pe_str pa_nil)) (pa_cons (pe_tup (pa_cons pe_str pa_nil)) (pa_cons (pe_un un_neg pe_int) pa_nil))))))))))) (pe_fn (callK0 G__law_take hcl (hr.mono (by decide)) pass0) (by rfl) T.d__law_take.mg T.d__law_take.kp (pa_cons (pv 2) (pa_cons pe_int pa_nil))) (fun _ _ => rfl)))
      (pss_one (ps_for PassesOwn.never rfl (pi_list (pe_lst (pa_cons (pe_fn (callK0 G__law_text hcl (hr.mono (by decide)) pass0) (by rfl) T.d__law_text.mg T.d__law_text.kp (pa_cons (pv 2) pa_nil)) (pa_cons (pv 3) (pa_cons (pe_fn (callK0 G__law_text hcl (hr.mono (by decide)) pass0) (by rfl) T.d__law_text.mg T.d__law_text.kp (pa_cons (pv 2) pa_nil)) pa_nil))))) (pg_name (i := 4) sc_law.nd rfl (Or.inl rfl)) (pss_cons (ps_set (i := 5) sc_law.nd rfl (Or.inl rfl) (pe_fn (callK0 G__law_read hcl (hr.mono (by decide)) pass0) (by rfl) T.d__law_read.mg T.d__law_read.kp (pa_cons (pv 4) pa_nil)))
      (pss_cons (ps_par (i := 6) (j := 7) (by rfl) sc_law.nd rfl rfl (by decide) rfl rfl (pa_cons (pe_fn (callK0 G__law_bound hcl (hr.mono (by decide)) pass0) (by rfl) T.d__law_bound.mg T.d__law_bound.kp (pa_cons (pv 2) (pa_cons (pv 5) pa_nil))) (pa_cons (pe_fn (callK0 G__law_bound hcl (hr.mono (by decide)) pass0) (by rfl) T.d__law_bound.mg T.d__law_bound.kp (pa_cons (pv 2) (pa_cons (pv 5) pa_nil))) pa_nil)) (by rfl))
      (pss_cons (ps_set (i := 8) sc_law.nd rfl (Or.inl rfl) (pe_lst (pa_cons (pe_fn (callK0 G__law_between hcl (hr.mono (by decide)) pass0) (by rfl) T.d__law_between.mg T.d__law_between.kp (pa_cons (pv 5) (pa_cons (pv 6) (pa_cons (pv 7) pa_nil)))) (pa_cons (pe_fn (callK0 G__law_between hcl (hr.mono (by decide)) pass0) (by rfl) T.d__law_between.mg T.d__law_between.kp (pa_cons (pv 5) (pa_cons pe_int (pa_cons (pv 7) pa_nil)))) (pa_cons (pe_fn (callK0 G__law_between hcl (hr.mono (by decide)) pass0) (by rfl) T.d__law_between.mg T.d__law_between.kp (pa_cons (pv 5) (pa_cons (pv 6) (pa_cons (pe_gv (by rfl) T.c_MOST) pa_nil)))) pa_nil)))))
      (pss_cons (ps_set (i := 8) sc_law.nd rfl (Or.inl rfl) (pe_op op_cat (pv 8) (pe_lst (pa_cons (pe_fn (callK0 G__law_between hcl (hr.mono (by decide)) pass0) (by rfl) T.d__law_between.mg T.d__law_between.kp (pa_cons (pv 5) (pa_cons pe_int (pa_cons pe_int pa_nil)))) (pa_cons (pe_fn (callK0 G__law_between hcl (hr.mono (by decide)) pass0) (by rfl) T.d__law_between.mg T.d__law_between.kp (pa_cons (pv 5) (pa_cons (pv 7) (pa_cons (pv 6) pa_nil)))) pa_nil)))))
      (pss_one (ps_for PassesOwn.never rfl (pi_range1 (by rfl) T.z_range (pa_cons pe_int pa_nil)) (pg_name (i := 9) sc_law.nd rfl (Or.inl rfl)) (pss_cons (ps_set (i := 10) sc_law.nd rfl (Or.inl rfl) (pe_lst (pa_cons (pe_fnK (callKR_x G_number_of hcl (hr.mono (by decide)) (fun _ F => kb_number_of_1_least_most F) pass0) (by rfl) T.x_number_of.mg T.x_number_of.kp (pa_cons (pv 4) pa_nil) (pk_cons (pv 6) (pk_cons (pv 7) pk_nil))) (pa_cons (pe_fnK (callKR_x G_number_of hcl (hr.mono (by decide)) (fun _ F => kb_number_of_1_most F) pass0) (by rfl) T.x_number_of.mg T.x_number_of.kp (pa_cons (pv 4) pa_nil) (pk_cons (pv 7) pk_nil)) pa_nil))))
      (pss_cons (ps_set (i := 10) sc_law.nd rfl (Or.inl rfl) (pe_op op_cat (pv 10) (pe_lst (pa_cons (pe_fnK (callKR_x G_number_of hcl (hr.mono (by decide)) (fun _ F => kb_number_of_1_least F) pass0) (by rfl) T.x_number_of.mg T.x_number_of.kp (pa_cons (pv 4) pa_nil) (pk_cons (pv 6) pk_nil)) (pa_cons (pe_fn (callR_x G_number_of hcl (hr.mono (by decide)) (fun _ F => kb_number_of_1 F) pass0) (by rfl) T.x_number_of.mg T.x_number_of.kp (pa_cons (pv 4) pa_nil)) (pa_cons (pe_fnK (callKR_x G_number_of hcl (hr.mono (by decide)) (fun _ F => kb_number_of_1_most_least F) pass0) (by rfl) T.x_number_of.mg T.x_number_of.kp (pa_cons (pv 4) pa_nil) (pk_cons (pv 6) (pk_cons (pv 7) pk_nil))) pa_nil))))))
      (pss_one (ps_if (PW.pt (pw_or (pt_cmpR op_ne (pe_callB (call_show hcl hr) (by rfl) T.z_repr (by decide +kernel) (pa_cons (pv 10) pa_nil)) (pe_callB (call_show hcl hr) (by rfl) T.z_repr (by decide +kernel) (pa_cons (pv 8) pa_nil)) (nomark _)) (pw_or1 (pt_cmpR op_ne (pe_fnK0 (callKR_x G_number_of hcl (hr.mono (by decide)) (fun _ F => kb_number_of_0_most_thing_least F) pass0) (by rfl) T.x_number_of.mg T.x_number_of.kp (pk_cons (pv 7) (pk_cons (pv 4) (pk_cons (pv 6) pk_nil)))) (pe_ix ix_list (pv 8) pe_int (fun _ _ => rfl)) (nomark _))))) (pss_one (ps_ret pe_bl)) pss_nil)))))))))))))))
      (pss_one (ps_ret (pe_cmpR op_eq (pe_gv (by rfl) T.c_MOST) pe_int (nomark _))))), ?_⟩
    walk_at "vc"
    refine ⟨a, _, rfl, .inl hS, ?_⟩
    walk_at "vc"
    refine ⟨_, _, rfl, ?_⟩
    walk_at "vc"
    refine ⟨_, _, rfl, ?_⟩
    walk_at "vc"
    rw [List.length_map]
    refine w_rng1 (by split <;> split <;> omega) ?_
    refine fors_go wk_range ⟨fun i σ H' => ∃ v1 v2 v3 v4 v5 v6 v7 v8 v9 v10 : Option V, σ = [some (.ref a), v1, v2, v3, v4, v5, v6, v7, v8, v9, v10] ∧ SqL K H' a (ns.map V.int), ⟨_, _, _, _, _, _, _, _, _, _, rfl, hS⟩, fun _ _ _ _ _ => trivial, ?_, ?_⟩
    · rintro i x σ H' hi rfl ⟨v1, v2, v3, v4, v5, v6, v7, v8, v9, v10, rfl, hS'⟩
      have hi' : (i : Int) ≤ 1000 := by
        revert hi
        split <;> split <;> omega
      walk_at "vc"
      refine ⟨a, ns, i, rfl, hS', hl, by omega, hi', fun z G1 s1 => ?_⟩
      walk_at "vc"
      refine ⟨z, rfl, fun p G2 np s2 b2 => ?_⟩
      walk_at "vc"
      refine ⟨sz_ok (by simp), newL_mk fun o1 O1 m1 r1 c1 => ?_⟩
      walk_at "vc"
      refine ⟨sz_ok (by simp), newT_mk fun o2 O2 m2 r2 c2 => ?_⟩
      walk_at "vc"
      refine newD_mk fun o3 O3 m3 r3 c3 => ?_
      walk_at "vc"
      refine ⟨sz_ok (by simp), newL_mk fun o4 O4 m4 r4 c4 => ?_⟩
      walk_at "vc"
      refine ⟨sz_ok (by simp), newT_mk fun o5 O5 m5 r5 c5 => ?_⟩
      walk_at "vc"
      refine ⟨sz_ok (by simp), newL_mk fun o6 O6 m6 r6 c6 => ?_⟩
      walk_at "vc"
      have q1 := b2.ne m1
      have p1 := b2.same r1
      have q2 := p1.ne m2
      have p2 := p1.same r2
      have q3 := p2.ne m3
      have p3 := p2.same r3
      have q4 := p3.ne m4
      have p4 := p3.same r4
      have q5 := p4.ne m5
      have p5 := p4.same r5
      have q6 := p5.ne m6
      have p6 := p5.same r6
      refine take_now p6 (by omega) (by decide) (by decide) fun u O7 u0 u1 e7 b7 => ?_
      obtain ⟨odd, om, ho⟩ := atI_mem (l := [.non, .int 0, .int 7, .bl true, .ref o1, .ref o2, .ref o3, .ref o4, .ref o5, .int (-1)]) u0 u1
      walk_at "vc"
      refine w_ixL (.of (e7 _ _ q6 c6)) ho ?_
      have ko : Kn K p O7 odd ∧ isStr odd = false := by
        simp only [List.mem_cons, List.not_mem_nil, or_false] at om
        rcases om with rfl | rfl | rfl | rfl | rfl | rfl | rfl | rfl | rfl | rfl
        · exact ⟨.non, rfl⟩
        · exact ⟨.int _, rfl⟩
        · exact ⟨.int _, rfl⟩
        · exact ⟨.bl _, rfl⟩
        · exact ⟨.lst q1 (e7 _ _ q1 (r6 _ _ (r5 _ _ (r4 _ _ (r3 _ _ (r2 _ _ c1)))))), rfl⟩
        · exact ⟨.tup q2 (e7 _ _ q2 (r6 _ _ (r5 _ _ (r4 _ _ (r3 _ _ c2))))), rfl⟩
        · exact ⟨.dct q3 (e7 _ _ q3 (r6 _ _ (r5 _ _ (r4 _ _ c3)))), rfl⟩
        · exact ⟨.lst q4 (e7 _ _ q4 (r6 _ _ (r5 _ _ c4))), rfl⟩
        · exact ⟨.tup q5 (e7 _ _ q5 (r6 _ _ c5)), rfl⟩
        · exact ⟨.int _, rfl⟩
      walk_at "vc"
      refine ⟨p, _, rfl, b7, by omega, fun z1 H1 hz1 e1 b1 => ?_⟩
      walk_at "vc"
      refine ⟨p, _, rfl, b1, by omega, fun z2 H2 hz2 e2 b3 => ?_⟩
      walk_at "vc"
      refine ⟨sz_ok (by simp), newL_mk fun l5 J5 n5 s5 h5 => ?_⟩
      refine w_lst1 (.of h5) ?_
      have l5p := b3.ne n5
      have b5 := b3.same s5
      have kn5 : ∀ v ∈ [V.str z1, odd, V.str z2], Kn K p J5 v ∧ Sm60 v := by
        intro v hv
        simp only [List.mem_cons, List.not_mem_nil, or_false] at hv
        rcases hv with rfl | rfl | rfl
        · exact ⟨.str _, fun z h => by cases h; exact hz1⟩
        · exact ⟨((ko.1.mono e1).mono e2).same s5, sm_not ko.2⟩
        · exact ⟨.str _, fun z h => by cases h; exact hz2⟩
      have hS5 : ∀ G, Bt p J5 G → SqL K G a (ns.map V.int) := by
        intro G g
        have r16 := ((((r1.trans r2).trans r3).trans r4).trans r5).trans r6
        rcases s1.seq hS' with (h | ⟨o, h⟩) | h
        · have n1 := ne_of_none h np
          exact .inl (.inl (g _ _ n1 (s5 _ _ (e2 _ _ n1 (e1 _ _ n1 (e7 _ _ n1 (r16 _ _ (s2 _ _ h))))))))
        · have n1 := ne_of_none h np
          exact .inl (.inr ⟨o, g _ _ n1 (s5 _ _ (e2 _ _ n1 (e1 _ _ n1 (e7 _ _ n1 (r16 _ _ (s2 _ _ h))))))⟩)
        · exact .inr h
      refine fors_go wk_list ⟨fun i2 σ H2 => ∃ w4 w5 w6 w7 w8 w9 w10 : Option V, σ = [some (.ref a), some (.int i), some (.ref p), some odd, w4, w5, w6, w7, w8, w9, w10] ∧ Bt p J5 H2 ∧ Bg H2 p (121 + 10 * i2), ⟨_, _, _, _, _, _, _, rfl, Bt.refl, b5.more (by omega)⟩, fun i2 σ H2 _ ⟨_, _, _, _, _, _, _, _, s, _⟩ => s.rd l5p (.of h5), ?_, ?_⟩
      · rintro i2 x2 σ H2 hi2 hx2 ⟨w4, w5, w6, w7, w8, w9, w10, rfl, sJ, bJ⟩
        obtain ⟨kv, sv⟩ := kn5 x2 (List.mem_of_getElem? hx2)
        have hi2' : i2 < 3 := hi2
        have kv2 := kv.mono sJ
        walk_at "vc"
        refine ⟨p, x2, rfl, kv2, sv, fun F1 f1 => ?_⟩
        walk_at "vc"
        refine ⟨p, _, _, rfl, bJ.same f1, by omega, rd_kind x2, fun lo F2 lo0 lo9 f2 b2 => ?_⟩
        walk_at "vc"
        refine ⟨p, _, _, rfl, b2, by omega, rd_kind x2, fun hi F3 hi0 hi9 f3 b3 => ?_⟩
        walk_at "vc"
        refine ⟨_, lo, hi, rfl, rd_kind x2, ?_⟩
        walk_at "vc"
        refine ⟨_, 0, hi, rfl, rd_kind x2, ?_⟩
        walk_at "vc"
        refine ⟨_, lo, 1000000, rfl, rd_kind x2, ?_⟩
        walk_at "vc"
        refine ⟨sz_ok (by simp), newL_mk fun d1 F4 n4 f4 h4 => ?_⟩
        walk_at "vc"
        refine ⟨_, 0, 1000000, rfl, rd_kind x2, ?_⟩
        walk_at "vc"
        refine ⟨_, hi, lo, rfl, rd_kind x2, ?_⟩
        walk_at "vc"
        refine ⟨sz_ok (by simp), newL_mk fun d2 F5 n5' f5 h5' => ?_⟩
        refine w_cat (f5 _ _ h4) h5' (by simp [sizeLine_eq]) (newL_mk fun du F6 n6 f6 h6 => ?_)
        have hdu : F6 du = some (.lst (five x2 lo hi)) := h6
        walk_at "vc"
        refine w_rng1 (by decide) ?_
        have t6 : Bt p J5 F6 := ((((sJ.trans (.of f1)).trans f2).trans f3).trans (.of f4)).trans ((Bt.of f5).trans (.of f6))
        have k6 : Kn K p F6 x2 := kv.mono t6
        have bg6 := ((b3.same f4).same f5).same f6
        refine fors_go wk_range ⟨fun i3 σ H3 => ∃ w9 w10 : Option V, σ = [some (.ref a), some (.int i), some (.ref p), some odd, some x2, some (rdV x2), some (.int lo), some (.int hi), some (.ref du), w9, w10] ∧ Same F6 H3, ⟨_, _, rfl, Same.refl _⟩, fun _ _ _ _ _ => trivial, ?_, ?_⟩
        · rintro i3 x3 σ H3 hi3 rfl ⟨w9, w10, rfl, s9⟩
          have k3 := k6.same s9
          walk_at "vc"
          refine w_ckl rfl rfl ?_
          refine ⟨p, x2, lo, hi, rfl, k3, sv.sml, hi0, hi9, fun K1 g1 => ?_⟩
          walk_at "vc"
          refine w_ckl rfl rfl ?_
          refine ⟨p, x2, 0, hi, rfl, k3.same g1, sv.sml, hi0, hi9, fun K2 g2 => ?_⟩
          walk_at "vc"
          refine ⟨sz_ok (by simp), newL_mk fun q1 K3 _ g3 y1 => ?_⟩
          walk_at "vc"
          refine w_ckl rfl rfl ?_
          have k4 := ((k3.same g1).same g2).same g3
          refine ⟨p, x2, lo, 1000000, rfl, k4, sv.sml, by decide, by decide, fun K4 g4 => ?_⟩
          walk_at "vc"
          refine ⟨p, x2, 0, 1000000, rfl, k4.same g4, sv.sml, by decide, by decide, fun K5 g5 => ?_⟩
          walk_at "vc"
          refine w_ckl rfl rfl ?_
          refine ⟨p, x2, hi, lo, rfl, (k4.same g4).same g5, sv.sml, lo0, lo9, fun K6 g6 => ?_⟩
          walk_at "vc"
          refine ⟨sz_ok (by simp), newL_mk fun q2 K7 _ g7 y2 => ?_⟩
          have g37 := ((g4.trans g5).trans g6).trans g7
          refine w_cat (g37 _ _ y1) y2 (by simp [sizeLine_eq]) (newL_mk fun q3 K8 _ g8 y3 => ?_)
          have hfo : K8 q3 = some (.lst (five x2 lo hi)) := y3
          have s8 : Same F6 K8 := ((((s9.trans g1).trans g2).trans g3).trans g37).trans g8
          have sh5 := sh_five x2 lo0 lo9 hi0 hi9
          walk_at "vc"
          refine w_show (dp_five hfo) sh5 ?_
          walk_at "vc"
          refine w_show (dp_five (s8 _ _ hdu)) sh5 ?_
          walk_at "vc"
          refine w_itF (by simp) ?_
          walk_at "vc"
          refine w_ckl rfl rfl ?_
          refine ⟨p, x2, lo, hi, rfl, k6.same s8, sv.sml, hi0, hi9, fun K9 g9 => ?_⟩
          walk_at "vc"
          refine w_ixL (.of (g9 _ _ (s8 _ _ hdu))) atI0 ?_
          walk_at "vc"
          refine w_rNe (scal_num x2 lo hi) ?_
          walk_at "vc"
          refine w_itF (by simp) ?_
          walk_at "vc"
          exact ⟨_, _, rfl, s8.trans g9⟩
        · rintro σ H3 ⟨w9, w10, rfl, s9⟩
          exact ⟨_, _, _, _, _, _, _, rfl, t6.trans (.of s9), (bg6.same s9).more (by omega)⟩
      · rintro σ H2 ⟨w4, w5, w6, w7, w8, w9, w10, rfl, sJ, bJ⟩
        exact ⟨_, _, _, _, _, _, _, _, _, _, rfl, hS5 H2 sJ⟩
    · rintro σ H' ⟨v1, v2, v3, v4, v5, v6, v7, v8, v9, v10, rfl, hS'⟩
      walk_at "vc"
      exact q H'

end
/-! ### the end -/
theorem all_mk {l : PySem.W.OpenLaw} {w : World} {K : PySem.W.Frag} {h : Heap} {mg : Str → Option Value} {fa : Addr} (X : K.In h) (G : h.Ns mainGlobals mg) (hfa : mg "law" = some (.ref fa))
    {od_number_of an_number_of : Option Addr}
    {sl_number_of : Array (Option Value)}
    {oc_number_of dc_number_of pm_number_of cd_number_of ct_number_of : Value}
    {f_number_of : Addr}
    {D_number_of : Addr}
    {kv_number_of_least : Value}
    {kv_number_of_most : Value}
    {od__is_made_of an__is_made_of : Option Addr}
    {sl__is_made_of : Array (Option Value)}
    {oc__is_made_of kV__is_made_of dc__is_made_of pm__is_made_of cd__is_made_of ct__is_made_of : Value}
    {f__is_made_of : Addr}
    {od__is_plain_number an__is_plain_number : Option Addr}
    {sl__is_plain_number : Array (Option Value)}
    {oc__is_plain_number kV__is_plain_number dc__is_plain_number pm__is_plain_number cd__is_plain_number ct__is_plain_number : Value}
    {f__is_plain_number : Addr}
    {od__law_cell an__law_cell : Option Addr}
    {sl__law_cell : Array (Option Value)}
    {oc__law_cell kV__law_cell dc__law_cell pm__law_cell cd__law_cell ct__law_cell : Value}
    {f__law_cell : Addr}
    {od__law_bag an__law_bag : Option Addr}
    {sl__law_bag : Array (Option Value)}
    {oc__law_bag kV__law_bag dc__law_bag pm__law_bag cd__law_bag ct__law_bag : Value}
    {f__law_bag : Addr}
    {od__law_take an__law_take : Option Addr}
    {sl__law_take : Array (Option Value)}
    {oc__law_take kV__law_take dc__law_take pm__law_take cd__law_take ct__law_take : Value}
    {f__law_take : Addr}
    {od__law_read an__law_read : Option Addr}
    {sl__law_read : Array (Option Value)}
    {oc__law_read kV__law_read dc__law_read pm__law_read cd__law_read ct__law_read : Value}
    {f__law_read : Addr}
    {od__law_text an__law_text : Option Addr}
    {sl__law_text : Array (Option Value)}
    {oc__law_text kV__law_text dc__law_text pm__law_text cd__law_text ct__law_text : Value}
    {f__law_text : Addr}
    {od__law_bound an__law_bound : Option Addr}
    {sl__law_bound : Array (Option Value)}
    {oc__law_bound kV__law_bound dc__law_bound pm__law_bound cd__law_bound ct__law_bound : Value}
    {f__law_bound : Addr}
    {od__law_between an__law_between : Option Addr}
    {sl__law_between : Array (Option Value)}
    {oc__law_between kV__law_between dc__law_between pm__law_between cd__law_between ct__law_between : Value}
    {f__law_between : Addr}
    {od_law an_law : Option Addr}
    {sl_law : Array (Option Value)}
    {oc_law kV_law dc_law pm_law cd_law ct_law : Value}
    {f_law : Addr}
    {t_MOST : Tok}
    {t__FIGURES : Tok}
    (a_number_of : PySem.W.nsIn K mainGlobals "number_of" = some (some (.ref f_number_of)))
    (l_number_of : K.lookup f_number_of = some ⟨oc_number_of, od_number_of, .func (PySem.W.fnOf "number_of" "number_of" (defArgs s_number_of) (defBody s_number_of) (defScope s_number_of) .none (.ref D_number_of) dc_number_of pm_number_of an_number_of cd_number_of ct_number_of), sl_number_of⟩)
    (c_number_of : PySem.W.codeIn K cd_number_of "number_of" = true)
    (k_number_of : PySem.W.keepIn K (.ref f_number_of) = true)
    (w_number_of_least : PySem.W.nsIn K D_number_of "least" = some (some kv_number_of_least))
    (w_number_of_most : PySem.W.nsIn K D_number_of "most" = some (some kv_number_of_most))
    (a__is_made_of : PySem.W.nsIn K mainGlobals "_is_made_of" = some (some (.ref f__is_made_of)))
    (l__is_made_of : K.lookup f__is_made_of = some ⟨oc__is_made_of, od__is_made_of, .func (PySem.W.fnOf "_is_made_of" "_is_made_of" (defArgs s__is_made_of) (defBody s__is_made_of) (defScope s__is_made_of) .none kV__is_made_of dc__is_made_of pm__is_made_of an__is_made_of cd__is_made_of ct__is_made_of), sl__is_made_of⟩)
    (c__is_made_of : PySem.W.codeIn K cd__is_made_of "_is_made_of" = true)
    (k__is_made_of : PySem.W.keepIn K (.ref f__is_made_of) = true)
    (a__is_plain_number : PySem.W.nsIn K mainGlobals "_is_plain_number" = some (some (.ref f__is_plain_number)))
    (l__is_plain_number : K.lookup f__is_plain_number = some ⟨oc__is_plain_number, od__is_plain_number, .func (PySem.W.fnOf "_is_plain_number" "_is_plain_number" (defArgs s__is_plain_number) (defBody s__is_plain_number) (defScope s__is_plain_number) .none kV__is_plain_number dc__is_plain_number pm__is_plain_number an__is_plain_number cd__is_plain_number ct__is_plain_number), sl__is_plain_number⟩)
    (c__is_plain_number : PySem.W.codeIn K cd__is_plain_number "_is_plain_number" = true)
    (k__is_plain_number : PySem.W.keepIn K (.ref f__is_plain_number) = true)
    (a__law_cell : PySem.W.nsIn K mainGlobals "_law_cell" = some (some (.ref f__law_cell)))
    (l__law_cell : K.lookup f__law_cell = some ⟨oc__law_cell, od__law_cell, .func (PySem.W.fnOf "_law_cell" "_law_cell" (defArgs s__law_cell) (defBody s__law_cell) (defScope s__law_cell) .none kV__law_cell dc__law_cell pm__law_cell an__law_cell cd__law_cell ct__law_cell), sl__law_cell⟩)
    (c__law_cell : PySem.W.codeIn K cd__law_cell "_law_cell" = true)
    (k__law_cell : PySem.W.keepIn K (.ref f__law_cell) = true)
    (a__law_bag : PySem.W.nsIn K mainGlobals "_law_bag" = some (some (.ref f__law_bag)))
    (l__law_bag : K.lookup f__law_bag = some ⟨oc__law_bag, od__law_bag, .func (PySem.W.fnOf "_law_bag" "_law_bag" (defArgs s__law_bag) (defBody s__law_bag) (defScope s__law_bag) .none kV__law_bag dc__law_bag pm__law_bag an__law_bag cd__law_bag ct__law_bag), sl__law_bag⟩)
    (c__law_bag : PySem.W.codeIn K cd__law_bag "_law_bag" = true)
    (k__law_bag : PySem.W.keepIn K (.ref f__law_bag) = true)
    (a__law_take : PySem.W.nsIn K mainGlobals "_law_take" = some (some (.ref f__law_take)))
    (l__law_take : K.lookup f__law_take = some ⟨oc__law_take, od__law_take, .func (PySem.W.fnOf "_law_take" "_law_take" (defArgs s__law_take) (defBody s__law_take) (defScope s__law_take) .none kV__law_take dc__law_take pm__law_take an__law_take cd__law_take ct__law_take), sl__law_take⟩)
    (c__law_take : PySem.W.codeIn K cd__law_take "_law_take" = true)
    (k__law_take : PySem.W.keepIn K (.ref f__law_take) = true)
    (a__law_read : PySem.W.nsIn K mainGlobals "_law_read" = some (some (.ref f__law_read)))
    (l__law_read : K.lookup f__law_read = some ⟨oc__law_read, od__law_read, .func (PySem.W.fnOf "_law_read" "_law_read" (defArgs s__law_read) (defBody s__law_read) (defScope s__law_read) .none kV__law_read dc__law_read pm__law_read an__law_read cd__law_read ct__law_read), sl__law_read⟩)
    (c__law_read : PySem.W.codeIn K cd__law_read "_law_read" = true)
    (k__law_read : PySem.W.keepIn K (.ref f__law_read) = true)
    (a__law_text : PySem.W.nsIn K mainGlobals "_law_text" = some (some (.ref f__law_text)))
    (l__law_text : K.lookup f__law_text = some ⟨oc__law_text, od__law_text, .func (PySem.W.fnOf "_law_text" "_law_text" (defArgs s__law_text) (defBody s__law_text) (defScope s__law_text) .none kV__law_text dc__law_text pm__law_text an__law_text cd__law_text ct__law_text), sl__law_text⟩)
    (c__law_text : PySem.W.codeIn K cd__law_text "_law_text" = true)
    (k__law_text : PySem.W.keepIn K (.ref f__law_text) = true)
    (a__law_bound : PySem.W.nsIn K mainGlobals "_law_bound" = some (some (.ref f__law_bound)))
    (l__law_bound : K.lookup f__law_bound = some ⟨oc__law_bound, od__law_bound, .func (PySem.W.fnOf "_law_bound" "_law_bound" (defArgs s__law_bound) (defBody s__law_bound) (defScope s__law_bound) .none kV__law_bound dc__law_bound pm__law_bound an__law_bound cd__law_bound ct__law_bound), sl__law_bound⟩)
    (c__law_bound : PySem.W.codeIn K cd__law_bound "_law_bound" = true)
    (k__law_bound : PySem.W.keepIn K (.ref f__law_bound) = true)
    (a__law_between : PySem.W.nsIn K mainGlobals "_law_between" = some (some (.ref f__law_between)))
    (l__law_between : K.lookup f__law_between = some ⟨oc__law_between, od__law_between, .func (PySem.W.fnOf "_law_between" "_law_between" (defArgs s__law_between) (defBody s__law_between) (defScope s__law_between) .none kV__law_between dc__law_between pm__law_between an__law_between cd__law_between ct__law_between), sl__law_between⟩)
    (c__law_between : PySem.W.codeIn K cd__law_between "_law_between" = true)
    (k__law_between : PySem.W.keepIn K (.ref f__law_between) = true)
    (a_law : PySem.W.nsIn K mainGlobals "law" = some (some (.ref f_law)))
    (l_law : K.lookup f_law = some ⟨oc_law, od_law, .func (PySem.W.fnOf "law" "law" (defArgs s_law) (defBody s_law) (defScope s_law) .none kV_law dc_law pm_law an_law cd_law ct_law), sl_law⟩)
    (c_law : PySem.W.codeIn K cd_law "law" = true)
    (k_law : PySem.W.keepIn K (.ref f_law) = true)
    (z_all : PySem.W.nsIn K mainGlobals "all" = some none)
    (z_int : PySem.W.nsIn K mainGlobals "int" = some none)
    (z_isinstance : PySem.W.nsIn K mainGlobals "isinstance" = some none)
    (z_len : PySem.W.nsIn K mainGlobals "len" = some none)
    (z_max : PySem.W.nsIn K mainGlobals "max" = some none)
    (z_min : PySem.W.nsIn K mainGlobals "min" = some none)
    (z_range : PySem.W.nsIn K mainGlobals "range" = some none)
    (z_repr : PySem.W.nsIn K mainGlobals "repr" = some none)
    (z_str : PySem.W.nsIn K mainGlobals "str" = some none)
    (z_sum : PySem.W.nsIn K mainGlobals "sum" = some none)
    (v_MOST : PySem.W.nsIn K mainGlobals "MOST" = some (some (.int 1000000 t_MOST)))
    (v__FIGURES : PySem.W.nsIn K mainGlobals "_FIGURES" = some (some (.str "0123456789" t__FIGURES)))
    (r_number_of_least : RelV (.int 0) kv_number_of_least)
    (r_number_of_most : RelV (.int 1000000) kv_number_of_most)
    : ∃ fd : FuncData, (∀ (s : Shared) (v : Value), BindsTo s fd ⟨[v], []⟩ [("_law_script", v)]) ∧ ∀ base : Heap, K.In base → base.Ns mainGlobals mg → FnG l.prog w K mg base CX0 4 fa fd ["_law_script"] (spLaw K) := by
  have e := hfa.symm.trans (PySem.W.mg_of X G a_law)
  cases e
  let A : Ad := ⟨f_number_of, f__is_made_of, f__is_plain_number, f__law_cell, f__law_bag, f__law_take, f__law_read, f__law_text, f__law_bound, f__law_between, fa⟩
  have T : Txt K mg A := by
    constructor
    · exact PySem.W.mg_none_of X G z_all
    · exact PySem.W.mg_none_of X G z_int
    · exact PySem.W.mg_none_of X G z_isinstance
    · exact PySem.W.mg_none_of X G z_len
    · exact PySem.W.mg_none_of X G z_max
    · exact PySem.W.mg_none_of X G z_min
    · exact PySem.W.mg_none_of X G z_range
    · exact PySem.W.mg_none_of X G z_repr
    · exact PySem.W.mg_none_of X G z_str
    · exact PySem.W.mg_none_of X G z_sum
    · exact ⟨_, PySem.W.mg_of X G v_MOST, _, rfl⟩
    · exact ⟨_, PySem.W.mg_of X G v__FIGURES, _, rfl⟩
    · exact ⟨⟨_, fun_mk (st := s__is_made_of) l__is_made_of c__is_made_of k__is_made_of⟩, PySem.W.mg_of X G a__is_made_of, k__is_made_of⟩
    · exact ⟨⟨_, fun_mk (st := s__is_plain_number) l__is_plain_number c__is_plain_number k__is_plain_number⟩, PySem.W.mg_of X G a__is_plain_number, k__is_plain_number⟩
    · exact ⟨⟨_, fun_mk (st := s__law_cell) l__law_cell c__law_cell k__law_cell⟩, PySem.W.mg_of X G a__law_cell, k__law_cell⟩
    · exact ⟨⟨_, fun_mk (st := s__law_bag) l__law_bag c__law_bag k__law_bag⟩, PySem.W.mg_of X G a__law_bag, k__law_bag⟩
    · exact ⟨⟨_, fun_mk (st := s__law_take) l__law_take c__law_take k__law_take⟩, PySem.W.mg_of X G a__law_take, k__law_take⟩
    · exact ⟨⟨_, fun_mk (st := s__law_read) l__law_read c__law_read k__law_read⟩, PySem.W.mg_of X G a__law_read, k__law_read⟩
    · exact ⟨⟨_, fun_mk (st := s__law_text) l__law_text c__law_text k__law_text⟩, PySem.W.mg_of X G a__law_text, k__law_text⟩
    · exact ⟨⟨_, fun_mk (st := s__law_bound) l__law_bound c__law_bound k__law_bound⟩, PySem.W.mg_of X G a__law_bound, k__law_bound⟩
    · exact ⟨⟨_, fun_mk (st := s__law_between) l__law_between c__law_between k__law_between⟩, PySem.W.mg_of X G a__law_between, k__law_between⟩
    · exact ⟨⟨_, fun_mk (st := s_law) l_law c_law k_law⟩, PySem.W.mg_of X G a_law, k_law⟩
    · exact ⟨⟨_, ⟨⟨_, _, _, _, _, _, _, _, _, _, rfl, l_number_of, c_number_of, Or.inl ⟨rfl, rfl⟩, Or.inr ⟨D_number_of, rfl, fun q hq => by
        simp only [List.mem_cons, List.not_mem_nil, or_false] at hq
        rcases hq with rfl | rfl
        · exact ⟨_, w_number_of_least, r_number_of_least⟩
        · exact ⟨_, w_number_of_most, r_number_of_most⟩⟩⟩, k_number_of⟩⟩, PySem.W.mg_of X G a_number_of, k_number_of⟩
  refine ⟨PySem.W.fnOf "law" "law" (defArgs s_law) (defBody s_law) (defScope s_law) .none kV_law dc_law pm_law an_law cd_law ct_law, fun s v => .of_eq rfl, fun base _ _ => ?_⟩
  have G__law_cell : Kp l.prog w K mg base CX0 1 A.f__law_cell ["_law_script", "_law_k"] [] (spCel K) := ok__law_cell T 
  have G__law_bag : Kp l.prog w K mg base CX0 1 A.f__law_bag ["_law_cell_here"] [] (spBag) := ok__law_bag T 
  have G__law_take : Kp l.prog w K mg base CX0 1 A.f__law_take ["_law_bag_here", "_law_below"] [] (spTake) := ok__law_take T 
  have G__is_made_of : Kp l.prog w K mg base CX0 1 A.f__is_made_of ["text", "signs"] [] (spMade) := ok__is_made_of T 
  have G__is_plain_number : Kp l.prog w K mg base CX0 2 A.f__is_plain_number ["thing"] [] (spB K plV) := ok__is_plain_number T G__is_made_of
  have G_number_of : Kx l.prog w K mg base CX0 3 "number_of" "number_of" s_number_of [] ([("least", .int 0), ("most", .int 1000000)] : List (Str × V)) A.f_number_of ["thing", "least", "most"] (spNo K) := ok_number_of T G__is_plain_number
  have G__law_between : Kp l.prog w K mg base CX0 1 A.f__law_between ["_law_number", "_law_low", "_law_high"] [] (spBetw) := ok__law_between T 
  have G__law_read : Kp l.prog w K mg base CX0 1 A.f__law_read ["_law_one"] [] (spRead K) := ok__law_read T 
  have G__law_text : Kp l.prog w K mg base CX0 2 A.f__law_text ["_law_bag_here"] [] (spTxt) := ok__law_text T G__law_take
  have G__law_bound : Kp l.prog w K mg base CX0 2 A.f__law_bound ["_law_bag_here", "_law_near"] [] (spBound) := ok__law_bound T G__law_take
  exact ok_law T G__law_cell G__law_bag G__law_take G__law_text G__law_read G__law_bound G__law_between G_number_of (fun_mk (st := s_law) l_law c_law k_law)
end K02
open PySem PySem.W PyProof.Rows
set_option maxRecDepth 100000 in
set_option maxHeartbeats 0 in
theorem PySem.Challenge.cw_drowsetree_k02_numbers_by_names_holds : PySem.Challenge.rw_drowsetree_k02_numbers_by_names.Holds := by
  w_on; o_law; k_head; (case hw => w_witness2)
  k_fill
  refine Dz.walkK (l := PySem.Challenge.rw_drowsetree_k02_numbers_by_names) (n := 63) (k := 4) (x := "_law_script") (CX := L2.CX0) (sp := K02.spLaw) rfl (by decide) rfl ⟨rfl, by decide, by decide⟩ (fun w h Y => PySem.W.kIn_of Y) ?F (fun _ _ a ns hl _ hS => ⟨a, ns, rfl, hS, hl, fun _ => rfl⟩) fun _ _ _ _ z => z
  case F =>
    intro w mg fa h KX G hmg
    refine' K02.all_mk KX G hmg ?a_number_of ?l_number_of ?c_number_of ?k_number_of ?w_number_of_least ?w_number_of_most ?a__is_made_of ?l__is_made_of ?c__is_made_of ?k__is_made_of ?a__is_plain_number ?l__is_plain_number ?c__is_plain_number ?k__is_plain_number ?a__law_cell ?l__law_cell ?c__law_cell ?k__law_cell ?a__law_bag ?l__law_bag ?c__law_bag ?k__law_bag ?a__law_take ?l__law_take ?c__law_take ?k__law_take ?a__law_read ?l__law_read ?c__law_read ?k__law_read ?a__law_text ?l__law_text ?c__law_text ?k__law_text ?a__law_bound ?l__law_bound ?c__law_bound ?k__law_bound ?a__law_between ?l__law_between ?c__law_between ?k__law_between ?a_law ?l_law ?c_law ?k_law ?z_all ?z_int ?z_isinstance ?z_len ?z_max ?z_min ?z_range ?z_repr ?z_str ?z_sum ?v_MOST ?v__FIGURES ?r_number_of_least ?r_number_of_most
    (case a_number_of => k_is)
    (case l_number_of => k_is)
    (case c_number_of => k_is)
    (case k_number_of => k_is)
    (case w_number_of_least => k_is)
    (case w_number_of_most => k_is)
    (case a__is_made_of => k_is)
    (case l__is_made_of => k_is)
    (case c__is_made_of => k_is)
    (case k__is_made_of => k_is)
    (case a__is_plain_number => k_is)
    (case l__is_plain_number => k_is)
    (case c__is_plain_number => k_is)
    (case k__is_plain_number => k_is)
    (case a__law_cell => k_is)
    (case l__law_cell => k_is)
    (case c__law_cell => k_is)
    (case k__law_cell => k_is)
    (case a__law_bag => k_is)
    (case l__law_bag => k_is)
    (case c__law_bag => k_is)
    (case k__law_bag => k_is)
    (case a__law_take => k_is)
    (case l__law_take => k_is)
    (case c__law_take => k_is)
    (case k__law_take => k_is)
    (case a__law_read => k_is)
    (case l__law_read => k_is)
    (case c__law_read => k_is)
    (case k__law_read => k_is)
    (case a__law_text => k_is)
    (case l__law_text => k_is)
    (case c__law_text => k_is)
    (case k__law_text => k_is)
    (case a__law_bound => k_is)
    (case l__law_bound => k_is)
    (case c__law_bound => k_is)
    (case k__law_bound => k_is)
    (case a__law_between => k_is)
    (case l__law_between => k_is)
    (case c__law_between => k_is)
    (case k__law_between => k_is)
    (case a_law => k_is)
    (case l_law => k_is)
    (case c_law => k_is)
    (case k_law => k_is)
    (case z_all => k_is)
    (case z_int => k_is)
    (case z_isinstance => k_is)
    (case z_len => k_is)
    (case z_max => k_is)
    (case z_min => k_is)
    (case z_range => k_is)
    (case z_repr => k_is)
    (case z_str => k_is)
    (case z_sum => k_is)
    (case v_MOST => k_is)
    (case v__FIGURES => k_is)
    (case r_number_of_least => exact ⟨_, rfl⟩)
    (case r_number_of_most => exact ⟨_, rfl⟩)
#print axioms PySem.Challenge.cw_drowsetree_k02_numbers_by_names_holds
