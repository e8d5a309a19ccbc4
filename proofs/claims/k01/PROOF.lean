import PyProof.Rows.All
import Wide.All
import OpenK.AllK
import Wide.FinOn
import HandS.ForMost
import HandS.Wide
import HandS.EndBits
import HandS.IsInst
import HandS.Style
import HandS.Defaults
import PyProof.ReprRoads
import HandS.ExcInit
import HandS.ClsMeth
import KE.KExcIs
import HandS.Walk
import PySem.Challenge.RW_drowsetree_k01_wholes_and_names
set_option Elab.async false
set_option linter.all false
set_option maxRecDepth 100000
set_option maxHeartbeats 2000000
/-! Calls where nothing is being shown by repr: every def's promise under that. -/
namespace Dz
open PySem PySem.Spec PyProof.Rows L2

/-- no repr is under way -/
def Calm (A : Around) : Prop := A.guards = some []

structure FnG (P : Program) (w : World) (K : PySem.W.Frag) (mg : Str → Option Value) (base : Heap) (CX : CXT) (k : Nat) (f : Addr) (fd : FuncData) (ps : List Str) (sp : Sp) : Prop where
  ln : ∀ vs H Q E, sp vs H Q E → vs.length = ps.length
  go : ∀ (A : Around) (out : List Env) (s : Shared) (H : Hp) (ar : Args) (us : List Value) (vs : List V) (Q : VK) (E : XK),
    Calm A → Room k A → Env0 P w K mg base A out s H → BindsTo s fd ar (ps.zip us) → Vals vs us → sp vs H Q E →
      codeAny (model P w) A (.call (.ref f) ar) (CR CX out P w H s Q E) s
theorem FnG.more {P : Program} {w : World} {K : PySem.W.Frag} {mg : Str → Option Value} {base : Heap} {CX : CXT} {j k : Nat} {f : Addr} {fd : FuncData} {ps : List Str} {sp : Sp}
    (F : FnG P w K mg base CX j f fd ps sp) (h : j ≤ k) : FnG P w K mg base CX k f fd ps sp :=
  ⟨F.ln, fun A out s H ar us vs Q E g r => F.go A out s H ar us vs Q E g (r.mono h)⟩
theorem FnG.as {P : Program} {w : World} {K : PySem.W.Frag} {mg : Str → Option Value} {base : Heap} {CX : CXT} {k : Nat} {f : Addr} {fd : FuncData} {ps : List Str} {sp sp' : Sp}
    (F : FnG P w K mg base CX k f fd ps sp) (h : ∀ vs H Q E, sp' vs H Q E → sp vs H Q E) : FnG P w K mg base CX k f fd ps sp' :=
  ⟨fun vs H Q E q => F.ln vs H Q E (h _ _ _ _ q), fun A out s H ar us vs Q E g r e b v q => F.go A out s H ar us vs Q E g r e b v (h _ _ _ _ q)⟩

/-- a def that stands in the written part, by its body's walk where no repr is under way -/
theorem fnG_at {CX : CXT} {P : Program} {w : World} {K : PySem.W.Frag} {mg : Str → Option Value} {base : Heap} {k : Nat} {f : Addr} {x qual : Str} {params : Arguments} {body : List Stmt} {sc : Scope} {dV kV doc pm cdv ct oc : Value} {an od : Option Addr}
    {osl : Array (Option Value)} {N ps : List Str} {sp : Sp} (lk : K.lookup f = some ⟨oc, od, .func (PySem.W.fnOf x qual params body sc dV kV doc pm an cdv ct), osl⟩) (hcd : PySem.W.codeIn K cdv qual = true) (S : FnScope N ps sc)
    (len : ∀ vs H Q E, sp vs H Q E → vs.length = ps.length)
    (walk : ∀ (A : Around) (outer : List Env) (s : Shared) (H : Hp) (vs : List V) (Q : VK) (E : XK), Calm A → Room k (A.deeper (envOfC qual sc s.heap.objs.size f cdv)) → sp vs H Q E →
      ∃ t, PSs (cxOf CX P w K mg base N qual sc f cdv A outer s H E) body t ∧ t { nx := fun _ H' => Q .non H', rt := Q } (start N vs) H) :
    FnG P w K mg base CX (k + 1) f (PySem.W.fnOf x qual params body sc dV kV doc pm an cdv ct) ps sp := by
  constructor
  · exact len
  intro A outer s H ar us vs Q E hg hr e0 hb rv hsp
  have ll := len _ _ _ _ hsp
  have inK : K.In s.heap := e0.mod.kin.keeps fun b o z => (e0.bs b o z).1
  have nolim : s.heap.NoLimit := e0.mod.nolimit.keeps fun b o z => (e0.bs b o z).1
  have kinds : ∀ y ∈ ps.zip us, sc.names.lookup y.1 = some .local ∨ (sc.names.lookup y.1 = some .cell ∧ ((cellsFrom (s.heap.objs.size + 1) sc.names []).lookup y.1).isSome = true) := by
    rintro ⟨n, v⟩ hy
    have hn := (List.of_mem_zip hy).1
    cases S.par n hn with
    | inl q => exact Or.inl q
    | inr q => exact Or.inr ⟨q, PySem.W.cellsFrom_some _ _ _ (Or.inl q)⟩
  refine codeAny_call_function hr.depth (inK _ _ lk) rfl S.co S.gen rfl (PySem.W.codeRec_of inK hcd) (hb _ _ _ _ ?_)
  refine wpAny_newFunctionEnv_cells S.kind kinds fun env he s1 xx => ?_
  subst he
  refine ⟨nolim.keeps xx.toInCall.keep, codeAny_func ?_⟩
  obtain ⟨t, ht, hq⟩ := walk A outer s H vs Q E hg (hr.deeper _) hsp
  have I0 := inv_start (CX := CX) (N := N) (E := E) (cd := cdv) (qual := qual) (f := f) S hr.hd e0 ll rv xx
  refine wpAny_mono (ht.run [] s1 (start N vs) H _ I0 hq) (fun fl s' hs => ?_) fun e s' hs => hs
  cases fl with
  | brk => exact hs.elim fun _ z => z.elim fun _ z => False.elim z.2
  | cont => exact hs.elim fun _ z => z.elim fun _ z => False.elim z.2
  | next =>
    obtain ⟨σ', H', J, q⟩ := hs
    exact ⟨V.non, H', J.os, J.bare, J.base, J.hok, rfl, q⟩
  | ret u =>
    obtain ⟨v, σ', H', J, r', q⟩ := hs
    exact ⟨v, H', J.os, J.bare, J.base, J.hok, r', q⟩
/-- a def of the text -/
theorem fnG_of {CX : CXT} {P : Program} {w : World} {K : PySem.W.Frag} {mg : Str → Option Value} {base : Heap} {x qual : Str} {st : Stmt} {f : Addr} {fd : FuncData} {N ps : List Str} {k : Nat} {sp : Sp}
    (F : Fun K x qual st f fd) (S : FnScope N ps (defScope st)) (len : ∀ vs H Q E, sp vs H Q E → vs.length = ps.length)
    (walk : ∀ (cdv : Value) (A : Around) (outer : List Env) (s : Shared) (H : Hp) (vs : List V) (Q : VK) (E : XK), Calm A → Room k (A.deeper (envOfC qual (defScope st) s.heap.objs.size f cdv)) → sp vs H Q E →
      ∃ t, PSs (cxOf CX P w K mg base N qual (defScope st) f cdv A outer s H E) (defBody st) t ∧ t { nx := fun _ H' => Q .non H', rt := Q } (start N vs) H) :
    FnG P w K mg base CX (k + 1) f fd ps sp := by
  obtain ⟨oc, od, kV, doc, pm, an, cdv, ct, osl, rfl, lk, hcd⟩ := F.ex
  exact fnG_at lk hcd S len fun A outer s H vs Q E hg hr hsp => walk cdv A outer s H vs Q E hg hr hsp

/-- the same where nothing is raised -/
theorem fnG_nx {P : Program} {w : World} {K : PySem.W.Frag} {mg : Str → Option Value} {base : Heap} {x qual : Str} {st : Stmt} {f : Addr} {fd : FuncData} {N ps : List Str} {k : Nat} {sp : Sp}
    (F : Fun K x qual st f fd) (S : FnScope N ps (defScope st)) (len : ∀ vs H Q E, sp vs H Q E → vs.length = ps.length)
    (walk : ∀ (cdv : Value) (A : Around) (outer : List Env) (s : Shared) (H : Hp) (vs : List V) (Q : VK) (E : XK), Calm A → Room k (A.deeper (envOfC qual (defScope st) s.heap.objs.size f cdv)) → sp vs H Q E →
      ∃ t, PSs (cxOf CX0 P w K mg base N qual (defScope st) f cdv A outer s H E).nox (defBody st) t ∧ t { nx := fun _ H' => Q .non H', rt := Q } (start N vs) H) :
    FnG P w K mg base CX0 (k + 1) f fd ps sp := fnG_of F S len fun cdv A outer s H vs Q E hg hr hsp => by
  obtain ⟨t, h, q⟩ := walk cdv A outer s H vs Q E hg hr hsp
  exact ⟨t, h.nox, q⟩

section
variable {X : Cx} {CX : CXT} {k : Nat} {f C : Addr} {fd : FuncData} {ps : List Str} {sp : Sp} {dvs : List V} {ds : List Value} {E : XK} {x m : Str} {p pos apos : Pos} {e o : Expr} {es : List Expr} {ta : TE} {t : TA}
  {r : List V → Hp → VK → Prop}

/-- a def as a value that is called -/
theorem callR_fn (F : FnG X.prog X.w X.K X.mg X.base CX k f fd ps sp) (hg : Calm X.A) (hr : Room k X.A) (hb : Binds X.K fd ps ds) (hd : Vals dvs ds) (hx : Passes CX X E) :
    CallR X (.ref f) (fun vs H Q => sp (vs ++ dvs) H Q E) := by
  intro pins s σ H vs us Q I rv h
  have r2 : Vals (vs ++ dvs) (us ++ ds) := rv.append hd
  have hl : (us ++ ds).length = ps.length := r2.length.symm.trans (F.ln _ _ _ _ h)
  refine wpAny_call (codeAny_mono (F.go X.A X.stack s H ⟨us, []⟩ (us ++ ds) (vs ++ dvs) Q E hg hr I.env0 (hb s us I.kIn hl) r2 h) ?_)
  intro rs s' hq
  match rs, hq with
  | .error e, hq => exact hx pins σ H s e s' I hq
  | .ok (.ret u), hq => exact I.after hq
/-- f(e, ..) of a name of the module, whatever stands there -/
theorem pe_fn (hc : CallR X (.ref f) r) (hl : Gl X x) (hm : X.mg x = some (.ref f)) (hk : PySem.W.keepIn X.K (.ref f) = true) (ha : PA X (e :: es) t) (hdb : (x == ("__debug__" : Str)) = false := by decide)
    (he : starEach (e :: es) X.env = (false, eval e X.env) :: starEach es X.env := by rfl) (hpl : (backTo pos (starEach es X.env)).any (·.1) = false := by rfl) : PE X (.Call (.Name x p) (e :: es) [] pos) (tCB r t) := by
  constructor
  intro pins s σ H Q I h
  refine wpAny_Call_Name_kw (ld_glob I hl hm ?_ hdb)
  refine PySem.W.callWith_K (h₀ := X.base) I.ok.mod.kin hk (thn (ha.run pos pins s σ H _ I h) ?_) he hpl
  rintro us s1 ⟨vs, H1, I1, rv, q⟩
  exact ⟨I1.kIn, hc pins s1 σ H1 vs us Q I1 rv q⟩
theorem pe_fn0 (hc : CallR X (.ref f) r) (hl : Gl X x) (hm : X.mg x = some (.ref f)) (hk : PySem.W.keepIn X.K (.ref f) = true) (hdb : (x == ("__debug__" : Str)) = false := by decide) : PE X (.Call (.Name x p) [] [] pos) (tCB r tNil) := by
  constructor
  intro pins s σ H Q I h
  refine wpAny_Call_Name_kw (ld_glob I hl hm ?_ hdb)
  exact PySem.W.callWith_K0 I.kIn hk (hc pins s σ H [] [] Q I .nil h)
/-- o.m(e, ..), o an instance of the class at C -/
def tMth (C : Addr) (m : Str) (r : List V → Hp → VK → Prop) (ta : TE) (t : TA) : TE := fun σ H Q => ta σ H fun x H1 => ∃ a dx fs, x = .ref a ∧ H1 a = some (.ins C dx fs) ∧ fs.lookup m = none ∧ t σ H1 fun vs H2 => r (x :: vs) H2 Q
theorem pe_mth {pl : Sem Bool} (he : PE X o ta) (c : Cls X.K C) (hm : Meth X.K C m f) (hc : CallR X (.ref f) r) (ha : PA X (e :: es) t)
    (hst : starEach (e :: es) X.env = (false, eval e X.env) :: starEach es X.env := by rfl) (hpl : (backTo pos (starEach es X.env)).any (·.1) = false := by rfl)
    (ht : eval (.Call (.Attribute o m apos) (e :: es) [] pos) X.env = (do
      let ov ← eval o X.env
      standAt apos.atName
      let (f, first) ← holding [ov] (getMethod ov m pl)
      callWith pos f first (backTo pos (starEach (e :: es) X.env)) (backToKw pos (keywordEach [] X.env))) := by rfl) :
    PE X (.Call (.Attribute o m apos) (e :: es) [] pos) (tMth C m r ta t) := by
  constructor
  intro pins s σ H Q I h
  refine PySem.W.methodCall_KW (pl := pl) (thn (he.run pins s σ H _ I h) ?_) ht
  rintro u s1 ⟨y, H1, I1, ry, a, dx, fs, rfl, ea, l, q⟩
  cases (show u = Value.ref a from ry)
  refine getmeth_ok I1 ea c hm l ?_
  refine PySem.W.callWith_K (first := [.ref a]) (h₀ := X.base) I.ok.mod.kin hm.kp (thn (ha.run pos pins s1 σ H1 _ I1 q) ?_) hst hpl
  rintro us s2 ⟨vs, H2, I2, rv, q2⟩
  exact ⟨I2.kIn, hc pins s2 σ H2 (.ref a :: vs) (.ref a :: us) Q I2 (.cons rfl rv) q2⟩
theorem pe_mth0 {pl : Sem Bool} (he : PE X o ta) (c : Cls X.K C) (hm : Meth X.K C m f) (hc : CallR X (.ref f) r)
    (ht : eval (.Call (.Attribute o m apos) [] [] pos) X.env = (do
      let ov ← eval o X.env
      standAt apos.atName
      let (f, first) ← holding [ov] (getMethod ov m pl)
      callWith pos f first (backTo pos (starEach [] X.env)) (backToKw pos (keywordEach [] X.env))) := by rfl) :
    PE X (.Call (.Attribute o m apos) [] [] pos) (tMth C m r ta tNil) := by
  constructor
  intro pins s σ H Q I h
  refine PySem.W.methodCall_KW (pl := pl) (thn (he.run pins s σ H _ I h) ?_) ht
  rintro u s1 ⟨y, H1, I1, ry, a, dx, fs, rfl, ea, l, q⟩
  cases (show u = Value.ref a from ry)
  refine getmeth_ok I1 ea c hm l ?_
  exact PySem.W.callWith_K0 (first := [.ref a]) I1.kIn hm.kp (hc pins s1 σ H1 [.ref a] [.ref a] Q I1 (.cons rfl .nil) q)
end

/-! ### the law's call -/
theorem enterG {P : Program} {w : World} {K : PySem.W.Frag} {mg mb : Str → Option Value} {CX : CXT} {k : Nat} {fa a : Addr} {fd : FuncData} {x : Str} {sp : Sp} {s₁ : Shared} {vs : List Value} {ns : List Int}
    (KX : K.In s₁.heap) (hns : s₁.heap.Ns mainGlobals mg) (hb : s₁.heap.Ns builtinsNs mb) (hbb : ∀ x : Str, x ≠ "__name__" → mb x = bootBuiltins x) (hlim : s₁.heap.NoLimit) (hgen : s₁.gens = #[])
    (ha : s₁.heap.get? a = some { cls := .type "list", data := .seq vs.toArray }) (hi : IntsAre vs ns) (hl : ns.length ≤ sizeLine) (hr : Room k callerA)
    (F : ∀ base : Heap, K.In base → base.Ns mainGlobals mg → FnG P w K mg base CX k fa fd [x] sp) (hbind : ∀ (s : Shared) (u : Value), BindsTo s fd ⟨[u], []⟩ [(x, u)])
    (hsp : ∀ H : Hp, Only H → SqL K H a (ns.map V.int) → sp [.ref a] H (fun v _ => v = .bl true) fun _ _ _ => False)
    (hCX : ∀ H e s', CX [] H s₁ (fun _ _ _ => False) e s' → False) :
    codeAny (model P w) callerA (.call (.ref fa) ⟨[.ref a], []⟩) (fun r s' => r = .ok (.ret (.bool true)) ∧ OldK s₁.heap s'.heap ∧ s'.os = s₁.os ∧ AllBare s'.gens) s₁ := by
  have rv : Vals (ns.map V.int) vs := vals_ints hi
  have lv : vs.length = ns.length := hi.length
  have run : ∀ H : Hp, Only H → SqL K H a (ns.map V.int) → HOk P w H s₁.heap → (∀ b, H b ≠ none → b = a ∧ K.lookup a = none) →
      codeAny (model P w) callerA (.call (.ref fa) ⟨[.ref a], []⟩) (fun r s' => r = .ok (.ret (.bool true)) ∧ OldK s₁.heap s'.heap ∧ s'.os = s₁.os ∧ AllBare s'.gens) s₁ := by
    intro H hO hS hok hA
    -- what stands in a namespace, or in the written part, is not tracked
    have free : ∀ {b : Addr} {o : Obj}, s₁.heap.get? b = some o → (∀ es ep, o.data = .dict es ep → True) → (b = a → False) → H b = none := fun {b o} _ _ nb => by
      cases q : H b with
      | none => rfl
      | some u => exact (nb (hA b (by rw [q]; exact fun z => by cases z)).1).elim
    have nsK : ∀ {b : Addr} {m : Str → Option Value}, s₁.heap.Ns b m → (hidT s₁.heap H).Ns b m := fun {b m} n => by
      obtain ⟨o, es, ep, e, d, rr⟩ := n
      refine ⟨o, es, ep, hidT_get e (free e (fun _ _ _ => trivial) fun z => ?_), d, rr⟩
      rw [z, ha] at e
      cases e
      cases d
    have kB : K.In (hidT s₁.heap H) := fun b o e => hidT_get (KX b o e) (by
      cases q : H b with
      | none => rfl
      | some u =>
        obtain ⟨z1, z2⟩ := hA b (by rw [q]; exact fun z => by cases z)
        rw [z1, z2] at e
        cases e)
    have hM : Mod K mg (hidT s₁.heap H) := ⟨kB, nsK hns, ⟨mb, nsK hb, hbb⟩, by obtain ⟨mc, h1, h2⟩ := hlim; exact ⟨mc, nsK h1, h2⟩⟩
    have e0 : Env0 P w K mg (hidT s₁.heap H) callerA [] s₁ H :=
      { frames := rfl, mod := hM, bs := fun b o e => of_hidT e, bsz := Nat.le_of_eq (hidT_size _ _), funs := trivial, frf := fun b hb => absurd (show b ∈ ([] : List Addr) from hb) (by simp), hok := hok, bare := .of_eq hgen }
    refine codeAny_mono ((F _ kB (nsK hns)).go callerA [] s₁ H ⟨[.ref a], []⟩ [.ref a] [.ref a] _ _ rfl hr e0 (hbind s₁ (.ref a)) (.cons rfl .nil) (hsp H hO hS)) ?_
    intro rs s' h
    match rs, h with
    | .error e, h => exact (hCX H e s' h).elim
    | .ok (.ret u), h =>
      obtain ⟨v, H', os, bare, un, hok', r', q⟩ := h
      cases (show v = .bl true from q)
      cases (show u = Value.bool true from r')
      refine ⟨rfl, OldK.of_keep fun b o e => ?_, os, bare⟩
      cases q : H b with
      | none => exact un.keep b o e q (fun z => absurd (show b ∈ ([] : List Addr) from z) (by simp)) (by simp)
      | some u =>
        rcases hO b with z | ⟨ob, xs, z⟩
        · rw [q] at z
          cases z
        · have h1 := (hok b _ z).1
          have h2 := (hok' b _ (un.frzs b ob _ z)).1
          rw [e] at h1
          cases h1
          exact h2
  cases hk : K.lookup a with
  | some o =>
    have e := KX a o hk
    rw [ha] at e
    cases e
    exact run (fun _ => none) (fun _ => .inl rfl) (.inr ⟨_, vs.toArray, _, hk, rfl, rfl, rfl, by rw [List.size_toArray, lv]; exact hl, by simpa using rv⟩) (fun b u z => by have z' : (none : Option HO) = some u := z; cases z') (fun b z => absurd rfl z)
  | none =>
    let Hs : Hp := fun b => if b = a then some (.frz { cls := .type "list", data := .seq vs.toArray } (.lst (ns.map V.int))) else none
    have at_a : Hs a = some (.frz { cls := .type "list", data := .seq vs.toArray } (.lst (ns.map V.int))) := if_pos rfl
    have off : ∀ b, b ≠ a → Hs b = none := fun b h => if_neg h
    refine run Hs (fun b => ?_) (.inl (.inr ⟨_, at_a⟩)) (fun b u z => ?_) (fun b z => ⟨?_, hk⟩)
    · by_cases h : b = a
      · rw [h]; exact .inr ⟨_, _, at_a⟩
      · exact .inl (off b h)
    · by_cases h : b = a
      · subst h
        rw [at_a] at z
        cases z
        exact ⟨ha, by rw [List.length_map]; exact hl, vs, _, rv, ha⟩
      · rw [off b h] at z
        cases z
    · by_cases h : b = a
      · exact h
      · exact absurd (off b h) z
theorem walkG {l : PySem.W.OpenLaw} {n k : Nat} {q : Program} {loose : List Str} {XP : (Str → Option Value) → Heap → Prop} {YP : World → Heap → Prop} {d : DefRec} {K : Params → PySem.W.Frag} {CX : World → CXT} {sp : World → Sp} {x : Str}
    (hn : l.most = some n) (hn2 : n ≤ sizeLine) (hdf : d.params.defaults = []) (hr : Room k callerA)
    (hY : ∀ (w : World) (h : Heap), YP w h → (K w.params).In h)
    (F : ∀ (w : World) (mg : Str → Option Value) (fa : Addr) (h : Heap), (K w.params).In h → h.Ns mainGlobals mg → mg d.name = some (.ref fa) →
      ∃ fd : FuncData, (∀ (s : Shared) (u : Value), BindsTo s fd ⟨[u], []⟩ [(x, u)]) ∧
        ∀ base : Heap, (K w.params).In base → base.Ns mainGlobals mg → FnG l.prog w (K w.params) mg base (CX w) k fa fd [x] (sp w))
    (hsp : ∀ (w : World) (H : Hp) (a : Addr) (ns : List Int), ns.length ≤ n → (∀ z ∈ ns, Builtin.Int.intBits z ≤ 1048576) → Only H → SqL (K w.params) H a (ns.map V.int) → sp w [.ref a] H (fun v _ => v = .bl true) fun _ _ _ => False)
    (hCX : ∀ (w : World) (H : Hp) (s : Shared) (e : Value) (s' : Shared), CX w [] H s (fun _ _ _ => False) e s' → False) :
    PySem.W.WalkO q loose XP YP l.row.toRowW d [] (fun f vs => PySem.call f vs) := by
  refine Att.attach_callB hn hdf ?_
  intro w s₀ s₁ mg mb fa o pm cd doc a vs ns G Y ho hd hcd hmg hobj hints hlen hbits hgen
  obtain ⟨fd, hb, hF⟩ := F w mg fa _ (hY w _ Y) G.T.g hmg
  exact enterG (hY w _ Y) G.T.g G.T.b G.T.builtins G.T.nolimit hgen hobj hints (Nat.le_trans hlen hn2) hr hF hb (fun H hO hS => hsp w H a ns hlen hbits hO hS) fun H e s' => hCX w H s₁ e s'
/-- the same where the promise hangs on the written part alone -/
theorem walkK {l : PySem.W.OpenLaw} {n k : Nat} {q : Program} {loose : List Str} {XP : (Str → Option Value) → Heap → Prop} {YP : World → Heap → Prop} {d : DefRec} {K : Params → PySem.W.Frag} {CX : CXT} {sp : PySem.W.Frag → Sp} {x : Str}
    (hn : l.most = some n) (hn2 : n ≤ sizeLine) (hdf : d.params.defaults = []) (hr : Room k callerA) (hY : ∀ (w : World) (h : Heap), YP w h → (K w.params).In h)
    (F : ∀ (w : World) (mg : Str → Option Value) (fa : Addr) (h : Heap), (K w.params).In h → h.Ns mainGlobals mg → mg d.name = some (.ref fa) →
      ∃ fd : FuncData, (∀ (s : Shared) (u : Value), BindsTo s fd ⟨[u], []⟩ [(x, u)]) ∧ ∀ base : Heap, (K w.params).In base → base.Ns mainGlobals mg → FnG l.prog w (K w.params) mg base CX k fa fd [x] (sp (K w.params)))
    (hsp : ∀ (K : PySem.W.Frag) (H : Hp) (a : Addr) (ns : List Int), ns.length ≤ n → Only H → SqL K H a (ns.map V.int) → sp K [.ref a] H (fun v _ => v = .bl true) fun _ _ _ => False)
    (hCX : ∀ (H : Hp) (s : Shared) (e : Value) (s' : Shared), CX [] H s (fun _ _ _ => False) e s' → False) : PySem.W.WalkO q loose XP YP l.row.toRowW d [] (fun f vs => PySem.call f vs) :=
  walkG (K := K) (CX := fun _ => CX) (sp := fun w => sp (K w.params)) hn hn2 hdf hr hY F (fun w H a ns h1 _ h2 h3 => hsp (K w.params) H a ns h1 h2 h3) fun _ H s e s' => hCX H s e s'
end Dz

set_option Elab.async false
set_option linter.all false
set_option maxRecDepth 100000
set_option maxHeartbeats 2000000
/-! repr of data; errors of the program's own as values; isinstance of these. -/
namespace Dz
open PySem PySem.Spec PyProof.Rows L2
section
variable {X : Cx}
/-- repr(x), x data without dicts -/
def rShow (K : PySem.W.Frag) : List V → Hp → VK → Prop := fun xs H Q => ∃ v d, xs = [v] ∧ Dp K H v d ∧ d.showable = true ∧ d.hasDict = false ∧ d.depth ≤ 60 ∧ d.shown.length ≤ sizeLine ∧ Q (.str d.shown) H
theorem call_show {k : Nat} (hg : Calm X.A) (hr : Room k X.A) : CallR X (.builtin "repr") (rShow X.K) := by
  intro pins s σ H xs us Q I r h
  obtain ⟨v, d, rfl, hd, hs, hn, hp, hz, q⟩ := h
  cases r with
  | @cons _ u _ _ rv rn =>
  cases rn
  have hu := hr.units
  cases hd with
  | non => cases rv; exact PySem.P.repr_of_none ⟨.str _, H, I.tok _, ⟨_, rfl⟩, q⟩
  | bl b => cases rv; exact PySem.P.repr_of_bool ⟨.str _, H, I.tok _, ⟨_, rfl⟩, q⟩
  | int i =>
    obtain ⟨t, rfl⟩ := rv
    exact PySem.P.repr_of_int (of_decide_eq_true hs) ⟨.str _, H, I.tok _, ⟨_, rfl⟩, q⟩
  | str x =>
    obtain ⟨t, rfl⟩ := rv
    exact PySem.P.repr_of_str ⟨.str _, H, I.tok _, ⟨_, rfl⟩, q⟩ hz
  | lst h1 h2 =>
    cases rv
    obtain ⟨as, rd⟩ := Dp.reads I _ _ _ (Dp.lst h1 h2) rfl
    exact repr_of_reads' rd hs (PyData.noDict_hsm hn) hg (by omega) (fun _ _ e => e) (fun h' u tk hk => ⟨.str _, H, I.kept hk, ⟨_, rfl⟩, q⟩) hz
  | tup h1 h2 =>
    cases rv
    obtain ⟨as, rd⟩ := Dp.reads I _ _ _ (Dp.tup h1 h2) rfl
    exact repr_of_reads' rd hs (PyData.noDict_hsm hn) hg (by omega) (fun _ _ e => e) (fun h' u tk hk => ⟨.str _, H, I.kept hk, ⟨_, rfl⟩, q⟩) hz

/-! ### own errors -/
/-- W.__init__(self, ..), W the own class above it: what stands there is ValueError's -/
structure UpC (K : PySem.W.Frag) (W : Addr) (mc : Value) : Prop where
  rd : PySem.W.readsIn K W mc = true
  ga : PySem.W.specialIn K (.ref W) "__getattribute__" = some (some (.builtin "type.__getattribute__"))
  at_ : PySem.W.findCls K (.ref W) mc "__init__" = some (.val (.builtin "ValueError.__init__"))
theorem pe_upinit {x : Str} {W : Addr} {mc : Value} {e : Expr} {es : List Expr} {ta : TA} {p1 p2 pos : Pos} {pl : Sem Bool} (hg : Gl X x) (hm : X.mg x = some (.ref W)) (U : UpC X.K W mc) (ha : PA X (e :: es) ta)
    (hdb : (x == ("__debug__" : Str)) = false := by decide)
    (hc : eval (.Call (.Attribute (.Name x p1) "__init__" p2) (e :: es) [] pos) X.env = (do
      let ov ← eval (.Name x p1) X.env
      standAt p2.atName
      let (f, first) ← holding [ov] (getMethod ov "__init__" pl)
      callWith pos f first (backTo pos (starEach (e :: es) X.env)) (backToKw pos (keywordEach [] X.env))) := by rfl)
    (he : starEach (e :: es) X.env = (false, eval e X.env) :: starEach es X.env := by rfl) (hpl : (backTo pos (starEach es X.env)).any (·.1) = false := by rfl) :
    PE X (.Call (.Attribute (.Name x p1) "__init__" p2) (e :: es) [] pos) (tVeI X.K ta) := by
  constructor
  intro pins s σ H Q I h
  refine PySem.W.methodCall_KW (ld_glob I hg hm ?_ hdb) hc
  refine PySem.W.method_cls I.kIn U.ga (PySem.W.cls_value I.kIn U.rd U.at_ rfl ?_)
  show wpAny _ _ (callWith pos (Value.builtin "ValueError.__init__") [] (backTo pos (starEach (e :: es) X.env)) []) _ _ _
  refine PyProof.Rows.callWith_method1 (thn (ha.run pos pins _ σ H _ (I.tok _) h) ?_) he hpl
  rintro us s1 ⟨vs, H1, I1, r1, a, C, ws, rfl, hl, T, ea, q⟩
  cases r1 with
  | @cons _ u0 _ ur ra rw' =>
    cases (show u0 = Value.ref a from ra)
    refine oinit_ok T I1 ea ?_ fun s' J => ⟨.non, H1, J, rfl, q⟩
    rw [← Paired.length rw', sizeLine_eq]
    omega
/-- C(e, ..) as a value: the error at a, its __init__ keeping sp -/
theorem call_err {CX : CXT} {C fI : Addr} {k : Nat} {fd : FuncData} {ps : List Str} {sp : Sp} {E : XK} (T : OexC X.K C) (iC : PySem.W.findIn X.K (.ref C) "__init__" = some (some (.ref fI)))
    (tI : PySem.W.typeIn X.K (.ref fI) = some (.type "function")) (F : FnG X.prog X.w X.K X.mg X.base CX k fI fd ps sp) (hcl : Calm X.A) (hr : Room (k + 1) X.A) (hb : Binds X.K fd ps []) (hx : Passes CX X E) :
    CallR X (.ref C) (fun vs H Q => vs.length ≤ 1000 ∧ ∀ a, H a = none → sp (.ref a :: vs) (upd H a (exo a C none)) (fun v H2 => v = .non ∧ Q (.ref a) H2) E) := by
  intro pins s σ H vs us Q I r1 h
  obtain ⟨hz, q1⟩ := h
  obtain ⟨nm, qn, N, bs, bm, sn, sub, ab, col, dd, k0, k1, k2, k3, k5, hC, hbm⟩ := T.cls
  obtain ⟨hp, g, dr, tk, os⟩ := s
  have above : hp.objs.size ≤ hp.objs.size + 1 := Nat.le_succ _
  have hq := q1 (hp.objs.size + 1) (I.hok.fresh above)
  have kk : ∀ b o, hp.get? b = some o → ((hp.push (PySem.W.kdv_tup us)).push (PySem.HandSPX.excO C hp.objs.size)).get? b = some o := fun b o e => Heap.get?_push_of_some _ (Heap.get?_push_of_some _ e)
  have got : ((hp.push (PySem.W.kdv_tup us)).push (PySem.HandSPX.excO C hp.objs.size)).get? (hp.objs.size + 1) = some (PySem.HandSPX.excO C hp.objs.size) := by heap_get
  have I2 : Inv X pins σ (upd H (hp.objs.size + 1) (exo (hp.objs.size + 1) C none)) ⟨(hp.push (PySem.W.kdv_tup us)).push (PySem.HandSPX.excO C hp.objs.size), g, dr, tk, os⟩ := I.laid (t' := tk) kk above (exo_ok got)
  have r2 : Vals (V.ref (hp.objs.size + 1) :: vs) (Value.ref (hp.objs.size + 1) :: us) := .cons rfl r1
  have ll : (Value.ref (hp.objs.size + 1) :: us ++ []).length = ps.length := by
    rw [List.append_nil, ← r2.length]
    exact F.ln _ _ _ _ hq
  have lu : us.length ≤ sizeLine := by
    rw [← Paired.length r1, sizeLine_eq]
    omega
  have bnd := hb ⟨(hp.push (PySem.W.kdv_tup us)).push (PySem.HandSPX.excO C hp.objs.size), g, dr, tk, os⟩ (Value.ref (hp.objs.size + 1) :: us) I2.kIn ll
  rw [List.append_nil] at bnd
  have cal : Calm (X.A.under (.builtin "type.__call__" ⟨.ref C :: us, []⟩)) := by
    unfold Calm at hcl ⊢
    simp [Around.under, Code.guards, Code.isGuard, pushGuards, guardIds, hcl]
  refine wpAny_call (PySem.HandSPX.call_own PySem.F.excBase_ValueError (fun Y => PySem.HandSPX.refsVE_contains Y bm hbm) (I.kIn _ _ hC) (PySem.W.looks_findIn I.kIn iC) (fun self => PySem.W.bind_fn I.kIn self tI) lu
    (codeAny_mono (F.go _ X.stack _ _ ⟨Value.ref (hp.objs.size + 1) :: us, []⟩ (Value.ref (hp.objs.size + 1) :: us) _ _ E cal (hr.make C us []) (I2.env0.make C us []) bnd r2 hq) ?_))
  intro rs s' hq'
  match rs, hq' with
  | .error er, hq' => exact hx pins σ _ _ er s' I2 hq'
  | .ok (.ret u), hq' =>
    obtain ⟨v, H2, I3, rv, ev, q2⟩ := I2.after hq'
    subst ev
    exact ⟨rv, V.ref (hp.objs.size + 1), H2, I3, rfl, q2⟩
end
end Dz

set_option Elab.async false
set_option linter.all false
set_option maxRecDepth 100000
set_option maxHeartbeats 2000000
/-! Readings, step by step. -/
namespace Dz
open PySem PySem.Spec PyProof.Rows L2

/-- a def of the text that keeps its promise, whatever its record is -/
structure Kp (P : Program) (w : World) (K : PySem.W.Frag) (mg : Str → Option Value) (base : Heap) (CX : CXT) (k : Nat) (f : Addr) (ps : List Str) (ds : List Value) (sp : Sp) : Prop where
  ex : ∃ fd, FnG P w K mg base CX k f fd ps sp ∧ Binds K fd ps ds
/-- a def of the module -/
structure Df (K : PySem.W.Frag) (mg : Str → Option Value) (x : Str) (st : Stmt) (f : Addr) : Prop where
  ex : ∃ fd, Fun K x x st f fd
  mg : mg x = some (.ref f)
  kp : PySem.W.keepIn K (.ref f) = true
/-- a name of the module that holds v -/
def Gv (mg : Str → Option Value) (x : Str) (v : V) : Prop := ∃ u, mg x = some u ∧ RelV v u
section
variable {X : Cx} {CX : CXT} {k : Nat} {f C : Addr} {ps : List Str} {sp : Sp} {dvs : List V} {ds : List Value} {E : XK} {x m : Str} {p pos apos : Pos} {e o : Expr} {es : List Expr} {ta : TE} {t : TA}
theorem callK (F : Kp X.prog X.w X.K X.mg X.base CX k f ps ds sp) (hg : Calm X.A) (hr : Room k X.A) (hd : Vals dvs ds) (hx : Passes CX X E) :
    CallR X (.ref f) (fun vs H Q => sp (vs ++ dvs) H Q E) := by
  obtain ⟨fd, G, b⟩ := F.ex
  exact callR_fn G hg hr b hd hx
theorem callK0 (F : Kp X.prog X.w X.K X.mg X.base CX k f ps [] sp) (hg : Calm X.A) (hr : Room k X.A) (hx : Passes CX X E) :
    CallR X (.ref f) (fun vs H Q => sp vs H Q E) := fun pins s σ H xs us Q I r h => callK (dvs := []) F hg hr .nil hx pins s σ H xs us Q I r (by show sp (xs ++ []) H Q E; rw [List.append_nil]; exact h)
theorem pe_gv {v : V} (hg : Gl X x) (h : Gv X.mg x v) (hd : (x == ("__debug__" : Str)) = false := by decide) : PE X (.Name x pos) (tC v) := by
  obtain ⟨u, hm, r⟩ := h
  exact pe_glob hg hm r hd
theorem calm_in {A : Around} {env : Env} (h : Calm A) : Calm (A.deeper env) := h
end

/-! ### the steps -/
section
variable {σ : L2.St} {H : Hp} {Q : VK} {i : Nat} {v x y : V} {ta tb te : TE} {t : TA} {nx : L2.St → Hp → Prop} {rt : VK} {bk ct : L2.St → Hp → Prop} {a u : TS} {tt tu : TT}
theorem w_var (h : σ[i]? = some (some v)) (k : Q v H) : tVar i σ H Q := ⟨v, h, k⟩
theorem w_varE (k : ∃ v, σ[i]? = some (some v) ∧ Q v H) : tVar i σ H Q := k
theorem w_c (k : Q v H) : tC v σ H Q := k
theorem w_op {r : R2} (k : ta σ H fun x H1 => tb σ H1 fun y H2 => r x y H2 Q) : tOp r ta tb σ H Q := k
theorem w_un {r : V → Hp → VK → Prop} (k : ta σ H fun x H1 => r x H1 Q) : tUn r ta σ H Q := k
theorem w_rI {C : Int → Int → Prop} {g : Int → Int → V} {i j : Int} (hc : C i j) (k : Q (g i j) H) : rI C g (.int i) (.int j) H Q := ⟨i, j, rfl, rfl, hc, k⟩
theorem w_rI0 {g : Int → Int → V} {i j : Int} (k : Q (g i j) H) : rI0 g (.int i) (.int j) H Q := ⟨i, j, rfl, rfl, k⟩
theorem w_rU {g : Int → V} {i : Int} (k : Q (g i) H) : rU g (.int i) H Q := ⟨i, rfl, k⟩
theorem w_rEq (hs : scal x y = true) (k : Q (.bl (decide (x = y))) H) : rEq x y H Q := ⟨hs, k⟩
theorem w_rNe (hs : scal x y = true) (k : Q (.bl (!decide (x = y))) H) : rNe x y H Q := ⟨hs, k⟩
theorem w_nil {Q : List V → Hp → Prop} (k : Q [] H) : tNil σ H Q := k
theorem w_cons {Q : List V → Hp → Prop} {tr : TA} (k : ta σ H fun x H1 => tr σ H1 fun xs H2 => Q (x :: xs) H2) : tCons ta tr σ H Q := k
/-- a new list, a new tuple -/
def NewL (xs : List V) (H : Hp) (Q : VK) : Prop := ∀ p, H p = none → Q (.ref p) (upd H p (.lst xs))
def NewT (xs : List V) (H : Hp) (Q : VK) : Prop := ∀ p, H p = none → Q (.ref p) (upd H p (.tup xs))
theorem w_lst (k : t σ H fun xs H1 => xs.length ≤ sizeLine ∧ NewL xs H1 Q) : tLst t σ H Q := k
theorem w_tup (k : t σ H fun xs H1 => xs.length ≤ sizeLine ∧ NewT xs H1 Q) : tTup t σ H Q := k
theorem w_ixL {K : PySem.W.Frag} {p : Addr} {xs : List V} {i : Int} (h : SqL K H p xs) (ha : atI xs i = some v) (k : Q v H) : rIxL K (.ref p) (.int i) H Q := ⟨p, xs, i, v, rfl, rfl, h, ha, k⟩
theorem w_cb {r : List V → Hp → VK → Prop} (k : t σ H fun vs H1 => r vs H1 Q) : tCB r t σ H Q := k
theorem w_test {Q : Bool → Hp → Prop} (k : te σ H fun x H1 => ∃ b, x = .bl b ∧ Q b H1) : tTest te σ H Q := k
theorem w_B {Q : Bool → Hp → Prop} (k : te σ H fun x H1 => ∃ b, x = .bl b ∧ Q b H1) : tB te σ H Q := k
theorem w_bl {Q : Bool → Prop} {b : Bool} (k : Q b) : ∃ c, V.bl b = .bl c ∧ Q c := ⟨b, rfl, k⟩
theorem w_notV (k : ta σ H fun x H1 => ∃ c, x = .bl c ∧ Q (.bl (!c)) H1) : tNotV ta σ H Q := k
theorem w_andV (k : ta σ H fun x H1 => ∃ c, x = .bl c ∧ if c = true then tb σ H1 Q else Q (.bl false) H1) : tAndV ta tb σ H Q := k
theorem w_orV (k : ta σ H fun x H1 => ∃ c, x = .bl c ∧ if c = true then Q (.bl true) H1 else tb σ H1 Q) : tOrV ta tb σ H Q := k
theorem w_not {Q : Bool → Hp → Prop} (k : tt σ H fun c H1 => Q (!c) H1) : tNot tt σ H Q := k
theorem w_and {Q : Bool → Hp → Prop} (k : tt σ H fun c H1 => if c = true then tu σ H1 Q else Q false H1) : tAnd tt tu σ H Q := k
theorem w_or {Q : Bool → Hp → Prop} (k : tt σ H fun c H1 => if c = true then Q true H1 else tu σ H1 Q) : tOr tt tu σ H Q := k
theorem w_ifE (k : tt σ H fun c H1 => if c = true then ta σ H1 Q else tb σ H1 Q) : tIf tt ta tb σ H Q := k
theorem w_seq (k : a ⟨u ⟨nx, rt, bk, ct⟩, rt, bk, ct⟩ σ H) : tSeq a u ⟨nx, rt, bk, ct⟩ σ H := k
theorem w_next (k : nx σ H) : tNext ⟨nx, rt, bk, ct⟩ σ H := k
theorem w_ret (k : te σ H rt) : tRet te ⟨nx, rt, bk, ct⟩ σ H := k
theorem w_asg {g : TG} (k : te σ H fun x H1 => g x σ H1 nx) : tAsg te g ⟨nx, rt, bk, ct⟩ σ H := k
theorem w_gn (k : nx (σ.set i (some v)) H) : gName i v σ H nx := k
theorem w_gsub {to ti : TE} {ts : TSet} (k : to σ H fun o H1 => ti σ H1 fun i H2 => ts o i v H2 fun H3 => nx σ H3) : gSub to ti ts v σ H nx := k
theorem w_setL {p : Addr} {xs : List V} {k : Int} {j : Nat} {Q : Hp → Prop} (h : H p = some (.lst xs)) (hj : ixN xs.length k = some j) (q : Q (upd H p (.lst (xs.set j v)))) : rSetL (.ref p) (.int k) v H Q := ⟨p, xs, k, j, rfl, rfl, h, hj, q⟩
theorem w_drop (k : te σ H fun _ H1 => nx σ H1) : tDrop te ⟨nx, rt, bk, ct⟩ σ H := k
theorem w_ifS (k : tt σ H fun b H1 => if b = true then a ⟨nx, rt, bk, ct⟩ σ H1 else u ⟨nx, rt, bk, ct⟩ σ H1) : tIfS tt a u ⟨nx, rt, bk, ct⟩ σ H := k
theorem w_ite {p : Prop} [Decidable p] {A B : Prop} (h1 : p → A) (h2 : ¬ p → B) : if decide p = true then A else B := by
  by_cases h : p
  · rw [if_pos (decide_eq_true h)]; exact h1 h
  · rw [if_neg (by simpa using h)]; exact h2 h
theorem w_iteB {b : Bool} {A B : Prop} (h1 : b = true → A) (h2 : b = false → B) : if b = true then A else B := by
  cases b
  · exact h2 rfl
  · exact h1 rfl
theorem w_itT {b : Bool} {A B : Prop} (e : b = true) (h : A) : if b = true then A else B := by rw [if_pos e]; exact h
theorem w_itF {b : Bool} {A B : Prop} (e : b = false) (h : B) : if b = true then A else B := by rw [if_neg (by rw [e]; decide)]; exact h
theorem atI_of {xs : List V} {i : Int} {v : V} (h0 : 0 ≤ i) (h : xs[i.toNat]? = some v) : atI xs i = some v := by
  have e : i = ((i.toNat : Nat) : Int) := (Int.toNat_of_nonneg h0).symm
  rw [e]
  exact atI_nat h
theorem sz_ok {n : Nat} (h : n ≤ 1000) : n ≤ sizeLine := Nat.le_trans h (by decide)
end
/-! ### heaps -/
/-- all but p is as it was -/
def Bt (p : Addr) (H H' : Hp) : Prop := ∀ b o, b ≠ p → H b = some o → H' b = some o
theorem Bt.refl {p : Addr} {H : Hp} : Bt p H H := fun _ _ _ h => h
theorem Bt.trans {p : Addr} {H H1 H2 : Hp} (a : Bt p H H1) (b : Bt p H1 H2) : Bt p H H2 := fun c o n h => b c o n (a c o n h)
theorem Bt.new {p q : Addr} {H : Hp} {o : HO} (h : H q = none) : Bt p H (upd H q o) := fun b u _ e => by rw [upd_ne (ne_of_none e h)]; exact e
theorem Bt.at_ {p : Addr} {H : Hp} {o : HO} : Bt p H (upd H p o) := fun b u n e => by rw [upd_ne n]; exact e
theorem Bt.of {p : Addr} {H H' : Hp} (e : Same H H') : Bt p H H' := fun b o _ h => e b o h
theorem same_new {q : Addr} {H : Hp} {o : HO} (h : H q = none) : Same H (upd H q o) := fun b u e => by rw [upd_ne (ne_of_none e h)]; exact e
theorem Bt.back {p q : Addr} {H H' : Hp} (e : Bt p H H') (n : q ≠ p) (h : H' q = none) : H q = none := by
  cases h1 : H q with
  | none => rfl
  | some o => rw [e q o n h1] at h; cases h
theorem Bt.rd {K : PySem.W.Frag} {p a : Addr} {H H' : Hp} {xs : List V} (e : Bt p H H') (n : a ≠ p) (h : SqL K H a xs) : SqL K H' a xs := by
  rcases h with (h | ⟨o, h⟩) | h
  · exact .inl (.inl (e _ _ n h))
  · exact .inl (.inr ⟨o, e _ _ n h⟩)
  · exact .inr h
end Dz

set_option Elab.async false
set_option linter.all false
set_option maxRecDepth 100000
set_option maxHeartbeats 2000000
/-! Loops; kinds of things; isinstance. -/
namespace Dz
open PySem PySem.Spec PyProof.Rows L2
section
variable {σ : L2.St} {H : Hp} {Q : VK} {te tl : TE} {ta : TA} {nx : L2.St → Hp → Prop} {rt : VK} {bk ct : L2.St → Hp → Prop} {tb u : TS} {g : TG} {tt : TT} {vs : List Nat} {K : PySem.W.Frag} {wi : TI} {D : Ends}
/-- what a comprehension, a for asks of its walk J -/
def LcW (J : It) (g : TG) (tt : TT) (te : TE) (vs : List Nat) (σ : L2.St) (H : Hp) (Q : VK) : Prop := ∀ D, H D = none → ∃ W : Nat → Nat → Hp → Prop, (∃ m, W 0 m (upd H D (.lst []))) ∧ ∀ i m H, W i m H → (J.stop i H ∧ Q (.ref D) H) ∨ (J.go i H ∧ ∃ Nx : Hp → Prop, (∀ H', Nx H' → ∃ m', m' < m ∧ W (i + 1) m' H') ∧
      ∀ x H', J.yld i H x H' → g x (wipe σ vs) H' fun σ2 H2 => wipe σ2 vs = wipe σ vs ∧ tt σ2 H2 fun b H3 =>
        if b = true then te σ2 H3 fun y H4 => ∃ acc, H4 D = some (.lst acc) ∧ acc.length < sizeLine ∧ Nx (upd H4 D (.lst (acc ++ [y]))) else Nx H3)
def ForW (J : It) (g : TG) (tb : TS) (D : Ends) (σ : L2.St) (H : Hp) : Prop := ∃ W : Nat → Nat → L2.St → Hp → Prop, (∃ m, W 0 m σ H) ∧ ∀ i m σ H, W i m σ H → (J.stop i H ∧ D.nx σ H) ∨ (J.go i H ∧ ∃ N : L2.St → Hp → Prop, (∀ σ' H', N σ' H' → ∃ m', m' < m ∧ W (i + 1) m' σ' H') ∧
      ∀ x H', J.yld i H x H' → g x σ H' fun σ2 H2 => tb { D with nx := N, ct := N, bk := D.nx } σ2 H2)
theorem w_lc (k : wi σ H fun J H1 => LcW J g tt te vs σ H1 Q) : tLc wi g tt te vs σ H Q := k
theorem w_for (k : wi σ H fun J H1 => ForW J g tb D σ H1) : tFor wi g tb D σ H := k
theorem w_iR1 {R : It → Hp → Prop} (k : ta σ H fun xs H1 => ∃ j : Int, xs = [.int j] ∧ -(2 ^ 62) ≤ j ∧ j < 2 ^ 62 ∧ R (Itr 0 j.toNat) H1) : iRng1 ta σ H R := k
theorem w_iL {R : It → Hp → Prop} (k : tl σ H fun x H1 => ∃ a, x = .ref a ∧ (∃ xs, SqL K H1 a xs) ∧ R (Itl K a) H1) : iList K tl σ H R := k
theorem w_iT {R : It → Hp → Prop} (k : tl σ H fun x H1 => ∃ a, x = .ref a ∧ (∃ xs, SqT K H1 a xs) ∧ R (Itt K a) H1) : iTup K tl σ H R := k
theorem w_iS {R : It → Hp → Prop} (k : tl σ H fun x H1 => ∃ z, x = .str z ∧ R (Its z) H1) : iStr tl σ H R := k
theorem w_rng1 {Q : Int → Prop} {n : Int} (h : -(2 ^ 62) ≤ n ∧ n < 2 ^ 62) (k : Q n) : ∃ j : Int, [V.int n] = [V.int j] ∧ -(2 ^ 62) ≤ j ∧ j < 2 ^ 62 ∧ Q j := ⟨n, rfl, h.1, h.2, k⟩
theorem w_lst1 {Q : Addr → Prop} {a : Addr} {xs : List V} (h : SqL K H a xs) (k : Q a) : ∃ b, V.ref a = .ref b ∧ (∃ xs, SqL K H b xs) ∧ Q b := ⟨a, rfl, ⟨xs, h⟩, k⟩
theorem w_tup1 {Q : Addr → Prop} {a : Addr} {xs : List V} (h : SqT K H a xs) (k : Q a) : ∃ b, V.ref a = .ref b ∧ (∃ xs, SqT K H b xs) ∧ Q b := ⟨a, rfl, ⟨xs, h⟩, k⟩
theorem w_str1 {Q : Str → Prop} {z : Str} (k : Q z) : ∃ y, V.str z = .str y ∧ Q y := ⟨z, rfl, k⟩
/-- what a comprehension of n turns asks, x its i-th thing: Pv of the turn and the heap; D is where its list stands -/
def Lcs (n : Nat) (Gd : Hp → Prop) (Yd : Nat → V → Prop) (g : TG) (tt : TT) (te : TE) (vs : List Nat) (σ : L2.St) (H : Hp) (Q : VK) : Prop := ∀ D, H D = none → ∃ Pv : Nat → Hp → Prop, Pv 0 (upd H D (.lst [])) ∧ (∀ i H, i ≤ n → Pv i H → Gd H) ∧
  (∀ i x H, i < n → Yd i x → Pv i H → g x (wipe σ vs) H fun σ2 H2 => wipe σ2 vs = wipe σ vs ∧ tt σ2 H2 fun b H3 =>
    if b = true then te σ2 H3 fun y H4 => ∃ acc, H4 D = some (.lst acc) ∧ acc.length < sizeLine ∧ Pv (i + 1) (upd H4 D (.lst (acc ++ [y]))) else Pv (i + 1) H3) ∧ ∀ H, Pv n H → Q (.ref D) H
theorem lcs_go {J : It} {n : Nat} {Gd : Hp → Prop} {Yd : Nat → V → Prop} (w : Walk J n Gd fun i H x H' => H' = H ∧ Yd i x) (k : Lcs n Gd Yd g tt te vs σ H Q) : LcW J g tt te vs σ H Q := by
  intro D hD
  obtain ⟨Pv, h0, hG, hs, hd⟩ := k D hD
  refine lc_it w Pv h0 hG (fun i x H H' hi p y => ?_) hd
  obtain ⟨rfl, y⟩ := y
  exact hs i x H' hi y p
/-- the same of a for: Pv by the turn, the slots, the heap -/
def Fors (n : Nat) (Gd : Hp → Prop) (Yd : Nat → V → Prop) (g : TG) (tb : TS) (D : Ends) (σ : L2.St) (H : Hp) : Prop := ∃ Pv : Nat → L2.St → Hp → Prop, Pv 0 σ H ∧ (∀ i σ H, i ≤ n → Pv i σ H → Gd H) ∧
  (∀ i x σ H, i < n → Yd i x → Pv i σ H → g x σ H fun σ2 H2 => tb ⟨Pv (i + 1), D.rt, D.nx, Pv (i + 1)⟩ σ2 H2) ∧ ∀ σ H, Pv n σ H → D.nx σ H
theorem fors_go {J : It} {n : Nat} {Gd : Hp → Prop} {Yd : Nat → V → Prop} (w : Walk J n Gd fun i H x H' => H' = H ∧ Yd i x) (k : Fors n Gd Yd g tb D σ H) : ForW J g tb D σ H := by
  obtain ⟨Pv, h0, hG, hs, hd⟩ := k
  refine for_it w Pv h0 hG (fun i x σ H H' hi p y => ?_) hd
  obtain ⟨rfl, y⟩ := y
  exact hs i x σ H' hi y p
theorem wk_range {n : Nat} : Walk (Itr 0 n) n (fun _ => True) fun i H x H' => H' = H ∧ x = .int (i : Nat) := (walk_range (lo := 0) (n := n)).mono (fun _ h => h) fun i H x H' _ _ y => ⟨y.1, y.2.trans (by show V.int (0 + (i : Int)) = V.int (i : Int); rw [Int.zero_add])⟩
theorem wk_list {a : Addr} {xs : List V} : Walk (Itl K a) xs.length (fun H => SqL K H a xs) fun i H x H' => H' = H ∧ xs[i]? = some x := walk_list
theorem wk_tup {a : Addr} {xs : List V} : Walk (Itt K a) xs.length (fun H => SqT K H a xs) fun i H x H' => H' = H ∧ xs[i]? = some x := walk_tup
theorem wk_str {z : Str} : Walk (Its z) z.cps.size (fun _ => True) fun i H x H' => H' = H ∧ ∃ c, z.cps[i]? = some c ∧ x = .str ⟨#[c]⟩ := walk_str
theorem w_gtup {n : Nat} {t : TGs} {a : Addr} {xs : List V} (h : SqT K H a xs) (hl : xs.length = n) (k : t xs σ H nx) : gTup K n t (.ref a) σ H nx := ⟨a, xs, rfl, h, hl, k⟩
theorem w_gcons {t : TG} {u : TGs} {v : V} {vs : List V} (k : t v σ H fun σ' H' => u vs σ' H' nx) : gCons t u (v :: vs) σ H nx := ⟨v, vs, rfl, k⟩
theorem w_gnil (k : nx σ H) : gNil [] σ H nx := ⟨rfl, k⟩
theorem w_tyes {Q : Bool → Hp → Prop} (k : Q true H) : tYes σ H Q := k
theorem w_max {i j : Int} (k : Q (.int (if j > i then j else i)) H) : ∃ a b, [V.int i, V.int j] = [V.int a, V.int b] ∧ Q (.int (if b > a then b else a)) H := ⟨i, j, rfl, k⟩
end

/-! ### kinds of things -/
/-- what isinstance asks of an error's class -/
structure EI (K : PySem.W.Frag) (C : Addr) : Prop where
  hcl : (PySem.W.clsIn K C).isSome = true
  hga : PySem.W.findIn K (.ref C) "__getattribute__" = some (some (.builtin "BaseException.__getattribute__"))
  hgt : PySem.W.findIn K (.ref C) "__getattr__" = some none
  hsub : PySem.W.subIn K (.ref C) (.type "BaseException") = some true
  hc : PySem.W.findIn K (.ref C) "__class__" = some (some (.builtin "object.__class__"))
  hn : PySem.W.specialIn K (.builtin "object.__class__") "__get__" = some (some (.builtin "getset_descriptor.__get__"))
  htk : PySem.W.takesIn K (.builtin "object.__class__") = some true
  hm : PySem.W.mroIn K C (.type "object") = some true
  k1 : PySem.W.kitOne K (.ref C) (.type "int") = some false
  k2 : PySem.W.kitOne K (.ref C) (.type "bool") = some false
  k3 : PySem.W.kitOne K (.ref C) (.type "str") = some false
  k4 : PySem.W.kitOne K (.ref C) (.type "list") = some false
  k5 : PySem.W.kitOne K (.ref C) (.type "tuple") = some false
  k6 : PySem.W.kitOne K (.ref C) (.type "dict") = some false
theorem kit_no {K : PySem.W.Frag} {C : Addr} {T : String} (hm : PySem.W.kitMeta T = true) (h : PySem.W.subIn K (.ref C) (.type T) = some false) : PySem.W.kitOne K (.ref C) (.type T) = some false := by
  unfold PySem.W.kitOne PySem.W.kitCls
  rw [if_neg (by intro z; cases z)]
  show (if PySem.W.kitMeta T = true then PySem.W.subIn K (.ref C) (.type T) else none) = some false
  rw [if_pos hm, h]
/-- a thing that stands, not at p -/
inductive Kn (K : PySem.W.Frag) (p : Addr) (H : Hp) : V → Prop
  | int (i : Int) : Kn K p H (.int i)
  | str (z : Str) : Kn K p H (.str z)
  | bl (b : Bool) : Kn K p H (.bl b)
  | non : Kn K p H .non
  | lst {a : Addr} {xs : List V} (n : a ≠ p) (e : H a = some (.lst xs)) : Kn K p H (.ref a)
  | tup {a : Addr} {xs : List V} (n : a ≠ p) (e : H a = some (.tup xs)) : Kn K p H (.ref a)
  | dct {a : Addr} {kvs : List (Key × V)} (n : a ≠ p) (e : H a = some (.dK kvs)) : Kn K p H (.ref a)
  | err {a d C : Addr} {fs : List (Str × V)} (n : a ≠ p) (m : d ≠ p) (e : H a = some (exo a C (some d))) (f : H d = some (exd d fs)) (T : EI K C) : Kn K p H (.ref a)
theorem Kn.mono {K : PySem.W.Frag} {p : Addr} {H H' : Hp} {v : V} (h : Kn K p H v) (e : Bt p H H') : Kn K p H' v := by
  cases h with
  | int i => exact .int i
  | str z => exact .str z
  | bl b => exact .bl b
  | non => exact .non
  | lst n q => exact .lst n (e _ _ n q)
  | tup n q => exact .tup n (e _ _ n q)
  | dct n q => exact .dct n (e _ _ n q)
  | err n m q f T => exact .err n m (e _ _ n q) (e _ _ m f) T
def isInt : V → Bool
  | .int _ => true
  | .bl _ => true
  | _ => false
def isBool : V → Bool
  | .bl _ => true
  | _ => false
def isStr : V → Bool
  | .str _ => true
  | _ => false
/-- isinstance(x, int), bool, str -/
def rIs (K : PySem.W.Frag) (n : String) (f : V → Bool) : List V → Hp → VK → Prop := fun xs H Q => ∃ p v, xs = [v, .ty n] ∧ Kn K p H v ∧ Q (.bl (f v)) H
section
variable {X : Cx} {n : String} {f : V → Bool}
theorem is_of (hi : ∀ t, kitB "int" n = some (f (.int t))) (hb : ∀ t, kitB "bool" n = some (f (.bl t))) (hs : ∀ t, kitB "str" n = some (f (.str t))) (hn : kitB "NoneType" n = some (f .non)) (hl : ∀ a, kitB "list" n = some (f (.ref a))) (ht : ∀ a, kitB "tuple" n = some (f (.ref a))) (hd : ∀ a, kitB "dict" n = some (f (.ref a)))
    (he : ∀ C a, EI X.K C → PySem.W.kitOne X.K (.ref C) (.type n) = some (f (.ref a))) : CallR X (.builtin "isinstance") (rIs X.K n f) := by
  intro pins s σ H xs us Q I r h
  obtain ⟨p, v, rfl, kn, q⟩ := h
  have base : ∀ {t : Value}, TyX X.K H v t → PySem.W.kitOne X.K t (.type n) = some (f v) → wpAny (model X.prog X.w) X.A (call (.builtin "isinstance") us) (EP X pins σ Q) X.xe s := fun {t} ty k =>
    call_isi pins s σ H [v, .ty n] us Q I r ⟨v, .ty n, t, .type n, f v, rfl, .ty n, ty, k, q⟩
  cases kn with
  | int i => exact base (.base (.int i)) (kit_ty (hi _))
  | str z => exact base (.base (.str z)) (kit_ty (hs _))
  | bl b => exact base (.base (.bl b)) (kit_ty (hb _))
  | non => exact base (.base .non) (kit_ty hn)
  | lst _ e => exact base (.base (.lst e)) (kit_ty (hl _))
  | tup _ e => exact base (.base (.tup e)) (kit_ty (ht _))
  | dct _ e => exact base (.base (.dK e)) (kit_ty (hd _))
  | @err a d C fs _ _ e g T =>
    cases r with
    | @cons _ u1 _ _ r1 r2 =>
    cases r2 with
    | @cons _ u2 _ _ r2 r3 =>
    cases r3
    cases (show u1 = Value.ref a from r1)
    cases (show u2 = Value.type n from r2)
    obtain ⟨t1, ho⟩ := exo_at I.hok e
    obtain ⟨mA, ⟨od, es, ep, hd', _⟩, _⟩ := exd_at I.hok g
    refine PySem.W.kia_one (PySem.W.kitx_exc T.hcl T.hga T.hgt T.hsub T.hc T.hn T.htk T.hm) I.kIn (show PySem.W.InstAt s.heap a _ C (some od) from ⟨ho, rfl, rfl, hd'⟩) (he C a T) (fun z => nomatch z) fun tk => ⟨.bl _, H, I.tok tk, rfl, q⟩
theorem call_isInt : CallR X (.builtin "isinstance") (rIs X.K "int" isInt) := by
  refine is_of ?_ ?_ ?_ ?_ ?_ ?_ ?_ (fun C a T => T.k1) <;> first | (intros; show kitB _ _ = some true; decide +kernel) | (intros; show kitB _ _ = some false; decide +kernel)
theorem call_isBool : CallR X (.builtin "isinstance") (rIs X.K "bool" isBool) := by
  refine is_of ?_ ?_ ?_ ?_ ?_ ?_ ?_ (fun C a T => T.k2) <;> first | (intros; show kitB _ _ = some true; decide +kernel) | (intros; show kitB _ _ = some false; decide +kernel)
theorem call_isStr : CallR X (.builtin "isinstance") (rIs X.K "str" isStr) := by
  refine is_of ?_ ?_ ?_ ?_ ?_ ?_ ?_ (fun C a T => T.k3) <;> first | (intros; show kitB _ _ = some true; decide +kernel) | (intros; show kitB _ _ = some false; decide +kernel)
/-- x is True, x an int or a truth -/
def rNotTr : R2 := fun x y H Q => (isInt x = true) ∧ ∃ b, y = .bl b ∧ Q (.bl (!decide (x = .bl b))) H
theorem op_isnotb : OpR X (compareOp .IsNot) rNotTr := by
  intro pins s σ H x y v u Q I rx ry h
  obtain ⟨hx, b, rfl, q⟩ := h
  cases (show u = Value.bool b from ry)
  cases x with
  | int i =>
    obtain ⟨t, rfl⟩ := rx
    exact wpAny_isNot_other rfl (fun z => nomatch z) ⟨.bl true, H, I, rfl, by simpa using q⟩
  | bl a =>
    cases (show v = Value.bool a from rx)
    by_cases e : a = b
    · subst e
      exact wpAny_isNot_self rfl ⟨.bl false, H, I, rfl, by simpa using q⟩
    · exact wpAny_isNot_other rfl (fun z => e (Value.bool.inj z)) ⟨.bl true, H, I, rfl, by simpa [e] using q⟩
  | _ => cases hx
end
end Dz

set_option Elab.async false
set_option linter.all false
set_option maxRecDepth 100000
set_option maxHeartbeats 2000000
/-! What the laws' own draws promise. -/
namespace Dz
open PySem PySem.Spec PyProof.Rows L2
/-- a bag of draws at p, from which at most c times a number was made -/
def Bg (H : Hp) (p : Addr) (c : Int) : Prop := ∃ a b k : Int, H p = some (.lst [.int a, .int b, .int k]) ∧ 0 ≤ a ∧ 0 ≤ b ∧ b < 2147483629 ∧ 0 ≤ k ∧ k ≤ c
theorem Bg.more {H : Hp} {p : Addr} {c d : Int} (h : Bg H p c) (e : c ≤ d) : Bg H p d := by
  obtain ⟨a, b, k, h1, h2, h3, h4, h5, h6⟩ := h
  exact ⟨a, b, k, h1, h2, h3, h4, h5, by omega⟩
theorem Bg.same {H H' : Hp} {p : Addr} {c : Int} (h : Bg H p c) (e : Same H H') : Bg H' p c := by
  obtain ⟨a, b, k, h1, r⟩ := h
  exact ⟨a, b, k, e _ _ h1, r⟩
theorem Bg.ne {H : Hp} {p q : Addr} {c : Int} (h : Bg H p c) (e : H q = none) : q ≠ p := by
  obtain ⟨a, b, k, h1, r⟩ := h
  exact (ne_of_none h1 e).symm
/-- _law_cell -/
def spCel (K : PySem.W.Frag) : Sp := fun vs H Q _ => ∃ (a : Addr) (ns : List Int) (k : Int), vs = [.ref a, .int k] ∧ SqL K H a (ns.map V.int) ∧ ns.length ≤ 63 ∧ 0 ≤ k ∧ k ≤ 1000 ∧ ∀ (z : Int) H', Same H H' → Q (.int z) H'
/-- _law_bag -/
def spBag : Sp := fun vs H Q _ => ∃ z : Int, vs = [.int z] ∧ ∀ p H', H p = none → Same H H' → Bg H' p 0 → Q (.ref p) H'
/-- _law_take -/
def spTake : Sp := fun vs H Q _ => ∃ (p : Addr) (n c : Int), vs = [.ref p, .int n] ∧ Bg H p c ∧ c ≤ 1000000 ∧ 0 < n ∧ n.natAbs < 2 ^ 200 ∧ ∀ (d : Int) H', 0 ≤ d → d < n → Bt p H H' → Bg H' p (c + 1) → Q (.int d) H'
theorem take_now {H : Hp} {Q : VK} {E : XK} {p : Addr} {n c : Int} (b : Bg H p c) (hc : c ≤ 1000000) (h0 : 0 < n) (hn : n.natAbs < 2 ^ 200)
    (k : ∀ (d : Int) H', 0 ≤ d → d < n → Bt p H H' → Bg H' p (c + 1) → Q (.int d) H') : spTake [.ref p, .int n] H Q E := ⟨p, n, c, rfl, b, hc, h0, hn, k⟩
theorem take_num {b k m : Int} (h0 : 0 ≤ b) (h1 : b < 2147483629) (h2 : 0 ≤ k) (h3 : k ≤ 1000000) (h4 : 0 ≤ m) (h5 : m ≤ 1000) : (b + 7919 * (k + 1) + m).natAbs < 2 ^ 64 := by
  have : b + 7919 * (k + 1) + m < 2 ^ 40 := by omega
  omega
theorem take_num2 {b k : Int} (h0 : 0 ≤ b) (h1 : b < 2147483647) (h2 : 0 ≤ k) (h3 : k ≤ 1000000) : (b + 15485863 * (k + 1)).natAbs < 2 ^ 64 := by
  have : b + 15485863 * (k + 1) < 2 ^ 50 := by omega
  omega
theorem ints3 {a b k : Int} : ([.int a, .int b, .int k] : List V) = [V.int a, V.int b, V.int k] := rfl
theorem atI0 {x : V} {l : List V} : atI (x :: l) 0 = some x := atI_of (Int.le_refl _) rfl
theorem atI1 {x y : V} {l : List V} : atI (x :: y :: l) 1 = some y := atI_of (by decide) rfl
theorem atI2 {x y z : V} {l : List V} : atI (x :: y :: z :: l) 2 = some z := atI_of (by decide) rfl
theorem mulW_small {i j : Int} (h1 : i.natAbs < 2 ^ 300) (h2 : j.natAbs < 2 ^ 300) : CMulW i j := wide_mul h1 h2 (by decide) (by decide) (by decide)
end Dz

set_option Elab.async false
set_option linter.all false
set_option maxRecDepth 100000
set_option maxHeartbeats 2000000
namespace Dz
open PySem PySem.Spec PyProof.Rows L2
/-- a new dict; a new error of the class at C -/
def NewD (H : Hp) (Q : VK) : Prop := ∀ p, H p = none → Q (.ref p) (upd H p (.dK []))
def NewE (C : Addr) (f : Str) (y : V) (H : Hp) (Q : VK) : Prop := ∀ a d, H a = none → H d = none → d ≠ a → Q (.ref a) (upd (upd H d (exd d [(f, y)])) a (exo a C (some d)))
section
variable {σ : L2.St} {H : Hp} {Q : VK} {te tl to : TE} {ta : TA} {K : PySem.W.Frag}
theorem w_sl {r : V → Option Int → Option Int → Hp → VK → Prop} {t1 t2 : TO} (k : te σ H fun x H1 => t1 σ H1 fun l H2 => t2 σ H2 fun u H3 => r x l u H3 Q) : tSl r te t1 t2 σ H Q := k
theorem w_nopart {Q : Option Int → Hp → Prop} (k : Q none H) : tNoPart σ H Q := k
theorem w_part {Q : Option Int → Hp → Prop} (k : te σ H fun x H1 => ∃ i, x = .int i ∧ Q (some i) H1) : tPart te σ H Q := k
theorem w_int {Q : Int → Prop} {i : Int} (k : Q i) : ∃ j, V.int i = .int j ∧ Q j := ⟨i, rfl, k⟩
theorem w_m1 {r : V → List V → Hp → VK → Prop} (k : to σ H fun x H1 => (∃ a, x = .str a) ∧ te σ H1 fun y H2 => r x [y] H2 Q) : tM1 r to te σ H Q := k
theorem w_strA {a : Str} {P : Prop} (k : P) : (∃ b, V.str a = .str b) ∧ P := ⟨⟨a, rfl⟩, k⟩
theorem w_rEqr {x y : V} (hs : scal x y = true) (k : Q (.bl (decide (x = y))) H) : rEq x y H Q := ⟨hs, k⟩
theorem w_chain {r r' : R2} {ta tb tc : TE} (k : ta σ H fun x H1 => tb σ H1 fun y H2 => r x y H2 fun z H3 => ∃ k, z = .bl k ∧ (if k = true then tc σ H3 fun w' H4 => r' y w' H4 Q else Q (.bl false) H3)) : tChain r r' ta tb tc σ H Q := k
theorem w_vei (k : ta σ H fun vs H1 => ∃ (a C : Addr) (ws : List V), vs = .ref a :: ws ∧ ws.length ≤ 1000 ∧ OexC K C ∧ H1 a = some (exo a C none) ∧ Q .non H1) : tVeI K ta σ H Q := k
theorem w_revL (k : te σ H fun x H1 => ∃ a xs, x = .ref a ∧ SqL K H1 a xs ∧ NewL xs.reverse H1 Q) : tRevL K te σ H Q := k
theorem w_slL {a : Addr} {xs : List V} {lo hi : Option Int} (h : SqL K H a xs) (k : NewL (cutV xs lo hi) H Q) : rSlL K (.ref a) lo hi H Q := ⟨a, xs, rfl, h, k⟩
theorem w_cat {l b : Addr} {xs zs : List V} (h1 : H l = some (.lst xs)) (h2 : H b = some (.lst zs)) (hz : xs.length + zs.length ≤ sizeLine) (k : NewL (xs ++ zs) H Q) : rCat (.ref l) (.ref b) H Q := ⟨l, b, xs, zs, rfl, rfl, h1, h2, hz, k⟩
theorem w_dnew (k : NewD H Q) : tDNewK σ H Q := k
theorem w_disp {trs : List (TE × TE)} (k : ∀ p G, H p = none → Same H G → G p = some (.dK []) → tPairs trs σ G fun ps H2 => H2 p = some (.dK []) ∧ ∃ kvs : List (Key × V), ps = kvs.map (fun kv => (kV kv.1, kv.2)) ∧ kvs.length ≤ 15 ∧ Q (.ref p) (upd H2 p (.dK (mergeK [] kvs)))) : tDisp trs σ H Q := fun p np => k p _ np (same_new np) upd_same
/-- self.f = y of an error that has no dict yet -/
theorem w_ost {f : Str} {nx : L2.St → Hp → Prop} {rt : VK} {bk ct : L2.St → Hp → Prop} (k : te σ H fun y H1 => to σ H1 fun x H2 => ∃ a C : Addr, x = .ref a ∧ OexC K C ∧ PySem.W.findIn K (.ref C) f = some none ∧
  ((H2 a = some (exo a C none) ∧ ∀ dx, H2 dx = none → dx ≠ a → nx σ (upd (upd H2 dx (exd dx [(f, y)])) a (exo a C (some dx)))) ∨
    ∃ (dx : Addr) (fs : List (Str × V)), H2 a = some (exo a C (some dx)) ∧ H2 dx = some (exd dx fs) ∧ fs.length ≤ 900 ∧ nx σ (upd H2 dx (exd dx ((f, y) :: fs))))) : tOst K f to te ⟨nx, rt, bk, ct⟩ σ H := k
end
/-- C.__init__(self, found) -/
def spErr (f : Str) (C : Addr) : Sp := fun vs H Q _ => ∃ (a : Addr) (y : V), vs = [.ref a, y] ∧ H a = some (exo a C none) ∧ ∀ d, H d = none → d ≠ a → Q .non (upd (upd H d (exd d [(f, y)])) a (exo a C (some d)))
/-- a class of errors as the top has made it -/
structure Er (K : PySem.W.Frag) (mg : Str → Option Value) (x f : Str) (C fI : Addr) : Prop where
  mg : mg x = some (.ref C)
  oex : OexC K C
  ini : PySem.W.findIn K (.ref C) "__init__" = some (some (.ref fI))
  ty : PySem.W.typeIn K (.ref fI) = some (.type "function")
  nof : PySem.W.findIn K (.ref C) f = some none
  ei : EI K C
/-- x(e) as a value -/
theorem er_call {X : Cx} {x f : Str} {C fI : Addr} {k : Nat} (T : Er X.K X.mg x f C fI) (G : Kp X.prog X.w X.K X.mg X.base CX0 k fI ["self", "found"] [] (spErr f C)) (hcl : Calm X.A) (hr : Room (k + 1) X.A) :
    CallR X (.ref C) (fun vs H Q => ∃ y, vs = [y] ∧ NewE C f y H Q) := by
  intro pins s σ H vs us Q I r h
  obtain ⟨fd, F, b⟩ := G.ex
  obtain ⟨y, rfl, q⟩ := h
  refine call_err T.oex T.ini T.ty F hcl hr b pass0 pins s σ H [y] us Q I r ⟨(by show 1 ≤ 1000; decide), fun a na => ⟨a, y, rfl, upd_same, fun d nd hd => ⟨rfl, ?_⟩⟩⟩
  have nd' : H d = none := by rw [upd_ne hd] at nd; exact nd
  have e : upd (upd (upd H a (exo a C none)) d (exd d [(f, y)])) a (exo a C (some d)) = upd (upd H d (exd d [(f, y)])) a (exo a C (some d)) := by
    funext z
    unfold upd
    by_cases h1 : z = a
    · rw [if_pos h1, if_pos h1]
    · rw [if_neg h1, if_neg h1, if_neg h1]
  rw [e]
  exact q a d na nd' hd

/-! ### lists and texts -/
theorem map_at {ns : List Int} {k : Int} (h0 : 0 ≤ k) (h : k < (ns.map V.int).length) : ∃ z, z ∈ ns ∧ atI (ns.map V.int) k = some (.int z) := by
  rw [List.length_map] at h
  have hk : k.toNat < ns.length := by omega
  exact ⟨ns[k.toNat], List.getElem_mem _, atI_of h0 (by rw [List.getElem?_map, List.getElem?_eq_getElem hk]; rfl)⟩
theorem pick {ns : List Int} {l : List V} {k : Int} {m : Int} (e : l = ns.map V.int) (h0 : 0 ≤ k) (h1 : k < m) (hm : m ≤ ns.length) : ∃ z, z ∈ ns ∧ atI l k = some (.int z) := by
  subst e
  exact map_at h0 (by rw [List.length_map]; omega)
theorem cut_ints (ns : List Int) (lo hi : Option Int) : ∃ ms : List Int, cutV (ns.map V.int) lo hi = ms.map V.int :=
  ⟨(ns.drop (HT.sIx (ns.map V.int).length 0 lo)).take (HT.sIx (ns.map V.int).length (ns.map V.int).length hi - HT.sIx (ns.map V.int).length 0 lo), by unfold cutV; rw [← List.map_drop, ← List.map_take]⟩
/-- texts of plain signs -/
def Asc (z : Str) : Prop := ∀ c ∈ z.cps.toList, c < 128
theorem asc_ok {z : Str} (h : Asc z) : PyData.strOk z = true := by
  unfold PyData.strOk
  rw [Array.all_eq_true']
  intro c hc
  have := h c (by simpa using hc)
  exact decide_eq_true (by omega)
theorem dp_strs {K : PySem.W.Frag} {H : Hp} : ∀ zs : List Str, DpAll K H (zs.map V.str) (zs.map PyData.str)
  | [] => .nil
  | z :: zs => .cons (.str z) (dp_strs zs)
theorem lay_strs : ∀ {zs : List Str}, (∀ z ∈ zs, Asc z) → PyData.canLayAll0 (zs.map PyData.str) = true
  | [], _ => rfl
  | z :: zs, h => by
    have h1 := asc_ok (h z List.mem_cons_self)
    have h2 := lay_strs fun y hy => h y (List.mem_cons_of_mem _ hy)
    simp only [List.map_cons, PyData.canLayAll0, PyData.canLay0, h1, h2, Bool.and_self]
theorem dep_strs : ∀ zs : List Str, PyData.depthAll (zs.map PyData.str) = 0
  | [] => rfl
  | z :: zs => by simp only [List.map_cons, PyData.depthAll, PyData.depth, dep_strs zs]; rfl
theorem shaped_strs {zs : List Str} (h : ∀ z ∈ zs, Asc z) : SeqAt.shaped (.list (zs.map PyData.str)) = true := by
  unfold SeqAt.shaped
  have h1 := lay_strs h
  have h2 := dep_strs zs
  simp only [PyData.canLay0, PyData.depth, h1, h2]
  decide
theorem eqv_nil (ds : List PyData) : PyData.eqv (.list ds) (.list []) = ds.isEmpty := by cases ds <;> simp [PyData.eqv, PyData.eqvAll]
theorem join_len (a : Str) (ha : a.length = 0) : ∀ ys : List Str, (Str.join a ys).length = (ys.map (·.length)).sum
  | [] => rfl
  | [x] => by show x.length = _; simp
  | x :: y :: r => by
    show (x ++ a ++ Str.join a (y :: r)).length = _
    rw [PySem.strLen_append, PySem.strLen_append, join_len a ha (y :: r), ha]
    simp [List.sum_cons]
theorem join_mem (a : Str) (ha : a.cps.toList = []) : ∀ (ys : List Str) (c : Nat), c ∈ (Str.join a ys).cps.toList → ∃ y ∈ ys, c ∈ y.cps.toList
  | [], c, h => by
    have h' : c ∈ (Str.empty : Str).cps.toList := h
    exact absurd h' (by simp [Str.empty])
  | [x], c, h => ⟨x, List.mem_cons_self, h⟩
  | x :: y :: r, c, h => by
    have h' : c ∈ ((x ++ a) ++ Str.join a (y :: r)).cps.toList := h
    have e : ((x ++ a) ++ Str.join a (y :: r)).cps.toList = x.cps.toList ++ a.cps.toList ++ (Str.join a (y :: r)).cps.toList := by
      show ((x.cps ++ a.cps) ++ _).toList = _
      simp
    rw [e, ha, List.append_nil] at h'
    rcases List.mem_append.mp h' with q | q
    · exact ⟨x, List.mem_cons_self, q⟩
    · obtain ⟨z, hz, hc⟩ := join_mem a ha (y :: r) c q
      exact ⟨z, List.mem_cons_of_mem _ hz, hc⟩
theorem int_sml {n : Int} (h : n.natAbs < 2 ^ 150) : (Str.ofString (toString n)).length ≤ 1000 ∧ Asc (Str.ofString (toString n)) := by
  have h1 : (toString n).length ≤ 151 := int_text_length_le (k := 150) (by decide) (PySem.Flt.log2_lt_of (by decide) h)
  constructor
  · rw [PySem.ofString_length]
    omega
  · intro c hc
    rw [Str.ofString_eq_toList] at hc
    have hc' : c ∈ (toString n).toList.map Char.toNat := by simpa using hc
    obtain ⟨d, hd, rfl⟩ := List.mem_map.mp hc'
    exact int_ascii n d hd
theorem atI_mem {l : List V} {k : Int} (h0 : 0 ≤ k) (h1 : k < (l.length : Int)) : ∃ x, x ∈ l ∧ atI l k = some x := by
  have hk : k.toNat < l.length := by omega
  exact ⟨l[k.toNat], List.getElem_mem _, atI_of h0 (List.getElem?_eq_getElem hk)⟩
/-! ### new things, at a heap of which only that is known -/
section
variable {H : Hp} {Q : VK} {xs : List V}
theorem newL_mk (k : ∀ p G, H p = none → Same H G → G p = some (.lst xs) → Q (.ref p) G) : NewL xs H Q := fun p np => k p _ np (same_new np) upd_same
theorem newT_mk (k : ∀ p G, H p = none → Same H G → G p = some (.tup xs) → Q (.ref p) G) : NewT xs H Q := fun p np => k p _ np (same_new np) upd_same
theorem newD_mk (k : ∀ p G, H p = none → Same H G → G p = some (.dK []) → Q (.ref p) G) : NewD H Q := fun p np => k p _ np (same_new np) upd_same
theorem newE_mk {C : Addr} {f : Str} {y : V} (k : ∀ a d G, H a = none → H d = none → d ≠ a → Same H G → G a = some (exo a C (some d)) → G d = some (exd d [(f, y)]) → Q (.ref a) G) : NewE C f y H Q := fun a d na nd h =>
  k a d _ na nd h (fun b o e => by rw [upd_ne (ne_of_none e na), upd_ne (ne_of_none e nd)]; exact e) upd_same (by rw [upd_ne h, upd_same])
end
/-! ### comprehensions whose turns change nothing that stands -/
section
variable {σ : L2.St} {H : Hp} {Q : VK} {te : TE} {g : TG} {tt : TT} {vs : List Nat} {n : Nat} {Gd : Hp → Prop} {Yd : Nat → V → Prop}
theorem lcs_of {α : Type} (cs : List α) (keep : α → Bool) (f : α → V) (hn : cs.length = n) (hz : n ≤ 100000) (hG : ∀ H', Same H H' → Gd H')
    (turn : ∀ i c x H' (R : VK) (S : Hp → Prop), cs[i]? = some c → Yd i x → Same H H' → (keep c = true → ∀ H4, Same H' H4 → R (f c) H4) → (keep c = false → ∀ H4, Same H' H4 → S H4) →
      g x (wipe σ vs) H' fun σ2 H2 => wipe σ2 vs = wipe σ vs ∧ tt σ2 H2 fun b H3 => if b = true then te σ2 H3 R else S H3)
    (fin : ∀ D H', H D = none → Same H H' → H' D = some (.lst ((cs.filter keep).map f)) → Q (.ref D) H') : Lcs n Gd Yd g tt te vs σ H Q := by
  intro D hD
  refine ⟨fun i H' => Same H H' ∧ H' D = some (.lst (((cs.take i).filter keep).map f)), ⟨same_new hD, upd_same⟩, fun i H' _ p => hG H' p.1, ?_, fun H' p => ?_⟩
  · rintro i x H' hi hy ⟨s1, d1⟩
    obtain ⟨c, hc⟩ : ∃ c, cs[i]? = some c := ⟨cs[i]'(by omega), List.getElem?_eq_getElem (by omega)⟩
    have e : cs.take (i + 1) = cs.take i ++ [c] := by rw [List.take_add_one, hc]; rfl
    refine turn i c x H' _ _ hc hy s1 (fun hk H4 s2 => ?_) (fun hk H4 s2 => ?_)
    · refine ⟨_, s2 _ _ d1, ?_, ?_, ?_⟩
      · rw [List.length_map]
        have h1 := List.length_filter_le keep (cs.take i)
        rw [List.length_take] at h1
        rw [sizeLine_eq]
        omega
      · intro b o q
        have nb : b ≠ D := ne_of_none q hD
        rw [upd_ne nb]
        exact s2 _ _ (s1 _ _ q)
      · rw [upd_same, e, List.filter_append, List.map_append]
        simp [hk]
    · refine ⟨s1.trans s2, ?_⟩
      rw [e, List.filter_append]
      simp [hk]
      exact s2 _ _ d1
  · obtain ⟨s1, d1⟩ := p
    rw [List.take_of_length_le (by omega)] at d1
    exact fin D H' hD s1 d1
end
theorem Bt.put {p q : Addr} {H H' : Hp} {o : HO} (e : Bt p H H') (h : H q = none) : Bt p H (upd H' q o) := fun b u n k => by rw [upd_ne (ne_of_none k h)]; exact e b u n k
theorem Bg.put {H : Hp} {p q : Addr} {c : Int} {o : HO} (h : Bg H p c) (n : q ≠ p) : Bg (upd H q o) p c := by
  obtain ⟨a, b, k, h1, r⟩ := h
  exact ⟨a, b, k, by rw [upd_ne n.symm]; exact h1, r⟩
theorem keep_all {α : Type} (cs : List α) : cs.filter (fun _ => true) = cs := by simp
theorem Kn.same {K : PySem.W.Frag} {p : Addr} {H H' : Hp} {v : V} (h : Kn K p H v) (e : Same H H') : Kn K p H' v := h.mono (.of e)
end Dz

set_option Elab.async false
set_option linter.all false
set_option maxRecDepth 100000
set_option maxHeartbeats 2000000
local macro_rules | `(tactic| walk_at "vc1") => `(tactic| first
  | with_reducible refine Dz.w_seq ?_
  | with_reducible refine Dz.w_asg ?_
  | with_reducible refine Dz.w_gn ?_
  | with_reducible refine Dz.w_gsub ?_
  | with_reducible refine Dz.w_ret ?_
  | with_reducible refine Dz.w_drop ?_
  | with_reducible refine Dz.w_ifS ?_
  | with_reducible refine Dz.w_next ?_
  | ((with_reducible refine Dz.w_varE ?_); (refine ⟨_, rfl, ?_⟩))
  | with_reducible refine Dz.w_c ?_
  | with_reducible refine Dz.w_op ?_
  | with_reducible refine Dz.w_un ?_
  | with_reducible refine Dz.w_rI0 ?_
  | with_reducible refine Dz.w_rU ?_
  | with_reducible refine Dz.w_nil ?_
  | with_reducible refine Dz.w_cons ?_
  | with_reducible refine Dz.w_lst ?_
  | with_reducible refine Dz.w_tup ?_
  | with_reducible refine Dz.w_cb ?_
  | with_reducible refine Dz.w_test ?_
  | with_reducible refine Dz.w_B ?_
  | with_reducible refine Dz.w_bl ?_
  | with_reducible refine Dz.w_notV ?_
  | with_reducible refine Dz.w_andV ?_
  | with_reducible refine Dz.w_orV ?_
  | with_reducible refine Dz.w_not ?_
  | with_reducible refine Dz.w_and ?_
  | with_reducible refine Dz.w_or ?_
  | with_reducible refine Dz.w_ifE ?_
  | with_reducible refine Dz.w_lc ?_
  | with_reducible refine Dz.w_for ?_
  | with_reducible refine Dz.w_iR1 ?_
  | with_reducible refine Dz.w_iL ?_
  | with_reducible refine Dz.w_iT ?_
  | with_reducible refine Dz.w_iS ?_
  | with_reducible refine Dz.w_gcons ?_
  | with_reducible refine Dz.w_gnil ?_
  | with_reducible refine Dz.w_tyes ?_
  | with_reducible refine Dz.w_sl ?_
  | with_reducible refine Dz.w_nopart ?_
  | with_reducible refine Dz.w_part ?_
  | with_reducible refine Dz.w_int ?_
  | with_reducible refine Dz.w_m1 ?_
  | with_reducible refine Dz.w_strA ?_
  | with_reducible refine Dz.w_chain ?_
  | with_reducible refine Dz.w_vei ?_
  | with_reducible refine Dz.w_revL ?_
  | with_reducible refine Dz.w_dnew ?_
  | with_reducible refine Dz.w_ost ?_
  | with_reducible refine Dz.w_ck ?_
  | with_reducible refine Dz.w_par ?_
  | with_reducible refine Dz.w_pair ?_
  | with_reducible refine Dz.w_bm ?_
  | with_reducible refine Dz.w_bm0 ?_
  | with_reducible refine Dz.w_nn ?_
  | ((with_reducible refine Dz.w_rEq ?_ ?_); (exact rfl))
  | ((with_reducible refine Dz.w_rNe ?_ ?_); (exact rfl)))
local macro_rules | `(tactic| walk_at "vc") => `(tactic| ((try dsimp only); repeat (walk_at "vc1"; (try dsimp only))))
namespace K01
open PySem PySem.Spec PyProof.Rows L2 Dz
def top (i : Nat) : Stmt := PySem.Challenge.pw_drowsetree_k01_wholes_and_names.main.body.getD i (.Pass ⟨0, 0, 0, 0⟩)
abbrev s_NoName_init : Stmt := inClass (top 2) 0
theorem sc_NoName_init : FnScope ["self", "found"] ["self", "found"] (defScope s_NoName_init) := ⟨rfl, rfl, rfl, by decide +kernel, rfl, by decide +kernel, by decide +kernel⟩
abbrev s_is_truth : Stmt := top 6
theorem sc_is_truth : FnScope ["thing"] ["thing"] (defScope s_is_truth) := ⟨rfl, rfl, rfl, by decide +kernel, rfl, by decide +kernel, by decide +kernel⟩
abbrev s_is_number : Stmt := top 7
theorem sc_is_number : FnScope ["thing"] ["thing"] (defScope s_is_number) := ⟨rfl, rfl, rfl, by decide +kernel, rfl, by decide +kernel, by decide +kernel⟩
abbrev s_is_at_least : Stmt := top 8
theorem sc_is_at_least : FnScope ["thing", "low"] ["thing", "low"] (defScope s_is_at_least) := ⟨rfl, rfl, rfl, by decide +kernel, rfl, by decide +kernel, by decide +kernel⟩
abbrev s_is_whole : Stmt := top 9
theorem sc_is_whole : FnScope ["thing", "low", "high"] ["thing", "low", "high"] (defScope s_is_whole) := ⟨rfl, rfl, rfl, by decide +kernel, rfl, by decide +kernel, by decide +kernel⟩
abbrev s_is_name : Stmt := top 10
theorem sc_is_name : FnScope ["thing"] ["thing"] (defScope s_is_name) := ⟨rfl, rfl, rfl, by decide +kernel, rfl, by decide +kernel, by decide +kernel⟩
abbrev s__is_made_of : Stmt := top 11
theorem sc__is_made_of : FnScope ["text", "signs", "sign"] ["text", "signs"] (defScope s__is_made_of) := ⟨rfl, rfl, rfl, by decide +kernel, rfl, by decide +kernel, by decide +kernel⟩
abbrev s__law_cell : Stmt := top 13
theorem sc__law_cell : FnScope ["_law_script", "_law_k"] ["_law_script", "_law_k"] (defScope s__law_cell) := ⟨rfl, rfl, rfl, by decide +kernel, rfl, by decide +kernel, by decide +kernel⟩
abbrev s__law_bag : Stmt := top 14
theorem sc__law_bag : FnScope ["_law_cell_here"] ["_law_cell_here"] (defScope s__law_bag) := ⟨rfl, rfl, rfl, by decide +kernel, rfl, by decide +kernel, by decide +kernel⟩
abbrev s__law_take : Stmt := top 15
theorem sc__law_take : FnScope ["_law_bag_here", "_law_below", "_law_digit", "_law_number_here"] ["_law_bag_here", "_law_below"] (defScope s__law_take) := ⟨rfl, rfl, rfl, by decide +kernel, rfl, by decide +kernel, by decide +kernel⟩
abbrev s__law_number : Stmt := top 16
theorem sc__law_number : FnScope ["_law_bag_here", "_law_way", "_law_size"] ["_law_bag_here"] (defScope s__law_number) := ⟨rfl, rfl, rfl, by decide +kernel, rfl, by decide +kernel, by decide +kernel⟩
abbrev s__law_text : Stmt := top 17
theorem sc__law_text : FnScope ["_law_bag_here", "_law_letters", "_law_signs", "_law_size", "_law_row", "_law_k"] ["_law_bag_here"] (defScope s__law_text) := ⟨rfl, rfl, rfl, by decide +kernel, rfl, by decide +kernel, by decide +kernel⟩
abbrev s__law_is_name : Stmt := top 18
theorem sc__law_is_name : FnScope ["_law_thing", "_law_sign"] ["_law_thing"] (defScope s__law_is_name) := ⟨rfl, rfl, rfl, by decide +kernel, rfl, by decide +kernel, by decide +kernel⟩
abbrev s__law_is_whole : Stmt := top 19
theorem sc__law_is_whole : FnScope ["_law_thing", "_law_low", "_law_high"] ["_law_thing", "_law_low", "_law_high"] (defScope s__law_is_whole) := ⟨rfl, rfl, rfl, by decide +kernel, rfl, by decide +kernel, by decide +kernel⟩
abbrev s__law_things : Stmt := top 20
theorem sc__law_things : FnScope ["_law_bag_here", "_law_number_here", "_law_text_here", "_law_odd"] ["_law_bag_here"] (defScope s__law_things) := ⟨rfl, rfl, rfl, by decide +kernel, rfl, by decide +kernel, by decide +kernel⟩
abbrev s_law : Stmt := top 21
theorem sc_law : FnScope ["_law_script", "_law_k", "_law_bag_here", "_law_things_here", "_law_near", "_law_far", "_law_low", "_law_high", "_law_thing", "_law_found"] ["_law_script"] (defScope s_law) := ⟨rfl, rfl, rfl, by decide +kernel, rfl, by decide +kernel, by decide +kernel⟩
/-- where things stand -/
structure Ad where
  f_NoName_init : Addr
  f_is_truth : Addr
  f_is_number : Addr
  f_is_at_least : Addr
  f_is_whole : Addr
  f_is_name : Addr
  f__is_made_of : Addr
  f__law_cell : Addr
  f__law_bag : Addr
  f__law_take : Addr
  f__law_number : Addr
  f__law_text : Addr
  f__law_is_name : Addr
  f__law_is_whole : Addr
  f__law_things : Addr
  f_law : Addr
  C_WakeError : Addr
  C_NoName : Addr
/-- what the top has written -/
structure Txt (K : PySem.W.Frag) (mg : Str → Option Value) (A : Ad) : Prop where
  z_all : mg "all" = none
  z_bool : mg "bool" = none
  z_int : mg "int" = none
  z_isinstance : mg "isinstance" = none
  z_len : mg "len" = none
  z_max : mg "max" = none
  z_min : mg "min" = none
  z_range : mg "range" = none
  z_repr : mg "repr" = none
  z_str : mg "str" = none
  z_sum : mg "sum" = none
  c__LETTERS : Gv mg "_LETTERS" (.str "abcdefghijklmnopqrstuvwxyz")
  c__NAME_SIGNS : Gv mg "_NAME_SIGNS" (.int 8)
  d_is_truth : Df K mg "is_truth" s_is_truth A.f_is_truth
  d_is_number : Df K mg "is_number" s_is_number A.f_is_number
  d_is_at_least : Df K mg "is_at_least" s_is_at_least A.f_is_at_least
  d_is_whole : Df K mg "is_whole" s_is_whole A.f_is_whole
  d_is_name : Df K mg "is_name" s_is_name A.f_is_name
  d__is_made_of : Df K mg "_is_made_of" s__is_made_of A.f__is_made_of
  d__law_cell : Df K mg "_law_cell" s__law_cell A.f__law_cell
  d__law_bag : Df K mg "_law_bag" s__law_bag A.f__law_bag
  d__law_take : Df K mg "_law_take" s__law_take A.f__law_take
  d__law_number : Df K mg "_law_number" s__law_number A.f__law_number
  d__law_text : Df K mg "_law_text" s__law_text A.f__law_text
  d__law_is_name : Df K mg "_law_is_name" s__law_is_name A.f__law_is_name
  d__law_is_whole : Df K mg "_law_is_whole" s__law_is_whole A.f__law_is_whole
  d__law_things : Df K mg "_law_things" s__law_things A.f__law_things
  d_law : Df K mg "law" s_law A.f_law
  m_WakeError : mg "WakeError" = some (.ref A.C_WakeError)
  up : ∃ mc, UpC K A.C_WakeError mc
  e_NoName : Er K mg "NoName" "found" A.C_NoName A.f_NoName_init
  n_NoName_init : ∃ fd, Fun K "__init__" "NoName.__init__" s_NoName_init A.f_NoName_init fd
section
variable {P : Program} {w : World} {K : PySem.W.Frag} {mg : Str → Option Value} {base : Heap} {A : Ad}
theorem ok__law_cell (T : Txt K mg A)   : Kp P w K mg base CX0 1 A.f__law_cell ["_law_script", "_law_k"] [] (spCel K) := by
  obtain ⟨fd, F⟩ := T.d__law_cell.ex
  refine ⟨fd, fnG_nx (k := 0) F sc__law_cell (fun vs H Q E h => ?_) (fun cdv Ar outer s H vs Q E hcl hr h => ?_), F.binds (fun _ _ _ _ _ _ us hl => match us, hl with | [_, _], _ => rfl)⟩
  · obtain ⟨a, ns, k, rfl, hS, hl, h0, h1, q⟩ := h
    rfl
  · obtain ⟨a, ns, k, rfl, hS, hl, h0, h1, q⟩ := h
    have hu64 := hr.units
    have hu := hu_of hr
    refine ⟨_, (pss_cons (ps_if (pt_cmpR op_lt (pv 1) (pe_callB call_len_seq (by rfl) T.z_len (by decide +kernel) (pa_cons (pv 0) pa_nil)) (nomark _)) (pss_one (ps_ret (pe_ix ix_list (pv 0) (pv 1) (fun _ _ => rfl)))) pss_nil)
      (pss_one (ps_ret (pe_op op_add (pe_op op_add (pe_op op_mulW pe_int (pv 1)) pe_int) (pe_op op_mod (pe_callB (cr_sum rfl) (by rfl) T.z_sum (by decide +kernel) (pa_cons (pe_slice sl_list (pv 0) po_none (po_some pe_int)) pa_nil)) pe_int))))), ?_⟩
    walk_at "vc"
    refine ⟨a, _, rfl, .inl hS, ?_⟩
    walk_at "vc"
    refine w_ite (fun c0 => ?_) (fun c0 => ?_)
    · obtain ⟨z, _, hz⟩ := map_at h0 c0
      walk_at "vc"
      refine w_ixL hS hz ?_
      exact q z H (Same.refl H)
    · walk_at "vc"
      refine w_rI (mulW_small (by decide) (by omega)) ?_
      walk_at "vc"
      refine ⟨a, _, rfl, hS, fun p np => ?_⟩
      obtain ⟨ms, e⟩ := cut_ints ns none (some 1)
      rw [e]
      walk_at "vc"
      refine ⟨p, ms, rfl, .of upd_same, ?_⟩
      walk_at "vc"
      refine w_rI (show (0 : Int) < 1000003 by decide) ?_
      walk_at "vc"
      exact q _ _ (same_new np)

theorem ok__law_bag (T : Txt K mg A)   : Kp P w K mg base CX0 1 A.f__law_bag ["_law_cell_here"] [] (spBag) := by
  obtain ⟨fd, F⟩ := T.d__law_bag.ex
  refine ⟨fd, fnG_nx (k := 0) F sc__law_bag (fun vs H Q E h => ?_) (fun cdv Ar outer s H vs Q E hcl hr h => ?_), F.binds (fun _ _ _ _ _ _ us hl => match us, hl with | [_], _ => rfl)⟩
  · obtain ⟨z, rfl, q⟩ := h
    rfl
  · obtain ⟨z, rfl, q⟩ := h
    have hu64 := hr.units
    have hu := hu_of hr
    refine ⟨_, (pss_one (ps_ret (pe_lst (pa_cons (pe_callB (call_max2 rfl) (by rfl) T.z_max (by decide +kernel) (pa_cons pe_int (pa_cons (pe_op op_sub (pv 0) (pe_op op_pow pe_int pe_int)) pa_nil))) (pa_cons (pe_op op_mod (pv 0) pe_int) (pa_cons pe_int pa_nil)))))), ?_⟩
    walk_at "vc"
    refine w_rI ⟨by decide, by decide, by decide⟩ ?_
    walk_at "vc"
    refine ⟨_, _, rfl, ?_⟩
    walk_at "vc"
    refine w_rI (show (0 : Int) < 2147483629 by decide) ?_
    walk_at "vc"
    refine ⟨sz_ok (by simp), fun p np => ?_⟩
    exact q p _ np (same_new np) ⟨_, _, 0, upd_same, by split <;> omega, Int.emod_nonneg _ (by decide), Int.emod_lt_of_pos _ (by decide), by decide, by decide⟩

theorem ok__law_take (T : Txt K mg A)   : Kp P w K mg base CX0 1 A.f__law_take ["_law_bag_here", "_law_below"] [] (spTake) := by
  obtain ⟨fd, F⟩ := T.d__law_take.ex
  refine ⟨fd, fnG_nx (k := 0) F sc__law_take (fun vs H Q E h => ?_) (fun cdv Ar outer s H vs Q E hcl hr h => ?_), F.binds (fun _ _ _ _ _ _ us hl => match us, hl with | [_, _], _ => rfl)⟩
  · obtain ⟨p, n, c, rfl, ⟨a, b, k, hp, h0, h1, h2, h3, h4⟩, hc, n0, nn, q⟩ := h
    rfl
  · obtain ⟨p, n, c, rfl, ⟨a, b, k, hp, h0, h1, h2, h3, h4⟩, hc, n0, nn, q⟩ := h
    have hu64 := hr.units
    have hu := hu_of hr
    refine ⟨_, (pss_cons (ps_if (pt_cmpR op_gt (pe_ix ix_list (pv 0) pe_int (fun _ _ => rfl)) pe_int (nomark _)) (pss_cons (ps_set (i := 2) sc__law_take.nd rfl (Or.inl rfl) (pe_op op_mod (pe_ix ix_list (pv 0) pe_int (fun _ _ => rfl)) (pv 1)))
      (pss_cons (ps_asg (pe_op op_fdivW (pe_ix ix_list (pv 0) pe_int (fun _ _ => rfl)) (pv 1)) (pg_sub (pv 0) pe_int set_list))
      (pss_one (ps_ret (pv 2))))) pss_nil)
      (pss_cons (ps_asg (pe_op op_add (pe_ix ix_list (pv 0) pe_int (fun _ _ => rfl)) pe_int) (pg_sub (pv 0) pe_int set_list))
      (pss_cons (ps_set (i := 3) sc__law_take.nd rfl (Or.inl rfl) (pe_op op_mod (pe_op op_pow (pe_op op_add (pe_op op_add (pe_ix ix_list (pv 0) pe_int (fun _ _ => rfl)) (pe_op op_mulW pe_int (pe_ix ix_list (pv 0) pe_int (fun _ _ => rfl)))) pe_int) pe_int) pe_int))
      (pss_cons (ps_set (i := 3) sc__law_take.nd rfl (Or.inl rfl) (pe_op op_mod (pe_op op_pow (pe_op op_add (pv 3) (pe_op op_mulW pe_int (pe_ix ix_list (pv 0) pe_int (fun _ _ => rfl)))) pe_int) pe_int))
      (pss_one (ps_ret (pe_op op_mod (pe_op op_fdivW (pv 3) pe_int) (pv 1)))))))), ?_⟩
    walk_at "vc"
    refine w_ixL (.of hp) atI0 ?_
    walk_at "vc"
    refine w_ite (fun c0 => ?_) (fun c0 => ?_)
    · walk_at "vc"
      refine w_ixL (.of hp) atI0 ?_
      walk_at "vc"
      refine w_rI (show 0 < n from n0) ?_
      walk_at "vc"
      refine w_ixL (.of hp) atI0 ?_
      walk_at "vc"
      refine w_rI (wide_div n0 nn (by decide) (by decide)) ?_
      walk_at "vc"
      refine w_setL hp rfl ?_
      walk_at "vc"
      exact q _ _ (Int.emod_nonneg _ (by omega)) (Int.emod_lt_of_pos _ n0) Bt.at_ ⟨a / n, b, k, upd_same, Int.ediv_nonneg h0 (by omega), h1, h2, h3, by omega⟩
    · walk_at "vc"
      refine w_ixL (.of hp) atI2 ?_
      walk_at "vc"
      refine w_setL hp rfl ?_
      have hp' : (upd H p (.lst [.int a, .int b, .int (k + 1)])) p = some (.lst [.int a, .int b, .int (k + 1)]) := upd_same
      walk_at "vc"
      refine w_ixL (.of hp') atI1 ?_
      walk_at "vc"
      refine w_ixL (.of hp') atI2 ?_
      walk_at "vc"
      refine w_rI (mulW_small (by decide) (by omega)) ?_
      walk_at "vc"
      refine w_rI ⟨by decide, by decide, take_num h1 h2 h3 (by omega) (by decide) (by decide)⟩ ?_
      walk_at "vc"
      refine w_rI (show (0 : Int) < 2147483647 by decide) ?_
      walk_at "vc"
      refine w_ixL (.of hp') atI2 ?_
      walk_at "vc"
      refine w_rI (mulW_small (by decide) (by omega)) ?_
      walk_at "vc"
      refine w_rI ⟨by decide, by decide, take_num2 (Int.emod_nonneg _ (by decide)) (Int.emod_lt_of_pos _ (by decide)) h3 (by omega)⟩ ?_
      walk_at "vc"
      refine w_rI (show (0 : Int) < 2147483587 by decide) ?_
      walk_at "vc"
      refine w_rI (wide_div (b := 10) (by decide) (by decide) (by decide) (by decide)) ?_
      walk_at "vc"
      refine w_rI (show 0 < n from n0) ?_
      exact q _ _ (Int.emod_nonneg _ (by omega)) (Int.emod_lt_of_pos _ n0) Bt.at_ ⟨a, b, k + 1, upd_same, h0, h1, h2, by omega, by omega⟩

/-- the error's own __init__ -/
theorem ok_NoName_init (T : Txt K mg A) : Kp P w K mg base CX0 1 A.f_NoName_init ["self", "found"] [] (spErr "found" A.C_NoName) := by
  obtain ⟨fd, F⟩ := T.n_NoName_init
  obtain ⟨mc, up⟩ := T.up
  refine ⟨fd, fnG_nx (k := 0) F sc_NoName_init (fun vs H Q E h => ?_) (fun cdv Ar outer s H vs Q E hcl hr h => ?_), F.binds (fun _ _ _ _ _ _ us hl => match us, hl with | [_, _], _ => rfl)⟩
  · obtain ⟨a, y, rfl, ha, q⟩ := h
    rfl
  · obtain ⟨a, y, rfl, ha, q⟩ := h
    refine ⟨_, (pss_cons (ps_expr (pe_upinit (by rfl) T.m_WakeError up (pa_cons (pv 0) (pa_cons pe_str pa_nil))))
      (pss_one (ps_ost (pv 0) (pv 1)))), ?_⟩
    walk_at "vc"
    refine ⟨a, _, _, rfl, (by show 1 ≤ 1000; decide), T.e_NoName.oex, ha, ?_⟩
    walk_at "vc"
    exact ⟨a, _, rfl, T.e_NoName.oex, T.e_NoName.nof, .inl ⟨ha, q⟩⟩
def atl (v : V) (low : Int) : Bool := match v with
  | .int i => decide (low ≤ i)
  | _ => false
def whl (v : V) (low high : Int) : Bool := match v with
  | .int i => decide (low ≤ i) && decide (i ≤ high)
  | _ => false
def LT : Str := "abcdefghijklmnopqrstuvwxyz"
def allIn (z t : Str) : Bool := z.cps.toList.all fun c => decide (c ∈ t.cps.toList)
def nam (v : V) : Bool := match v with
  | .str z => decide ((z.length : Int) ≤ 8) && (!decide (V.str z = V.str "") && allIn z LT)
  | _ => false
def numb (v : V) : Bool := match v with
  | .int _ => true
  | _ => false
theorem nb_not {v : V} (h : isInt v = false) : numb v = false := by cases v <;> first | rfl | cases h
theorem nb_not2 {v : V} (h : isBool v = true) : numb v = false := by cases v <;> first | rfl | cases h
theorem nb_int {v : V} (h : numb v = true) : ∃ i, v = .int i := by cases v <;> first | exact ⟨_, rfl⟩ | cases h
theorem nb_atl {v : V} {low : Int} (h : numb v = false) : atl v low = false := by cases v <;> first | rfl | cases h
theorem al_not {v : V} {low : Int} (h : isInt v = false) : atl v low = false := by cases v <;> first | rfl | cases h
theorem al_not2 {v : V} {low : Int} (h : isBool v = true) : atl v low = false := by cases v <;> first | rfl | cases h
theorem int_of {v : V} (h : isInt v = true) (h2 : isBool v = false) : ∃ i, v = .int i := by
  cases v with
  | int i => exact ⟨i, rfl⟩
  | bl b => cases h2
  | _ => cases h
theorem wh_not {v : V} {low high : Int} (h : isInt v = false) : whl v low high = false := by cases v <;> first | rfl | cases h
theorem wh_not2 {v : V} {low high : Int} (h : isBool v = true) : whl v low high = false := by cases v <;> first | rfl | cases h
theorem wh_al {v : V} {low high : Int} (h : atl v low = false) : whl v low high = false := by
  cases v <;> first | rfl | skip
  rename_i i
  have h' : decide (low ≤ i) = false := h
  show (decide (low ≤ i) && decide (i ≤ high)) = false
  rw [h']
  rfl
theorem al_int {v : V} {low : Int} (h : atl v low = true) : ∃ i, v = .int i ∧ decide (low ≤ i) = true := by cases v <;> first | exact ⟨_, rfl, h⟩ | cases h
theorem nam_not {v : V} (h : isStr v = false) : nam v = false := by cases v <;> first | rfl | cases h
theorem str_of {v : V} (h : isStr v = true) : ∃ z, v = .str z := by cases v <;> first | exact ⟨_, rfl⟩ | cases h
/-- a question about a thing that stands, at most a text of a thousand signs -/
def Sml (v : V) : Prop := ∀ z, v = .str z → z.length ≤ 1000 ∧ Asc z
def spIs (K : PySem.W.Frag) (f : V → Bool) : Sp := fun vs H Q _ => ∃ p v, vs = [v] ∧ Kn K p H v ∧ Sml v ∧ ∀ H', Same H H' → Q (.bl (f v)) H'
def spIs0 (K : PySem.W.Frag) (f : V → Bool) : Sp := fun vs H Q _ => ∃ p v, vs = [v] ∧ Kn K p H v ∧ ∀ H', Same H H' → Q (.bl (f v)) H'
def spIs2 (K : PySem.W.Frag) (f : V → Int → Bool) : Sp := fun vs H Q _ => ∃ p v i, vs = [v, .int i] ∧ Kn K p H v ∧ ∀ H', Same H H' → Q (.bl (f v i)) H'
def spIs3 (K : PySem.W.Frag) (f : V → Int → Int → Bool) : Sp := fun vs H Q _ => ∃ p v i j, vs = [v, .int i, .int j] ∧ Kn K p H v ∧ ∀ H', Same H H' → Q (.bl (f v i j)) H'
def spIsB (K : PySem.W.Frag) : Sp := fun vs H Q _ => ∃ p v, vs = [v] ∧ Kn K p H v ∧ ∀ H', Same H H' → Q (.bl (isBool v)) H'
def spMade : Sp := fun vs H Q _ => ∃ z t : Str, vs = [.str z, .str t] ∧ z.length ≤ 1000 ∧ ∀ H', Same H H' → Q (.bl (!decide (V.str z = V.str "") && allIn z t)) H'

theorem ok_is_truth (T : Txt K mg A)   : Kp P w K mg base CX0 1 A.f_is_truth ["thing"] [] (spIsB K) := by
  obtain ⟨fd, F⟩ := T.d_is_truth.ex
  refine ⟨fd, fnG_nx (k := 0) F sc_is_truth (fun vs H Q E h => ?_) (fun cdv Ar outer s H vs Q E hcl hr h => ?_), F.binds (fun _ _ _ _ _ _ us hl => match us, hl with | [_], _ => rfl)⟩
  · obtain ⟨p, v, rfl, kn, q⟩ := h
    rfl
  · obtain ⟨p, v, rfl, kn, q⟩ := h
    have hu64 := hr.units
    have hu := hu_of hr
    refine ⟨_, (pss_one (ps_ret (pe_callB call_isBool (by rfl) T.z_isinstance (by decide +kernel) (pa_cons (pv 0) (pa_cons (pe_bltn (v := .ty "bool") rfl T.z_bool (by decide +kernel) rfl) pa_nil))))), ?_⟩
    walk_at "vc"
    exact ⟨p, v, rfl, kn, q H (Same.refl H)⟩

theorem ok_is_number (T : Txt K mg A) (G_is_truth : Kp P w K mg base CX0 1 A.f_is_truth ["thing"] [] (spIsB K))  : Kp P w K mg base CX0 2 A.f_is_number ["thing"] [] (spIs0 K numb) := by
  obtain ⟨fd, F⟩ := T.d_is_number.ex
  refine ⟨fd, fnG_nx (k := 1) F sc_is_number (fun vs H Q E h => ?_) (fun cdv Ar outer s H vs Q E hcl hr h => ?_), F.binds (fun _ _ _ _ _ _ us hl => match us, hl with | [_], _ => rfl)⟩
  · obtain ⟨p, v, rfl, kn, q⟩ := h
    rfl
  · obtain ⟨p, v, rfl, kn, q⟩ := h
    have hu64 := hr.units
    have hu := hu_of hr
    refine ⟨_, (pss_one (ps_ret (pe_and (pe_callB call_isInt (by rfl) T.z_isinstance (by decide +kernel) (pa_cons (pv 0) (pa_cons (pe_bltn (v := .ty "int") rfl T.z_int (by decide +kernel) rfl) pa_nil))) (pe_one (pe_not (pe_fn (callK0 G_is_truth hcl (hr.mono (by decide)) pass0) (by rfl) T.d_is_truth.mg T.d_is_truth.kp (pa_cons (pv 0) pa_nil))))))), ?_⟩
    walk_at "vc"
    refine ⟨p, v, rfl, kn, ?_⟩
    walk_at "vc"
    refine w_iteB (fun c => ?_) (fun c => ?_)
    · walk_at "vc"
      refine ⟨p, v, rfl, kn, fun H1 e1 => ?_⟩
      walk_at "vc"
      cases c2 : isBool v with
      | true =>
        have := q H1 e1
        rw [nb_not2 c2] at this
        exact this
      | false =>
        obtain ⟨i, rfl⟩ := int_of c c2
        exact q H1 e1
    · have := q H (Same.refl H)
      rw [nb_not c] at this
      exact this

theorem ok_is_at_least (T : Txt K mg A) (G_is_number : Kp P w K mg base CX0 2 A.f_is_number ["thing"] [] (spIs0 K numb))  : Kp P w K mg base CX0 3 A.f_is_at_least ["thing", "low"] [] (spIs2 K atl) := by
  obtain ⟨fd, F⟩ := T.d_is_at_least.ex
  refine ⟨fd, fnG_nx (k := 2) F sc_is_at_least (fun vs H Q E h => ?_) (fun cdv Ar outer s H vs Q E hcl hr h => ?_), F.binds (fun _ _ _ _ _ _ us hl => match us, hl with | [_, _], _ => rfl)⟩
  · obtain ⟨p, v, low, rfl, kn, q⟩ := h
    rfl
  · obtain ⟨p, v, low, rfl, kn, q⟩ := h
    have hu64 := hr.units
    have hu := hu_of hr
    refine ⟨_, (pss_one (ps_ret (pe_and (pe_fn (callK0 G_is_number hcl (hr.mono (by decide)) pass0) (by rfl) T.d_is_number.mg T.d_is_number.kp (pa_cons (pv 0) pa_nil)) (pe_one (pe_cmpR op_le (pv 1) (pv 0) (nomark _)))))), ?_⟩
    walk_at "vc"
    refine ⟨p, v, rfl, kn, fun H1 e1 => ?_⟩
    walk_at "vc"
    cases c : numb v with
    | true =>
      refine w_itT rfl ?_
      obtain ⟨i, rfl⟩ := nb_int c
      walk_at "vc"
      exact q H1 e1
    | false =>
      refine w_itF rfl ?_
      have := q H1 e1
      rw [nb_atl c] at this
      exact this

theorem ok_is_whole (T : Txt K mg A) (G_is_at_least : Kp P w K mg base CX0 3 A.f_is_at_least ["thing", "low"] [] (spIs2 K atl))  : Kp P w K mg base CX0 4 A.f_is_whole ["thing", "low", "high"] [] (spIs3 K whl) := by
  obtain ⟨fd, F⟩ := T.d_is_whole.ex
  refine ⟨fd, fnG_nx (k := 3) F sc_is_whole (fun vs H Q E h => ?_) (fun cdv Ar outer s H vs Q E hcl hr h => ?_), F.binds (fun _ _ _ _ _ _ us hl => match us, hl with | [_, _, _], _ => rfl)⟩
  · obtain ⟨p, v, low, high, rfl, kn, q⟩ := h
    rfl
  · obtain ⟨p, v, low, high, rfl, kn, q⟩ := h
    have hu64 := hr.units
    have hu := hu_of hr
    refine ⟨_, (pss_one (ps_ret (pe_and (pe_fn (callK0 G_is_at_least hcl (hr.mono (by decide)) pass0) (by rfl) T.d_is_at_least.mg T.d_is_at_least.kp (pa_cons (pv 0) (pa_cons (pv 1) pa_nil))) (pe_one (pe_cmpR op_le (pv 0) (pv 2) (nomark _)))))), ?_⟩
    walk_at "vc"
    refine ⟨p, v, low, rfl, kn, fun H1 e1 => ?_⟩
    walk_at "vc"
    cases c : atl v low with
    | true =>
      refine w_itT rfl ?_
      obtain ⟨i, rfl, hi⟩ := al_int c
      walk_at "vc"
      have := q H1 e1
      have e : whl (.int i) low high = decide (i ≤ high) := by
        show (decide (low ≤ i) && decide (i ≤ high)) = _
        rw [hi, Bool.true_and]
      rw [e] at this
      exact this
    | false =>
      refine w_itF rfl ?_
      have := q H1 e1
      rw [wh_al c] at this
      exact this

theorem ok__is_made_of (T : Txt K mg A)   : Kp P w K mg base CX0 1 A.f__is_made_of ["text", "signs"] [] (spMade) := by
  obtain ⟨fd, F⟩ := T.d__is_made_of.ex
  refine ⟨fd, fnG_nx (k := 0) F sc__is_made_of (fun vs H Q E h => ?_) (fun cdv Ar outer s H vs Q E hcl hr h => ?_), F.binds (fun _ _ _ _ _ _ us hl => match us, hl with | [_, _], _ => rfl)⟩
  · obtain ⟨z, t, rfl, hz, q⟩ := h
    rfl
  · obtain ⟨z, t, rfl, hz, q⟩ := h
    have hu64 := hr.units
    have hu := hu_of hr
    refine ⟨_, (pss_one (ps_ret (pe_and (pe_cmpR op_ne (pv 0) pe_str (nomark _)) (pe_one (pe_callB (cr_all rfl) (by rfl) T.z_all (by decide +kernel) (pa_cons (pe_lc (own := [("sign", 2)]) (by rfl) sc__is_made_of.nd (pi_str (pv 0)) (blkOk_by (own := [("sign", 2)]) (N := ["text", "signs", "sign"]) (sc := defScope s__is_made_of) (by decide +kernel)) (fun _ _ _ _ _ => pg_name (i := 2) sc__is_made_of.nd rfl (Or.inl rfl)) (fun _ _ _ _ _ => pts_nil) (fun _ _ _ _ _ => (pe_cmpR op_in_sign (pv 2) (pv 1) rfl))) pa_nil)))))), ?_⟩
    walk_at "vc"
    cases c : decide (V.str z = V.str "") with
    | true =>
      refine w_itF rfl ?_
      have := q H (Same.refl H)
      rw [c] at this
      exact this
    | false =>
      refine w_itT rfl ?_
      have hq := q
      rw [c] at hq
      walk_at "vc"
      refine w_str1 ?_
      refine lcs_go (wk_str (z := z)) (lcs_of z.cps.toList (fun _ => true) (fun c => .bl (decide (c ∈ t.cps.toList))) (by simp) (by have : z.cps.size = z.length := rfl; omega) (fun _ _ => trivial) ?_ ?_)
      · rintro i c x H' R S hc ⟨c', hc', rfl⟩ s1 kR kS
        have ec : c' = c := by
          rw [Array.getElem?_toList] at hc
          rw [hc] at hc'
          exact (Option.some.inj hc').symm
        subst ec
        walk_at "vc"
        refine ⟨rfl, ?_⟩
        walk_at "vc"
        refine w_itT rfl ?_
        walk_at "vc"
        refine ⟨c', t, rfl, rfl, ?_⟩
        exact kR rfl H' (Same.refl _)
      · intro D H' nD s1 hD
        rw [keep_all] at hD
        walk_at "vc"
        refine ⟨D, z.cps.toList.map fun c => decide (c ∈ t.cps.toList), rfl, .of (by rw [List.map_map]; exact hD), ?_⟩
        have e : (z.cps.toList.map fun c => decide (c ∈ t.cps.toList)).all id = allIn z t := by
          unfold allIn
          rw [List.all_map]
          rfl
        rw [e]
        exact hq H' s1

theorem ok_is_name (T : Txt K mg A) (G__is_made_of : Kp P w K mg base CX0 1 A.f__is_made_of ["text", "signs"] [] (spMade))  : Kp P w K mg base CX0 2 A.f_is_name ["thing"] [] (spIs K nam) := by
  obtain ⟨fd, F⟩ := T.d_is_name.ex
  refine ⟨fd, fnG_nx (k := 1) F sc_is_name (fun vs H Q E h => ?_) (fun cdv Ar outer s H vs Q E hcl hr h => ?_), F.binds (fun _ _ _ _ _ _ us hl => match us, hl with | [_], _ => rfl)⟩
  · obtain ⟨p, v, rfl, kn, sm, q⟩ := h
    rfl
  · obtain ⟨p, v, rfl, kn, sm, q⟩ := h
    have hu64 := hr.units
    have hu := hu_of hr
    refine ⟨_, (pss_one (ps_ret (pe_and (pe_callB call_isStr (by rfl) T.z_isinstance (by decide +kernel) (pa_cons (pv 0) (pa_cons (pe_bltn (v := .ty "str") rfl T.z_str (by decide +kernel) rfl) pa_nil))) (pe_and (pe_cmpR op_le (pe_callB call_len_str (by rfl) T.z_len (by decide +kernel) (pa_cons (pv 0) pa_nil)) (pe_gv (by rfl) T.c__NAME_SIGNS) (nomark _)) (pe_one (pe_fn (callK0 G__is_made_of hcl (hr.mono (by decide)) pass0) (by rfl) T.d__is_made_of.mg T.d__is_made_of.kp (pa_cons (pv 0) (pa_cons (pe_gv (by rfl) T.c__LETTERS) pa_nil)))))))), ?_⟩
    walk_at "vc"
    refine ⟨p, v, rfl, kn, ?_⟩
    walk_at "vc"
    refine w_iteB (fun c => ?_) (fun c => ?_)
    · obtain ⟨z, rfl⟩ := str_of c
      obtain ⟨hz, ha⟩ := sm z rfl
      walk_at "vc"
      refine ⟨z, rfl, sz_ok hz, ?_⟩
      walk_at "vc"
      have hq := q
      simp only [nam] at hq
      cases c2 : decide ((z.length : Int) ≤ 8) with
      | true =>
        refine w_itT rfl ?_
        rw [c2] at hq
        walk_at "vc"
        exact ⟨z, _, rfl, hz, fun H1 e1 => hq H1 e1⟩
      | false =>
        refine w_itF rfl ?_
        rw [c2] at hq
        exact hq H (Same.refl H)
    · have := q H (Same.refl H)
      rw [nam_not c] at this
      exact this

theorem big29 : ∀ z ∈ ([0, 1, -1, 2, 8, 100] : List Int), z.natAbs < 2 ^ 150 := by decide
def spNum : Sp := fun vs H Q _ => ∃ (p : Addr) (c : Int), vs = [.ref p] ∧ Bg H p c ∧ c ≤ 900000 ∧ ∀ (z : Int) H', z.natAbs < 2 ^ 150 → Bt p H H' → Bg H' p (c + 10) → Q (.int z) H'
def spTxt : Sp := fun vs H Q _ => ∃ (p : Addr) (c : Int), vs = [.ref p] ∧ Bg H p c ∧ c ≤ 900000 ∧ ∀ (z : Str) H', z.length ≤ 20 → Asc z → Bt p H H' → Bg H' p (c + 40) → Q (.str z) H'

theorem ok__law_number (T : Txt K mg A) (G__law_take : Kp P w K mg base CX0 1 A.f__law_take ["_law_bag_here", "_law_below"] [] (spTake))  : Kp P w K mg base CX0 2 A.f__law_number ["_law_bag_here"] [] (spNum) := by
  obtain ⟨fd, F⟩ := T.d__law_number.ex
  refine ⟨fd, fnG_nx (k := 1) F sc__law_number (fun vs H Q E h => ?_) (fun cdv Ar outer s H vs Q E hcl hr h => ?_), F.binds (fun _ _ _ _ _ _ us hl => match us, hl with | [_], _ => rfl)⟩
  · obtain ⟨p, c, rfl, b, hc, q⟩ := h
    rfl
  · obtain ⟨p, c, rfl, b, hc, q⟩ := h
    have hu64 := hr.units
    have hu := hu_of hr
    refine ⟨_, (pss_cons (ps_set (i := 1) sc__law_number.nd rfl (Or.inl rfl) (pe_fn (callK0 G__law_take hcl (hr.mono (by decide)) pass0) (by rfl) T.d__law_take.mg T.d__law_take.kp (pa_cons (pv 0) (pa_cons pe_int pa_nil))))
      (pss_cons (ps_if (pt_cmpR op_eq (pv 1) pe_int (nomark _)) (pss_one (ps_ret (pe_ix ix_list (pe_lst (pa_cons pe_int (pa_cons pe_int (pa_cons (pe_un un_neg pe_int) (pa_cons pe_int (pa_cons pe_int (pa_cons pe_int pa_nil))))))) (pe_fn (callK0 G__law_take hcl (hr.mono (by decide)) pass0) (by rfl) T.d__law_take.mg T.d__law_take.kp (pa_cons (pv 0) (pa_cons pe_int pa_nil))) (fun _ _ => rfl)))) pss_nil)
      (pss_cons (ps_set (i := 2) sc__law_number.nd rfl (Or.inl rfl) (pe_ix ix_list (pe_lst (pa_cons (pe_fn (callK0 G__law_take hcl (hr.mono (by decide)) pass0) (by rfl) T.d__law_take.mg T.d__law_take.kp (pa_cons (pv 0) (pa_cons pe_int pa_nil))) (pa_cons (pe_fn (callK0 G__law_take hcl (hr.mono (by decide)) pass0) (by rfl) T.d__law_take.mg T.d__law_take.kp (pa_cons (pv 0) (pa_cons (pe_op op_pow pe_int pe_int) pa_nil))) (pa_cons (pe_fn (callK0 G__law_take hcl (hr.mono (by decide)) pass0) (by rfl) T.d__law_take.mg T.d__law_take.kp (pa_cons (pv 0) (pa_cons (pe_op op_pow pe_int pe_int) pa_nil))) pa_nil)))) (pe_op op_sub (pv 1) pe_int) (fun _ _ => rfl)))
      (pss_one (ps_ret (pe_op op_sub (pv 2) (pe_op op_mulW (pe_op op_mulW pe_int (pv 2)) (pe_fn (callK0 G__law_take hcl (hr.mono (by decide)) pass0) (by rfl) T.d__law_take.mg T.d__law_take.kp (pa_cons (pv 0) (pa_cons pe_int pa_nil)))))))))), ?_⟩
    walk_at "vc"
    refine take_now b (by omega) (by decide) (by decide) fun d H1 d0 d1 e1 b1 => ?_
    walk_at "vc"
    refine w_ite (fun c0 => ?_) (fun c0 => ?_)
    · walk_at "vc"
      refine ⟨sz_ok (by simp), fun l nl => ?_⟩
      walk_at "vc"
      refine take_now (b1.same (same_new nl)) (by omega) (by decide) (by decide) fun x H2 x0 x1 e2 b2 => ?_
      obtain ⟨z, zm, hz⟩ := pick (ns := [0, 1, -1, 2, 8, 100]) rfl x0 x1 (by decide)
      walk_at "vc"
      refine w_ixL (.of (e2 _ _ (b1.ne nl) upd_same)) hz ?_
      exact q z H2 (big29 z zm) ((e1.trans (.new nl)).trans e2) (b2.more (by omega))
    · have cd : d ≠ 0 := fun z => c0 (by rw [z])
      walk_at "vc"
      refine take_now b1 (by omega) (by decide) (by decide) fun x H2 x0 x1 e2 b2 => ?_
      walk_at "vc"
      refine w_rI ⟨by decide, by decide, by decide⟩ ?_
      walk_at "vc"
      refine take_now b2 (by omega) (by decide) (by decide) fun y H3 y0 y1 e3 b3 => ?_
      walk_at "vc"
      refine w_rI ⟨by decide, by decide, by decide⟩ ?_
      walk_at "vc"
      refine take_now b3 (by omega) (by decide) (by decide) fun u H4 u0 u1 e4 b4 => ?_
      walk_at "vc"
      refine ⟨sz_ok (by simp), fun l nl => ?_⟩
      obtain ⟨z, zm, hz⟩ := pick (ns := [x, y, u]) (k := d - 1) (m := 3) rfl (by omega) (by omega) (by show (3 : Int) ≤ 3; decide)
      have zb : z.natAbs < 2 ^ 100 := by
        have h1 : (10 : Int) ^ Int.toNat 9 = 1000000000 := by decide
        have h2 : (10 : Int) ^ Int.toNat 29 = 100000000000000000000000000000 := by decide
        rw [h1] at y1
        rw [h2] at u1
        rcases List.mem_cons.mp zm with h | zm
        · omega
        rcases List.mem_cons.mp zm with h | zm
        · omega
        rcases List.mem_cons.mp zm with h | zm
        · omega
        cases zm
      walk_at "vc"
      refine w_ixL (.of upd_same) hz ?_
      walk_at "vc"
      refine w_rI (mulW_small (by decide) (by omega)) ?_
      walk_at "vc"
      refine take_now (b4.same (same_new nl)) (by omega) (by decide) (by decide) fun v H5 v0 v1 e5 b5 => ?_
      walk_at "vc"
      refine w_rI (mulW_small (by omega) (by omega)) ?_
      walk_at "vc"
      refine q _ H5 ?_ ((((e1.trans e2).trans (e3.trans e4)).trans (.new nl)).trans e5) (b5.more (by omega))
      have : v = 0 ∨ v = 1 := by omega
      rcases this with rfl | rfl
      · omega
      · omega

theorem ok__law_is_whole (T : Txt K mg A)   : Kp P w K mg base CX0 1 A.f__law_is_whole ["_law_thing", "_law_low", "_law_high"] [] (spIs3 K whl) := by
  obtain ⟨fd, F⟩ := T.d__law_is_whole.ex
  refine ⟨fd, fnG_nx (k := 0) F sc__law_is_whole (fun vs H Q E h => ?_) (fun cdv Ar outer s H vs Q E hcl hr h => ?_), F.binds (fun _ _ _ _ _ _ us hl => match us, hl with | [_, _, _], _ => rfl)⟩
  · obtain ⟨p, v, low, high, rfl, kn, q⟩ := h
    rfl
  · obtain ⟨p, v, low, high, rfl, kn, q⟩ := h
    have hu64 := hr.units
    have hu := hu_of hr
    refine ⟨_, (pss_one (ps_ret (pe_and (pe_callB call_isInt (by rfl) T.z_isinstance (by decide +kernel) (pa_cons (pv 0) (pa_cons (pe_bltn (v := .ty "int") rfl T.z_int (by decide +kernel) rfl) pa_nil))) (pe_and (pe_cmpR op_isnotb (pv 0) pe_bl (nomark _)) (pe_and (pe_cmpR op_isnotb (pv 0) pe_bl (nomark _)) (pe_one (pe_chain op_le op_le (pv 1) (pv 0) (pv 2)))))))), ?_⟩
    walk_at "vc"
    refine ⟨p, v, rfl, kn, ?_⟩
    walk_at "vc"
    refine w_iteB (fun c => ?_) (fun c => ?_)
    · walk_at "vc"
      refine ⟨c, true, rfl, ?_⟩
      walk_at "vc"
      refine w_iteB (fun c1 => ?_) (fun c1 => ?_)
      · walk_at "vc"
        refine ⟨c, false, rfl, ?_⟩
        walk_at "vc"
        refine w_iteB (fun c2 => ?_) (fun c2 => ?_)
        · have nb : isBool v = false := by
            cases v with
            | bl b => cases b <;> simp at c1 c2
            | _ => rfl
          obtain ⟨i, rfl⟩ := int_of c nb
          walk_at "vc"
          have hq := q
          simp only [whl] at hq
          refine w_ite (fun c3 => ?_) (fun c3 => ?_)
          · rw [decide_eq_true c3] at hq
            walk_at "vc"
            exact hq H (Same.refl H)
          · rw [decide_eq_false c3] at hq
            exact hq H (Same.refl H)
        · have : v = .bl false := by simpa using c2
          subst this
          exact q H (Same.refl H)
      · have : v = .bl true := by simpa using c1
        subst this
        exact q H (Same.refl H)
    · have := q H (Same.refl H)
      rw [wh_not c] at this
      exact this

theorem asc_empty : Asc "" := by
  intro c hc
  have e : (Str.ofString "").cps.toList = [] := rfl
  rw [e] at hc
  cases hc
theorem lt_asc : ∀ c ∈ LT.cps.toList, c < 128 := by decide +kernel
def LS : Str := (" ABCXYZ0123456789!\"#$&'()*+,-./:;<=>?@\x5b\\]^_`{|}~\n" : Str)
theorem ls_asc : ∀ c ∈ (LT ++ LS).cps.toList, c < 128 := by decide +kernel
theorem at_sign {z : Str} {k : Int} (h0 : 0 ≤ k) (h1 : k < z.length) : ∃ c, c ∈ z.cps.toList ∧ atI z.cps.toList k = some c := by
  have hk : k.toNat < z.cps.toList.length := by
    have : z.cps.toList.length = z.length := by simp [Str.length]
    omega
  have e : k = ((k.toNat : Nat) : Int) := (Int.toNat_of_nonneg h0).symm
  obtain ⟨n, hn⟩ : ∃ n : Nat, n = k.toNat := ⟨_, rfl⟩
  rw [← hn] at e hk
  rw [e]
  exact ⟨z.cps.toList[n], List.getElem_mem _, atI_nat (List.getElem?_eq_getElem hk)⟩
/-- texts of one plain sign each -/
def One (zs : List Str) : Prop := ∀ z ∈ zs, z.length = 1 ∧ Asc z
theorem one_nil : One [] := fun _ h => nomatch h
theorem one_sum : ∀ {zs : List Str}, One zs → (zs.map (·.length)).sum = zs.length
  | [], _ => rfl
  | z :: zs, h => by
    rw [List.map_cons, List.sum_cons, (h z List.mem_cons_self).1, one_sum fun y hy => h y (List.mem_cons_of_mem _ hy), List.length_cons]
    omega
theorem one_set {zs : List Str} {j : Nat} {y : Str} (h : One zs) (hy : y.length = 1 ∧ Asc y) : One (zs.set j y) := fun z hz => by
  rcases List.mem_or_eq_of_mem_set hz with q | q
  · exact h z q
  · rw [q]; exact hy
theorem one_join {zs : List Str} (h : One zs) : (Txt.join "" zs).length = zs.length ∧ Asc (Txt.join "" zs) := by
  rw [TL.join_eq]
  refine ⟨(join_len "" rfl zs).trans (one_sum h), fun c hc => ?_⟩
  obtain ⟨y, hy, hc'⟩ := join_mem "" rfl zs c hc
  exact (h y hy).2 c hc'
theorem one_sign {c : Nat} (h : c < 128) : (⟨#[c]⟩ : Str).length = 1 ∧ Asc ⟨#[c]⟩ := ⟨rfl, fun d hd => by
  have : d = c := by simpa using hd
  rw [this]; exact h⟩

theorem ok__law_text (T : Txt K mg A) (G__law_take : Kp P w K mg base CX0 1 A.f__law_take ["_law_bag_here", "_law_below"] [] (spTake))  : Kp P w K mg base CX0 2 A.f__law_text ["_law_bag_here"] [] (spTxt) := by
  obtain ⟨fd, F⟩ := T.d__law_text.ex
  refine ⟨fd, fnG_nx (k := 1) F sc__law_text (fun vs H Q E h => ?_) (fun cdv Ar outer s H vs Q E hcl hr h => ?_), F.binds (fun _ _ _ _ _ _ us hl => match us, hl with | [_], _ => rfl)⟩
  · obtain ⟨p, c, rfl, b, hc, q⟩ := h
    rfl
  · obtain ⟨p, c, rfl, b, hc, q⟩ := h
    have hu64 := hr.units
    have hu := hu_of hr
    refine ⟨_, (pss_cons (ps_set (i := 1) sc__law_text.nd rfl (Or.inr rfl) pe_str)
      (pss_cons (ps_set (i := 2) sc__law_text.nd rfl (Or.inl rfl) (pe_op op_add_str (pv 1) pe_str))
      (pss_cons (ps_set (i := 3) sc__law_text.nd rfl (Or.inl rfl) (pe_ix ix_list (pe_lst (pa_cons (pe_fn (callK0 G__law_take hcl (hr.mono (by decide)) pass0) (by rfl) T.d__law_take.mg T.d__law_take.kp (pa_cons (pv 0) (pa_cons pe_int pa_nil))) (pa_cons pe_int (pa_cons pe_int (pa_cons pe_int (pa_cons pe_int pa_nil)))))) (pe_fn (callK0 G__law_take hcl (hr.mono (by decide)) pass0) (by rfl) T.d__law_take.mg T.d__law_take.kp (pa_cons (pv 0) (pa_cons pe_int pa_nil))) (fun _ _ => rfl)))
      (pss_cons (ps_setLc (i := 4) (own := [("_law_k", 5)]) (by rfl) sc__law_text.nd rfl rfl (sw_true rfl rfl rfl (by decide +kernel)) (pi_range1 (by rfl) T.z_range (pa_cons (pv 3) pa_nil)) (blkOk_by (own := [("_law_k", 5)]) (N := ["_law_bag_here", "_law_letters", "_law_signs", "_law_size", "_law_row", "_law_k"]) (sc := defScope s__law_text) (by decide +kernel)) (fun _ _ _ _ _ => pg_name (i := 5) sc__law_text.nd rfl (Or.inl rfl)) (fun _ _ _ _ _ => pts_nil) (fun _ _ _ _ _ => (pe_ix ix_str (pv 1) (pe_fn (callK0 G__law_take hcl (hr.mono (by decide)) pass0) (by rfl) T.d__law_take.mg T.d__law_take.kp (pa_cons (pv 0) (pa_cons pe_int pa_nil))) (fun _ _ => rfl))))
      (pss_cons (ps_if (PW.pt (pw_and (pt_cmpR (op_neD hu64) (pv 4) (pe_lst pa_nil) (nomark _)) (pw_and1 (pt_cmpR op_eq (pe_fn (callK0 G__law_take hcl (hr.mono (by decide)) pass0) (by rfl) T.d__law_take.mg T.d__law_take.kp (pa_cons (pv 0) (pa_cons pe_int pa_nil))) pe_int (nomark _))))) (pss_one (ps_asg (pe_ix ix_str (pv 2) (pe_fn (callK0 G__law_take hcl (hr.mono (by decide)) pass0) (by rfl) T.d__law_take.mg T.d__law_take.kp (pa_cons (pv 0) (pa_cons (pe_callB call_len_str (by rfl) T.z_len (by decide +kernel) (pa_cons (pv 2) pa_nil)) pa_nil))) (fun _ _ => rfl)) (pg_sub (pv 4) (pe_fn (callK0 G__law_take hcl (hr.mono (by decide)) pass0) (by rfl) T.d__law_take.mg T.d__law_take.kp (pa_cons (pv 0) (pa_cons (pv 3) pa_nil))) set_list))) pss_nil)
      (pss_one (ps_ret (pe_join pe_str (pv 4))))))))), ?_⟩
    walk_at "vc"
    refine ⟨_, _, rfl, rfl, sz_ok (by decide +kernel), ?_⟩
    walk_at "vc"
    refine take_now b (by omega) (by decide) (by decide) fun d H1 d0 d1 e1 b1 => ?_
    walk_at "vc"
    refine ⟨sz_ok (by simp), fun l nl => ?_⟩
    walk_at "vc"
    refine take_now (b1.same (same_new nl)) (by omega) (by decide) (by decide) fun x H2 x0 x1 e2 b2 => ?_
    obtain ⟨n, nm, hz⟩ := pick (ns := [d, 8, 9, 1, 0]) rfl x0 x1 (by show (5 : Int) ≤ 5; decide)
    have nb : 0 ≤ n ∧ n ≤ 10 := by
      rcases List.mem_cons.mp nm with h | nm
      · omega
      rcases List.mem_cons.mp nm with h | nm
      · omega
      rcases List.mem_cons.mp nm with h | nm
      · omega
      rcases List.mem_cons.mp nm with h | nm
      · omega
      rcases List.mem_cons.mp nm with h | nm
      · omega
      cases nm
    walk_at "vc"
    refine w_ixL (.of (e2 _ _ (b1.ne nl) upd_same)) hz ?_
    walk_at "vc"
    refine w_rng1 (by omega) ?_
    refine lcs_go wk_range ?_
    intro D nD
    have e3 : Bt p H H2 := (e1.trans (.new nl)).trans e2
    refine ⟨fun i H' => ∃ zs : List Str, H' D = some (.lst (zs.map V.str)) ∧ zs.length = i ∧ One zs ∧ Bt p H H' ∧ Bg H' p (c + 2 + i) ∧ D ≠ p, ⟨[], upd_same, rfl, one_nil, e3.trans (.new nD), (b2.same (same_new nD)).more (by omega), b2.ne nD⟩, fun _ _ _ _ => trivial, ?_, ?_⟩
    · rintro i y H' hi rfl ⟨zs, hD, hl, ho, e4, b4, nDp⟩
      walk_at "vc"
      refine ⟨rfl, ?_⟩
      walk_at "vc"
      refine w_itT rfl ?_
      walk_at "vc"
      refine take_now b4 (by omega) (by decide) (by decide) fun u H5 u0 u1 e5 b5 => ?_
      obtain ⟨sg, sm, hs⟩ := at_sign (z := LT) u0 (by exact u1)
      walk_at "vc"
      refine ⟨_, u, sg, rfl, rfl, sz_ok (by decide +kernel), hs, ?_⟩
      have hD5 : H5 D = some (.lst (zs.map V.str)) := e5 _ _ nDp hD
      refine ⟨_, hD5, by rw [List.length_map, sizeLine_eq]; omega, zs ++ [⟨#[sg]⟩], ?_, by rw [List.length_append, hl]; rfl, ?_, ?_, ?_, nDp⟩
      · rw [upd_same, List.map_append]; rfl
      · intro z hz
        rcases List.mem_append.mp hz with h | h
        · exact ho z h
        · rw [List.mem_singleton.mp h]; exact one_sign (lt_asc sg sm)
      · exact (e4.trans e5).put (e3.back nDp nD)
      · exact (b5.put nDp).more (by omega)
    · rintro H' ⟨zs, hD, hl, ho, e4, b4, nDp⟩
      walk_at "vc"
      refine ⟨sz_ok (by simp), fun l2 nl2 => ?_⟩
      have l2D : D ≠ l2 := ne_of_none hD nl2
      refine ⟨.list (zs.map .str), .list [], .lst (.of (by rw [upd_ne l2D]; exact hD)) (dp_strs zs), .lst (.of upd_same) .nil, shaped_strs fun z hz => (ho z hz).2, by decide +kernel, ?_⟩
      rw [eqv_nil]
      have b5 : Bg (upd H' l2 (.lst [])) p (c + 2 + (n.toNat : Nat)) := b4.same (same_new nl2)
      have e5 : Bt p H (upd H' l2 (.lst [])) := e4.trans (.new nl2)
      have hD5 : (upd H' l2 (.lst [])) D = some (.lst (zs.map V.str)) := by rw [upd_ne l2D]; exact hD
      walk_at "vc"
      refine w_iteB (fun c0 => ?_) (fun c0 => ?_)
      · have nz : zs ≠ [] := by
          intro h
          rw [h] at c0
          exact absurd c0 (by decide)
        have npos : 0 < n := by
          have : 0 < zs.length := List.length_pos_iff.mpr nz
          omega
        walk_at "vc"
        refine take_now b5 (by omega) (by decide) (by decide) fun u H6 u0 u1 e6 b6 => ?_
        walk_at "vc"
        refine w_ite (fun c1 => ?_) (fun c1 => ?_)
        · walk_at "vc"
          refine ⟨_, rfl, sz_ok (by decide +kernel), ?_⟩
          walk_at "vc"
          refine take_now b6 (by omega) (by decide +kernel) (by decide +kernel) fun v H7 v0 v1 e7 b7 => ?_
          obtain ⟨sg, sm, hs⟩ := at_sign (z := LT ++ LS) v0 (by exact v1)
          walk_at "vc"
          refine ⟨_, v, sg, rfl, rfl, sz_ok (by decide +kernel), hs, ?_⟩
          walk_at "vc"
          refine take_now b7 (by omega) npos (by omega) fun r H8 r0 r1 e8 b8 => ?_
          have hD8 : H8 D = some (.lst (zs.map V.str)) := e8 _ _ nDp (e7 _ _ nDp (e6 _ _ nDp hD5))
          walk_at "vc"
          refine w_setL (j := r.toNat) hD8 (by unfold ixN; rw [if_pos r0, List.length_map, if_pos (by omega)]) ?_
          have em : (zs.map V.str).set r.toNat (V.str ⟨#[sg]⟩) = (zs.set r.toNat ⟨#[sg]⟩).map V.str := (List.map_set ..).symm
          rw [em]
          have ho2 := one_set (j := r.toNat) ho (one_sign (ls_asc sg sm))
          obtain ⟨j1, j2⟩ := one_join ho2
          have hsum := one_sum ho2
          rw [List.length_set] at j1 hsum
          walk_at "vc"
          refine ⟨_, D, zs.set r.toNat ⟨#[sg]⟩, rfl, rfl, .inl (.of upd_same), ?_, ?_⟩
          · rw [hsum, List.length_set]
            show zs.length + zs.length * 0 ≤ 16777216
            omega
          · exact q _ _ (by omega) j2 ((((e5.trans e6).trans e7).trans e8).put (e3.back nDp nD)) ((b8.put nDp).more (by omega))
        · walk_at "vc"
          have hD6 : H6 D = some (.lst (zs.map V.str)) := e6 _ _ nDp hD5
          obtain ⟨j1, j2⟩ := one_join ho
          have hsum := one_sum ho
          refine ⟨_, D, zs, rfl, rfl, .inl (.of hD6), ?_, ?_⟩
          · rw [hsum]
            show zs.length + zs.length * 0 ≤ 16777216
            omega
          · exact q _ _ (by omega) j2 (e5.trans e6) (b6.more (by omega))
      · refine w_itF rfl ?_
        walk_at "vc"
        obtain ⟨j1, j2⟩ := one_join ho
        have hsum := one_sum ho
        refine ⟨_, D, zs, rfl, rfl, .inl (.of hD5), ?_, ?_⟩
        · rw [hsum]
          show zs.length + zs.length * 0 ≤ 16777216
          omega
        · exact q _ _ (by omega) j2 e5 (b5.more (by omega))

theorem all_filter {α : Type} (p : α → Bool) : ∀ cs : List α, cs.all p = (cs.filter fun c => !p c).isEmpty
  | [] => rfl
  | c :: cs => by
    rw [List.all_cons, List.filter_cons, all_filter p cs]
    cases h : p c <;> simp
theorem nam_of {z : Str} (h8 : (z.length : Int) ≤ 8) (h1 : ¬ (z.length : Int) < 1) : nam (.str z) = (z.cps.toList.filter fun c => !decide (c ∈ LT.cps.toList)).isEmpty := by
  have hne : decide (V.str z = V.str "") = false := by
    refine decide_eq_false fun e => ?_
    have e' : z = "" := V.str.inj e
    rw [e'] at h1
    exact h1 (by decide)
  show (decide ((z.length : Int) ≤ 8) && (!decide (V.str z = V.str "") && allIn z LT)) = _
  rw [decide_eq_true h8, hne]
  unfold allIn
  exact all_filter _ _
theorem nam_short {z : Str} (h : (z.length : Int) < 1) : nam (.str z) = false := by
  have e : z = "" := by
    have h0 : z.cps.size = 0 := by
      have : z.length = z.cps.size := rfl
      omega
    cases z with
    | mk a =>
      have : a = #[] := Array.eq_empty_of_size_eq_zero h0
      rw [this]
      rfl
  subst e
  rfl
theorem nam_long {z : Str} (h : ¬ (z.length : Int) ≤ 8) : nam (.str z) = false := by
  show (decide ((z.length : Int) ≤ 8) && _) = false
  rw [decide_eq_false h]
  rfl

theorem ok__law_is_name (T : Txt K mg A)   : Kp P w K mg base CX0 1 A.f__law_is_name ["_law_thing"] [] (spIs K nam) := by
  obtain ⟨fd, F⟩ := T.d__law_is_name.ex
  refine ⟨fd, fnG_nx (k := 0) F sc__law_is_name (fun vs H Q E h => ?_) (fun cdv Ar outer s H vs Q E hcl hr h => ?_), F.binds (fun _ _ _ _ _ _ us hl => match us, hl with | [_], _ => rfl)⟩
  · obtain ⟨p, v, rfl, kn, sm, q⟩ := h
    rfl
  · obtain ⟨p, v, rfl, kn, sm, q⟩ := h
    have hu64 := hr.units
    have hu := hu_of hr
    refine ⟨_, (pss_cons (ps_if (PW.pt (pw_or (pt_not (pt_val (pe_callB call_isStr (by rfl) T.z_isinstance (by decide +kernel) (pa_cons (pv 0) (pa_cons (pe_bltn (v := .ty "str") rfl T.z_str (by decide +kernel) rfl) pa_nil))))) (pw_or (pt_cmpR op_lt (pe_callB call_len_str (by rfl) T.z_len (by decide +kernel) (pa_cons (pv 0) pa_nil)) pe_int (nomark _)) (pw_or1 (pt_cmpR op_gt (pe_callB call_len_str (by rfl) T.z_len (by decide +kernel) (pa_cons (pv 0) pa_nil)) pe_int (nomark _)))))) (pss_one (ps_ret pe_bl)) pss_nil)
      (pss_one (ps_ret (pe_cmpR (op_eqD hu64) (pe_lc (own := [("_law_sign", 1)]) (by rfl) sc__law_is_name.nd (pi_str (pv 0)) (blkOk_by (own := [("_law_sign", 1)]) (N := ["_law_thing", "_law_sign"]) (sc := defScope s__law_is_name) (by decide +kernel)) (fun _ _ _ _ _ => pg_name (i := 1) sc__law_is_name.nd rfl (Or.inl rfl)) (fun _ _ _ _ _ => pts_one (pt_cmpR op_notIn_sign (pv 1) pe_str rfl)) (fun _ _ _ _ _ => (pv 1))) (pe_lst pa_nil) (nomark _))))), ?_⟩
    walk_at "vc"
    refine ⟨p, v, rfl, kn, ?_⟩
    walk_at "vc"
    cases c : isStr v with
    | false =>
      refine w_itT rfl ?_
      refine w_itT rfl ?_
      walk_at "vc"
      have := q H (Same.refl H)
      rw [nam_not c] at this
      exact this
    | true =>
      obtain ⟨z, rfl⟩ := str_of c
      obtain ⟨hz, ha⟩ := sm z rfl
      refine w_itF rfl ?_
      walk_at "vc"
      refine ⟨z, rfl, sz_ok hz, ?_⟩
      walk_at "vc"
      refine w_ite (fun c1 => ?_) (fun c1 => ?_)
      · refine w_itT rfl ?_
        walk_at "vc"
        have := q H (Same.refl H)
        rw [nam_short c1] at this
        exact this
      · walk_at "vc"
        refine ⟨z, rfl, sz_ok hz, ?_⟩
        walk_at "vc"
        refine w_ite (fun c2 => ?_) (fun c2 => ?_)
        · walk_at "vc"
          have := q H (Same.refl H)
          rw [nam_long (by omega)] at this
          exact this
        · walk_at "vc"
          refine w_str1 ?_
          refine lcs_go (wk_str (z := z)) (lcs_of z.cps.toList (fun c => !decide (c ∈ LT.cps.toList)) (fun c => .str ⟨#[c]⟩) (by simp) (by have : z.cps.size = z.length := rfl; omega) (fun _ _ => trivial) ?_ ?_)
          · rintro i c x H' R S hc ⟨c', hc', rfl⟩ s1 kR kS
            have ec : c' = c := by
              rw [Array.getElem?_toList] at hc
              rw [hc] at hc'
              exact (Option.some.inj hc').symm
            subst ec
            walk_at "vc"
            refine ⟨rfl, ?_⟩
            walk_at "vc"
            refine ⟨c', _, rfl, rfl, ?_⟩
            walk_at "vc"
            refine w_iteB (fun c3 => ?_) (fun c3 => ?_)
            · walk_at "vc"
              exact kR c3 H' (Same.refl _)
            · exact kS c3 H' (Same.refl _)
          · intro D H' nD s1 hD
            walk_at "vc"
            refine ⟨sz_ok (by simp), fun l nl => ?_⟩
            have nDl : D ≠ l := ne_of_none hD nl
            have es : (z.cps.toList.filter fun c => !decide (c ∈ LT.cps.toList)).map (fun c => V.str ⟨#[c]⟩) = ((z.cps.toList.filter fun c => !decide (c ∈ LT.cps.toList)).map fun c => (⟨#[c]⟩ : Str)).map V.str := by rw [List.map_map]; rfl
            rw [es] at hD
            refine ⟨.list _, .list [], .lst (.of (by rw [upd_ne nDl]; exact hD)) (dp_strs _), .lst (.of upd_same) .nil, shaped_strs ?_, by decide +kernel, ?_⟩
            · intro y hy
              obtain ⟨c4, hc4, rfl⟩ := List.mem_map.mp hy
              exact (one_sign (ha c4 (List.mem_filter.mp hc4).1)).2
            · rw [eqv_nil]
              have := q _ (s1.trans (same_new (o := .lst []) nl))
              rw [nam_of (by omega) c1] at this
              simpa [List.isEmpty_iff] using this

/-- four things at q: a number, a text, two others -/
def spThings (K : PySem.W.Frag) : Sp := fun vs H Q _ => ∃ (p : Addr) (c : Int), vs = [.ref p] ∧ Bg H p c ∧ c ≤ 800000 ∧
  ∀ (l : Addr) (n : Int) (z : Str) (x y : V) H', l ≠ p → H' l = some (.lst [.int n, .str z, x, y]) → Kn K p H' x → Kn K p H' y → Sml (.str z) → Sml x → Sml y → n.natAbs < 2 ^ 150 → Bt p H H' → Bg H' p (c + 60) → Q (.ref l) H'

theorem ok__law_things (T : Txt K mg A) (G__law_take : Kp P w K mg base CX0 1 A.f__law_take ["_law_bag_here", "_law_below"] [] (spTake)) (G__law_number : Kp P w K mg base CX0 2 A.f__law_number ["_law_bag_here"] [] (spNum)) (G__law_text : Kp P w K mg base CX0 2 A.f__law_text ["_law_bag_here"] [] (spTxt)) (G_NoName_init : Kp P w K mg base CX0 1 A.f_NoName_init ["self", "found"] [] (spErr "found" A.C_NoName))  : Kp P w K mg base CX0 4 A.f__law_things ["_law_bag_here"] [] (spThings K) := by
  obtain ⟨fd, F⟩ := T.d__law_things.ex
  refine ⟨fd, fnG_nx (k := 3) F sc__law_things (fun vs H Q E h => ?_) (fun cdv Ar outer s H vs Q E hcl hr h => ?_), F.binds (fun _ _ _ _ _ _ us hl => match us, hl with | [_], _ => rfl)⟩
  · obtain ⟨p, c, rfl, b, hc, q⟩ := h
    rfl
  · obtain ⟨p, c, rfl, b, hc, q⟩ := h
    have hu64 := hr.units
    have hu := hu_of hr
    refine ⟨_, (pss_cons (ps_set (i := 1) sc__law_things.nd rfl (Or.inl rfl) (pe_fn (callK0 G__law_number hcl (hr.mono (by decide)) pass0) (by rfl) T.d__law_number.mg T.d__law_number.kp (pa_cons (pv 0) pa_nil)))
      (pss_cons (ps_set (i := 2) sc__law_things.nd rfl (Or.inl rfl) (pe_fn (callK0 G__law_text hcl (hr.mono (by decide)) pass0) (by rfl) T.d__law_text.mg T.d__law_text.kp (pa_cons (pv 0) pa_nil)))
      (pss_cons (ps_set (i := 3) sc__law_things.nd rfl (Or.inl rfl) (pe_lst (pa_cons pe_non (pa_cons pe_bl (pa_cons pe_bl (pa_cons (pe_lst (pa_cons (pv 1) pa_nil)) (pa_cons (pe_tup (pa_cons (pv 2) pa_nil)) (pa_cons pe_dnewK (pa_cons (pe_lst pa_nil) (pa_cons (pe_tup pa_nil) (pa_cons (pe_disp (pps_cons (pv 2) (pv 1) pps_nil) (by rfl) (by rfl) (fun z => by cases z) (by decide)) (pa_cons (pe_callTy call_str_int (by rfl) T.z_str (by decide +kernel) (pa_cons (pv 1) pa_nil)) (pa_cons (pe_lst (pa_cons (pv 2) pa_nil)) (pa_cons pe_str (pa_cons (pe_fn (er_call T.e_NoName G_NoName_init hcl (hr.mono (by decide))) (by rfl) T.e_NoName.mg T.e_NoName.oex.kC (pa_cons pe_str pa_nil)) pa_nil)))))))))))))))
      (pss_one (ps_ret (pe_lst (pa_cons (pv 1) (pa_cons (pv 2) (pa_cons (pe_ix ix_list (pv 3) (pe_fn (callK0 G__law_take hcl (hr.mono (by decide)) pass0) (by rfl) T.d__law_take.mg T.d__law_take.kp (pa_cons (pv 0) (pa_cons pe_int pa_nil))) (fun _ _ => rfl)) (pa_cons (pe_ix ix_list (pv 3) (pe_fn (callK0 G__law_take hcl (hr.mono (by decide)) pass0) (by rfl) T.d__law_take.mg T.d__law_take.kp (pa_cons (pv 0) (pa_cons pe_int pa_nil))) (fun _ _ => rfl)) pa_nil)))))))))), ?_⟩
    walk_at "vc"
    refine ⟨p, c, rfl, b, by omega, fun n H1 hn e1 b1 => ?_⟩
    walk_at "vc"
    refine ⟨p, c + 10, rfl, b1, by omega, fun z H2 hz ha e2 b2 => ?_⟩
    walk_at "vc"
    refine ⟨sz_ok (by simp), newL_mk fun l3 G3 n3 s3 a3 => ?_⟩
    walk_at "vc"
    refine ⟨sz_ok (by simp), newT_mk fun l4 G4 n4 s4 a4 => ?_⟩
    walk_at "vc"
    refine newD_mk fun l5 G5 n5 s5 a5 => ?_
    walk_at "vc"
    refine ⟨sz_ok (by simp), newL_mk fun l6 G6 n6 s6 a6 => ?_⟩
    walk_at "vc"
    refine ⟨sz_ok (by simp), newT_mk fun l7 G7 n7 s7 a7 => ?_⟩
    walk_at "vc"
    refine w_disp fun l8 G8 n8 s8 a8 => ⟨_, rfl, _, rfl, a8, [(.inr z, .int n)], rfl, (by show 1 ≤ 15; decide), ?_⟩
    obtain ⟨G8', s8', a8', hG⟩ : ∃ G, Bt l8 G8 G ∧ G l8 = some (.dK (mergeK [] [((.inr z : Key), V.int n)])) ∧ G = upd G8 l8 (.dK (mergeK [] [((.inr z : Key), V.int n)])) := ⟨_, Bt.at_, upd_same, rfl⟩
    rw [← hG]
    walk_at "vc"
    refine ⟨n, rfl, Nat.lt_of_lt_of_le (PySem.Flt.log2_lt_of (by decide) hn) (by decide), ?_⟩
    walk_at "vc"
    refine ⟨sz_ok (by simp), newL_mk fun l9 G9 n9 s9 a9 => ?_⟩
    walk_at "vc"
    refine ⟨_, rfl, newE_mk fun a d Ga na nd hda sa aa ad => ?_⟩
    walk_at "vc"
    refine ⟨sz_ok (by simp), newL_mk fun l10 G10 n10 s10 a10 => ?_⟩
    have b3 := b2.same s3
    have b4 := b3.same s4
    have b5 := b4.same s5
    have b6 := b5.same s6
    have b7 := b6.same s7
    have b8 := b7.same s8
    have p8 : l8 ≠ p := b7.ne n8
    have b8' : Bg G8' p (c + 10 + 40) := by rw [hG]; exact b8.put p8
    have b9 := b8'.same s9
    have ba := b9.same sa
    have b10 := ba.same s10
    have t9 : Same G8' G10 := (s9.trans sa).trans s10
    have t7 : Bt l8 G7 G10 := ((Bt.of s8).trans s8').trans (.of t9)
    have ne8 : ∀ {q : Addr} {o : HO}, G7 q = some o → q ≠ l8 := fun e => ne_of_none e n8
    have z7 : G7 l7 = some (.tup []) := a7
    have z6 : G7 l6 = some (.lst []) := s7 _ _ a6
    have z5 : G7 l5 = some (.dK []) := s7 _ _ (s6 _ _ a5)
    have z4 : G7 l4 = some (.tup [.str z]) := s7 _ _ (s6 _ _ (s5 _ _ a4))
    have z3 : G7 l3 = some (.lst [.int n]) := s7 _ _ (s6 _ _ (s5 _ _ (s4 _ _ a3)))
    have sr : ∀ q : Addr, Sml (.ref q) := fun q z h => nomatch h
    have all : ∀ x ∈ ([.non, .bl true, .bl false, .ref l3, .ref l4, .ref l5, .ref l6, .ref l7, .ref l8, .str (Str.ofString (toString n)), .ref l9, .str "", .ref a] : List V), Kn K p G10 x ∧ Sml x := by
      intro x hx
      simp only [List.mem_cons, List.not_mem_nil, or_false] at hx
      rcases hx with rfl | rfl | rfl | rfl | rfl | rfl | rfl | rfl | rfl | rfl | rfl | rfl | rfl
      · exact ⟨.non, fun z h => nomatch h⟩
      · exact ⟨.bl _, fun z h => nomatch h⟩
      · exact ⟨.bl _, fun z h => nomatch h⟩
      · exact ⟨.lst (b2.ne n3) (t7 _ _ (ne8 z3) z3), sr _⟩
      · exact ⟨.tup (b3.ne n4) (t7 _ _ (ne8 z4) z4), sr _⟩
      · exact ⟨.dct (b4.ne n5) (t7 _ _ (ne8 z5) z5), sr _⟩
      · exact ⟨.lst (b5.ne n6) (t7 _ _ (ne8 z6) z6), sr _⟩
      · exact ⟨.tup (b6.ne n7) (t7 _ _ (ne8 z7) z7), sr _⟩
      · exact ⟨.dct p8 (t9 _ _ a8'), sr _⟩
      · exact ⟨.str _, fun z h => by cases h; exact int_sml hn⟩
      · exact ⟨.lst (b8'.ne n9) (s10 _ _ (sa _ _ a9)), sr _⟩
      · exact ⟨.str _, fun z h => by cases h; exact ⟨by decide, asc_empty⟩⟩
      · exact ⟨.err (b9.ne na) (b9.ne nd) (s10 _ _ aa) (s10 _ _ ad) T.e_NoName.ei, sr _⟩
    walk_at "vc"
    refine take_now b10 (by omega) (by decide) (by decide) fun k1 H3 k10 k11 e3 c3 => ?_
    obtain ⟨x, xm, hx⟩ := atI_mem (l := [.non, .bl true, .bl false, .ref l3, .ref l4, .ref l5, .ref l6, .ref l7, .ref l8, .str (Str.ofString (toString n)), .ref l9, .str "", .ref a]) k10 (by exact k11)
    have p10 : l10 ≠ p := ba.ne n10
    walk_at "vc"
    refine w_ixL (.of (e3 _ _ p10 a10)) hx ?_
    walk_at "vc"
    refine take_now c3 (by omega) (by decide) (by decide) fun k2 H4 k20 k21 e4 c4 => ?_
    obtain ⟨y, ym, hy⟩ := atI_mem (l := [.non, .bl true, .bl false, .ref l3, .ref l4, .ref l5, .ref l6, .ref l7, .ref l8, .str (Str.ofString (toString n)), .ref l9, .str "", .ref a]) k20 (by exact k21)
    walk_at "vc"
    refine w_ixL (.of (e4 _ _ p10 (e3 _ _ p10 a10))) hy ?_
    walk_at "vc"
    refine ⟨sz_ok (by simp), newL_mk fun l H5 nl s5' al => ?_⟩
    have e34 := (e3.trans e4).trans (.of s5')
    have g7 : Bt p H G7 := (((((e1.trans e2).trans (.of s3)).trans (.of s4)).trans (.of s5)).trans (.of s6)).trans (.of s7)
    have g10 : Bt p H G10 := by
      intro q o hq e
      by_cases h8 : q = l8
      · rw [h8] at e
        have := g7 _ _ p8 e
        rw [n8] at this
        cases this
      · exact t7 _ _ h8 (g7 _ _ hq e)
    exact q l n z x y H5 (c4.ne nl) al ((all x xm).1.mono e34) ((all y ym).1.mono e34) (fun w hw => by cases hw; exact ⟨by omega, ha⟩) (all x xm).2 (all y ym).2 hn (g10.trans e34) ((c4.same s5').more (by omega))

def spLaw (K : PySem.W.Frag) : Sp := fun vs H Q _ => ∃ (a : Addr) (ns : List Int), vs = [.ref a] ∧ SqL K H a (ns.map V.int) ∧ ns.length ≤ 63 ∧ ∀ H', Q (.bl true) H'
theorem shown2 (b c : Bool) : (PyData.list [.bool b, .bool c]).shown.length ≤ sizeLine := by cases b <;> cases c <;> decide +kernel
theorem dep2 (b c : Bool) : (PyData.list [.bool b, .bool c]).depth ≤ 60 := by cases b <;> cases c <;> decide +kernel
theorem dp2 {K : PySem.W.Frag} {H : Hp} {l : Addr} {b c : Bool} (h : H l = some (.lst [.bl b, .bl c])) : Dp K H (.ref l) (.list [.bool b, .bool c]) := .lst (.of h) (.cons (.bl b) (.cons (.bl c) .nil))
theorem Sml.int (i : Int) : Sml (.int i) := fun _ h => nomatch h

theorem ok_law (T : Txt K mg A) (G__law_cell : Kp P w K mg base CX0 1 A.f__law_cell ["_law_script", "_law_k"] [] (spCel K)) (G__law_bag : Kp P w K mg base CX0 1 A.f__law_bag ["_law_cell_here"] [] (spBag)) (G__law_take : Kp P w K mg base CX0 1 A.f__law_take ["_law_bag_here", "_law_below"] [] (spTake)) (G__law_number : Kp P w K mg base CX0 2 A.f__law_number ["_law_bag_here"] [] (spNum)) (G__law_things : Kp P w K mg base CX0 4 A.f__law_things ["_law_bag_here"] [] (spThings K)) (G_is_whole : Kp P w K mg base CX0 4 A.f_is_whole ["thing", "low", "high"] [] (spIs3 K whl)) (G_is_name : Kp P w K mg base CX0 2 A.f_is_name ["thing"] [] (spIs K nam)) (G__law_is_whole : Kp P w K mg base CX0 1 A.f__law_is_whole ["_law_thing", "_law_low", "_law_high"] [] (spIs3 K whl)) (G__law_is_name : Kp P w K mg base CX0 1 A.f__law_is_name ["_law_thing"] [] (spIs K nam))  {fd : FuncData} (F : Fun K "law" "law" s_law A.f_law fd) : FnG P w K mg base CX0 5 A.f_law fd ["_law_script"] (spLaw K) := by
  refine fnG_nx (k := 4) F sc_law (fun vs H Q E h => ?_) (fun cdv Ar outer s H vs Q E hcl hr h => ?_)
  · obtain ⟨a, ns, rfl, hS, hl, q⟩ := h
    rfl
  · obtain ⟨a, ns, rfl, hS, hl, q⟩ := h
    have hu64 := hr.units
    have hu := hu_of hr
    refine ⟨_, (pss_cons (ps_for PassesOwn.never rfl (pi_range1 (by rfl) T.z_range (pa_cons (pe_callB (call_max2 rfl) (by rfl) T.z_max (by decide +kernel) (pa_cons pe_int (pa_cons (pe_callB (call_min2 rfl) (by rfl) T.z_min (by decide +kernel) (pa_cons pe_int (pa_cons (pe_callB call_len_seq (by rfl) T.z_len (by decide +kernel) (pa_cons (pv 0) pa_nil)) pa_nil))) pa_nil))) pa_nil)) (pg_name (i := 1) sc_law.nd rfl (Or.inl rfl)) (pss_cons (ps_set (i := 2) sc_law.nd rfl (Or.inl rfl) (pe_fn (callK0 G__law_bag hcl (hr.mono (by decide)) pass0) (by rfl) T.d__law_bag.mg T.d__law_bag.kp (pa_cons (pe_fn (callK0 G__law_cell hcl (hr.mono (by decide)) pass0) (by rfl) T.d__law_cell.mg T.d__law_cell.kp (pa_cons (pv 0) (pa_cons (pv 1) pa_nil))) pa_nil)))
      (pss_cons (ps_set (i := 3) sc_law.nd rfl (Or.inl rfl) (pe_fn (callK0 G__law_things hcl (hr.mono (by decide)) pass0) (by rfl) T.d__law_things.mg T.d__law_things.kp (pa_cons (pv 2) pa_nil)))
      (pss_cons (ps_set (i := 4) sc_law.nd rfl (Or.inl rfl) (pe_op op_sub (pe_op op_add (pe_ix ix_list (pv 3) pe_int (fun _ _ => rfl)) (pe_fn (callK0 G__law_take hcl (hr.mono (by decide)) pass0) (by rfl) T.d__law_take.mg T.d__law_take.kp (pa_cons (pv 2) (pa_cons pe_int pa_nil)))) pe_int))
      (pss_cons (ps_set (i := 5) sc_law.nd rfl (Or.inl rfl) (pe_ix ix_list (pe_lst (pa_cons (pv 4) (pa_cons (pe_op op_add (pv 4) (pe_fn (callK0 G__law_take hcl (hr.mono (by decide)) pass0) (by rfl) T.d__law_take.mg T.d__law_take.kp (pa_cons (pv 2) (pa_cons pe_int pa_nil)))) (pa_cons (pe_fn (callK0 G__law_number hcl (hr.mono (by decide)) pass0) (by rfl) T.d__law_number.mg T.d__law_number.kp (pa_cons (pv 2) pa_nil)) (pa_cons (pe_ix ix_list (pv 3) pe_int (fun _ _ => rfl)) pa_nil))))) (pe_fn (callK0 G__law_take hcl (hr.mono (by decide)) pass0) (by rfl) T.d__law_take.mg T.d__law_take.kp (pa_cons (pv 2) (pa_cons pe_int pa_nil))) (fun _ _ => rfl)))
      (pss_one (ps_for PassesOwn.never rfl (pi_list (pe_lst (pa_cons (pe_tup (pa_cons (pv 4) (pa_cons (pv 5) pa_nil))) (pa_cons (pe_tup (pa_cons (pv 5) (pa_cons (pv 4) pa_nil))) (pa_cons (pe_tup (pa_cons pe_int (pa_cons pe_int pa_nil))) (pa_cons (pe_tup (pa_cons (pe_ix ix_list (pv 3) pe_int (fun _ _ => rfl)) (pa_cons (pe_ix ix_list (pv 3) pe_int (fun _ _ => rfl)) pa_nil))) pa_nil)))))) (pg_tup rfl (pgs_cons (pg_name (i := 6) sc_law.nd rfl (Or.inl rfl)) (pgs_cons (pg_name (i := 7) sc_law.nd rfl (Or.inl rfl)) pgs_nil))) (pss_one (ps_for PassesOwn.never rfl (pi_list (pe_op op_cat (pv 3) (pe_revL (pv 3)))) (pg_name (i := 8) sc_law.nd rfl (Or.inl rfl)) (pss_cons (ps_set (i := 9) sc_law.nd rfl (Or.inl rfl) (pe_lst (pa_cons (pe_fn (callK0 G_is_whole hcl (hr.mono (by decide)) pass0) (by rfl) T.d_is_whole.mg T.d_is_whole.kp (pa_cons (pv 8) (pa_cons (pv 6) (pa_cons (pv 7) pa_nil)))) (pa_cons (pe_fn (callK0 G_is_name hcl (hr.mono (by decide)) pass0) (by rfl) T.d_is_name.mg T.d_is_name.kp (pa_cons (pv 8) pa_nil)) pa_nil))))
      (pss_one (ps_if (pt_cmpR op_ne (pe_callB (call_show hcl hr) (by rfl) T.z_repr (by decide +kernel) (pa_cons (pv 9) pa_nil)) (pe_callB (call_show hcl hr) (by rfl) T.z_repr (by decide +kernel) (pa_cons (pe_lst (pa_cons (pe_fn (callK0 G__law_is_whole hcl (hr.mono (by decide)) pass0) (by rfl) T.d__law_is_whole.mg T.d__law_is_whole.kp (pa_cons (pv 8) (pa_cons (pv 6) (pa_cons (pv 7) pa_nil)))) (pa_cons (pe_fn (callK0 G__law_is_name hcl (hr.mono (by decide)) pass0) (by rfl) T.d__law_is_name.mg T.d__law_is_name.kp (pa_cons (pv 8) pa_nil)) pa_nil))) pa_nil)) (nomark _)) (pss_one (ps_ret pe_bl)) pss_nil))))))))))))
      (pss_one (ps_ret pe_bl))), ?_⟩
    walk_at "vc"
    refine ⟨a, _, rfl, .inl hS, ?_⟩
    walk_at "vc"
    refine ⟨_, _, rfl, ?_⟩
    walk_at "vc"
    refine ⟨_, _, rfl, ?_⟩
    walk_at "vc"
    rw [List.length_map]
    refine w_rng1 (by split <;> split <;> omega) ?_
    refine fors_go wk_range ⟨fun i σ H' => ∃ v1 v2 v3 v4 v5 v6 v7 v8 v9 : Option V, σ = [some (.ref a), v1, v2, v3, v4, v5, v6, v7, v8, v9] ∧ SqL K H' a (ns.map V.int), ⟨_, _, _, _, _, _, _, _, _, rfl, hS⟩, fun _ _ _ _ _ => trivial, ?_, ?_⟩
    · rintro i x σ H' hi rfl ⟨v1, v2, v3, v4, v5, v6, v7, v8, v9, rfl, hS'⟩
      have hi' : (i : Int) ≤ 1000 := by
        revert hi
        split <;> split <;> omega
      walk_at "vc"
      refine ⟨a, ns, i, rfl, hS', hl, by omega, hi', fun z G1 s1 => ?_⟩
      walk_at "vc"
      refine ⟨z, rfl, fun p G2 np s2 b2 => ?_⟩
      walk_at "vc"
      refine ⟨p, 0, rfl, b2, by decide, fun l n zt x y G3 lp hl3 kx ky sz sx sy hn e3 b3 => ?_⟩
      walk_at "vc"
      refine w_ixL (.of hl3) atI0 ?_
      walk_at "vc"
      refine take_now b3 (by omega) (by decide) (by decide) fun k1 G4 k10 k11 e4 b4 => ?_
      walk_at "vc"
      have hl4 := e4 _ _ lp hl3
      refine take_now b4 (by omega) (by decide) (by decide) fun k2 G5 k20 k21 e5 b5 => ?_
      walk_at "vc"
      refine ⟨p, _, rfl, b5, by omega, fun m G6 hm e6 b6 => ?_⟩
      have hl6 := e6 _ _ lp (e5 _ _ lp hl4)
      walk_at "vc"
      refine w_ixL (.of hl6) atI0 ?_
      walk_at "vc"
      refine ⟨sz_ok (by simp), newL_mk fun l7 G7 n7 s7 a7 => ?_⟩
      walk_at "vc"
      refine take_now (b6.same s7) (by omega) (by decide) (by decide) fun k3 G8 k30 k31 e8 b8 => ?_
      obtain ⟨far, fm, hf⟩ := pick (ns := [n + k1 - 1, n + k1 - 1 + k2, m, n]) rfl k30 k31 (by show (4 : Int) ≤ 4; decide)
      walk_at "vc"
      refine w_ixL (.of (e8 _ _ (b6.ne n7) a7)) hf ?_
      have e38 : Bt p G3 G8 := (((e4.trans e5).trans e6).trans (.of s7)).trans e8
      have hl8 := e38 _ _ lp hl3
      walk_at "vc"
      refine ⟨sz_ok (by simp), newT_mk fun t1 J1 m1 r1 c1 => ?_⟩
      walk_at "vc"
      refine ⟨sz_ok (by simp), newT_mk fun t2 J2 m2 r2 c2 => ?_⟩
      walk_at "vc"
      refine ⟨sz_ok (by simp), newT_mk fun t3 J3 m3 r3 c3 => ?_⟩
      walk_at "vc"
      have hlJ := r3 _ _ (r2 _ _ (r1 _ _ hl8))
      refine w_ixL (.of hlJ) atI0 ?_
      walk_at "vc"
      refine w_ixL (.of hlJ) atI0 ?_
      walk_at "vc"
      refine ⟨sz_ok (by simp), newT_mk fun t4 J4 m4 r4 c4 => ?_⟩
      walk_at "vc"
      refine ⟨sz_ok (by simp), newL_mk fun l5 J5 m5 r5 c5 => ?_⟩
      refine w_lst1 (.of c5) ?_
      have r85 : Same G8 J5 := (((r1.trans r2).trans r3).trans r4).trans r5
      have tups : ∀ x ∈ [V.ref t1, V.ref t2, V.ref t3, V.ref t4], ∃ t lo hi, x = .ref t ∧ J5 t = some (.tup [.int lo, .int hi]) := by
        intro x hx
        simp only [List.mem_cons, List.not_mem_nil, or_false] at hx
        rcases hx with rfl | rfl | rfl | rfl
        · exact ⟨_, _, _, rfl, r5 _ _ (r4 _ _ (r3 _ _ (r2 _ _ c1)))⟩
        · exact ⟨_, _, _, rfl, r5 _ _ (r4 _ _ (r3 _ _ c2))⟩
        · exact ⟨_, _, _, rfl, r5 _ _ (r4 _ _ c3)⟩
        · exact ⟨_, _, _, rfl, r5 _ _ c4⟩
      have hl5 : J5 l = some (.lst [.int n, .str zt, x, y]) := r85 _ _ hl8
      have e35 : Bt p G3 J5 := e38.trans (.of r85)
      have kn5 : ∀ v ∈ [V.int n, V.str zt, x, y], Kn K p J5 v ∧ Sml v := by
        intro v hv
        simp only [List.mem_cons, List.not_mem_nil, or_false] at hv
        rcases hv with rfl | rfl | rfl | rfl
        · exact ⟨.int _, .int _⟩
        · exact ⟨.str _, sz⟩
        · exact ⟨kx.mono e35, sx⟩
        · exact ⟨ky.mono e35, sy⟩
      have hS5 : SqL K J5 a (ns.map V.int) := by
        rcases s1.seq hS' with (h | ⟨o, h⟩) | h
        · have n1 := ne_of_none h np
          exact .inl (.inl (e35 _ _ n1 (e3 _ _ n1 (s2 _ _ h))))
        · have n1 := ne_of_none h np
          exact .inl (.inr ⟨o, e35 _ _ n1 (e3 _ _ n1 (s2 _ _ h))⟩)
        · exact .inr h
      refine fors_go wk_list ⟨fun i2 σ H2 => ∃ w6 w7 w8 w9 : Option V, σ = [some (.ref a), some (.int i), some (.ref p), some (.ref l), some (.int (n + k1 - 1)), some (.int far), w6, w7, w8, w9] ∧ Same J5 H2, ⟨_, _, _, _, rfl, Same.refl _⟩, fun i2 σ H2 _ ⟨_, _, _, _, _, s⟩ => s.seq (.of c5), ?_, ?_⟩
      · rintro i2 x2 σ H2 hi2 hx2 ⟨w6, w7, w8, w9, rfl, sJ⟩
        obtain ⟨t, tlo, thi, rfl, ht⟩ := tups x2 (List.mem_of_getElem? hx2)
        refine w_gtup (.of (sJ _ _ ht)) rfl ?_
        walk_at "vc"
        refine ⟨l, _, rfl, .of (sJ _ _ hl5), newL_mk fun l6 J6 m6 r6 c6 => ?_⟩
        refine w_cat (r6 _ _ (sJ _ _ hl5)) c6 (by simp [sizeLine_eq]) (newL_mk fun l9 J9 m9 r9 c9 => ?_)
        walk_at "vc"
        refine w_lst1 (.of c9) ?_
        have s59 : Same J5 J9 := (sJ.trans r6).trans r9
        refine fors_go wk_list ⟨fun i3 σ H3 => ∃ w8 w9 : Option V, σ = [some (.ref a), some (.int i), some (.ref p), some (.ref l), some (.int (n + k1 - 1)), some (.int far), some (.int tlo), some (.int thi), w8, w9] ∧ Same J9 H3, ⟨_, _, rfl, Same.refl _⟩, fun i3 σ H3 _ ⟨_, _, _, s⟩ => s.seq (.of c9), ?_, ?_⟩
        · rintro i3 x3 σ H3 hi3 hx3 ⟨w8, w9, rfl, s9⟩
          obtain ⟨kv, sv⟩ := kn5 x3 (by
            have := List.mem_of_getElem? hx3
            rcases List.mem_append.mp this with h | h
            · exact h
            · exact List.mem_reverse.mp h)
          have kv3 := kv.same (s59.trans s9)
          walk_at "vc"
          refine ⟨p, x3, tlo, thi, rfl, kv3, fun F1 f1 => ?_⟩
          walk_at "vc"
          refine ⟨p, x3, rfl, kv3.same f1, sv, fun F2 f2 => ?_⟩
          walk_at "vc"
          refine ⟨sz_ok (by simp), newL_mk fun la F3 na f3 ca => ?_⟩
          walk_at "vc"
          refine ⟨_, _, rfl, dp2 ca, rfl, rfl, dep2 _ _, shown2 _ _, ?_⟩
          have kvf := ((kv3.same f1).same f2).same f3
          walk_at "vc"
          refine ⟨p, x3, tlo, thi, rfl, kvf, fun F4 f4 => ?_⟩
          walk_at "vc"
          refine ⟨p, x3, rfl, kvf.same f4, sv, fun F5 f5 => ?_⟩
          walk_at "vc"
          refine ⟨sz_ok (by simp), newL_mk fun lb F6 nb f6 cb => ?_⟩
          walk_at "vc"
          refine ⟨_, _, rfl, dp2 cb, rfl, rfl, dep2 _ _, shown2 _ _, ?_⟩
          walk_at "vc"
          refine w_itF (by simp) ?_
          walk_at "vc"
          exact ⟨_, _, rfl, ((((((s9.trans f1).trans f2).trans f3).trans f4).trans f5).trans f6)⟩
        · rintro σ H3 ⟨w8, w9, rfl, s9⟩
          exact ⟨_, _, _, _, rfl, s59.trans s9⟩
      · rintro σ H2 ⟨w6, w7, w8, w9, rfl, sJ⟩
        exact ⟨_, _, _, _, _, _, _, _, _, rfl, sJ.seq hS5⟩
    · rintro σ H' ⟨v1, v2, v3, v4, v5, v6, v7, v8, v9, rfl, hS'⟩
      walk_at "vc"
      exact q H'

end
/-! ### the end -/
theorem all_mk {l : PySem.W.OpenLaw} {w : World} {K : PySem.W.Frag} {h : Heap} {mg : Str → Option Value} {fa : Addr} (X : K.In h) (G : h.Ns mainGlobals mg) (hfa : mg "law" = some (.ref fa))
    {od_is_truth an_is_truth : Option Addr}
    {sl_is_truth : Array (Option Value)}
    {oc_is_truth kV_is_truth dc_is_truth pm_is_truth cd_is_truth ct_is_truth : Value}
    {f_is_truth : Addr}
    {od_is_number an_is_number : Option Addr}
    {sl_is_number : Array (Option Value)}
    {oc_is_number kV_is_number dc_is_number pm_is_number cd_is_number ct_is_number : Value}
    {f_is_number : Addr}
    {od_is_at_least an_is_at_least : Option Addr}
    {sl_is_at_least : Array (Option Value)}
    {oc_is_at_least kV_is_at_least dc_is_at_least pm_is_at_least cd_is_at_least ct_is_at_least : Value}
    {f_is_at_least : Addr}
    {od_is_whole an_is_whole : Option Addr}
    {sl_is_whole : Array (Option Value)}
    {oc_is_whole kV_is_whole dc_is_whole pm_is_whole cd_is_whole ct_is_whole : Value}
    {f_is_whole : Addr}
    {od_is_name an_is_name : Option Addr}
    {sl_is_name : Array (Option Value)}
    {oc_is_name kV_is_name dc_is_name pm_is_name cd_is_name ct_is_name : Value}
    {f_is_name : Addr}
    {od__is_made_of an__is_made_of : Option Addr}
    {sl__is_made_of : Array (Option Value)}
    {oc__is_made_of kV__is_made_of dc__is_made_of pm__is_made_of cd__is_made_of ct__is_made_of : Value}
    {f__is_made_of : Addr}
    {od__law_cell an__law_cell : Option Addr}
    {sl__law_cell : Array (Option Value)}
    {oc__law_cell kV__law_cell dc__law_cell pm__law_cell cd__law_cell ct__law_cell : Value}
    {f__law_cell : Addr}
    {od__law_bag an__law_bag : Option Addr}
    {sl__law_bag : Array (Option Value)}
    {oc__law_bag kV__law_bag dc__law_bag pm__law_bag cd__law_bag ct__law_bag : Value}
    {f__law_bag : Addr}
    {od__law_take an__law_take : Option Addr}
    {sl__law_take : Array (Option Value)}
    {oc__law_take kV__law_take dc__law_take pm__law_take cd__law_take ct__law_take : Value}
    {f__law_take : Addr}
    {od__law_number an__law_number : Option Addr}
    {sl__law_number : Array (Option Value)}
    {oc__law_number kV__law_number dc__law_number pm__law_number cd__law_number ct__law_number : Value}
    {f__law_number : Addr}
    {od__law_text an__law_text : Option Addr}
    {sl__law_text : Array (Option Value)}
    {oc__law_text kV__law_text dc__law_text pm__law_text cd__law_text ct__law_text : Value}
    {f__law_text : Addr}
    {od__law_is_name an__law_is_name : Option Addr}
    {sl__law_is_name : Array (Option Value)}
    {oc__law_is_name kV__law_is_name dc__law_is_name pm__law_is_name cd__law_is_name ct__law_is_name : Value}
    {f__law_is_name : Addr}
    {od__law_is_whole an__law_is_whole : Option Addr}
    {sl__law_is_whole : Array (Option Value)}
    {oc__law_is_whole kV__law_is_whole dc__law_is_whole pm__law_is_whole cd__law_is_whole ct__law_is_whole : Value}
    {f__law_is_whole : Addr}
    {od__law_things an__law_things : Option Addr}
    {sl__law_things : Array (Option Value)}
    {oc__law_things kV__law_things dc__law_things pm__law_things cd__law_things ct__law_things : Value}
    {f__law_things : Addr}
    {od_law an_law : Option Addr}
    {sl_law : Array (Option Value)}
    {oc_law kV_law dc_law pm_law cd_law ct_law : Value}
    {f_law : Addr}
    {t__LETTERS : Tok}
    {t__NAME_SIGNS : Tok}
    {U_WakeError : Addr}
    {C_NoName : Addr}
    {N_NoName : Addr}
    {nm_NoName q_NoName : Str}
    {bs_NoName sub_NoName : List Value}
    {sn_NoName : List Str}
    {ab_NoName : Bool}
    {col_NoName : Option Bool}
    {dd_NoName : Option Addr}
    {m0_NoName m1_NoName m2_NoName m3_NoName m5_NoName : Option Value}
    {od_NoName_init an_NoName_init : Option Addr}
    {sl_NoName_init : Array (Option Value)}
    {oc_NoName_init kV_NoName_init dc_NoName_init pm_NoName_init cd_NoName_init ct_NoName_init : Value}
    {f_NoName_init : Addr}
    (a_is_truth : PySem.W.nsIn K mainGlobals "is_truth" = some (some (.ref f_is_truth)))
    (l_is_truth : K.lookup f_is_truth = some ⟨oc_is_truth, od_is_truth, .func (PySem.W.fnOf "is_truth" "is_truth" (defArgs s_is_truth) (defBody s_is_truth) (defScope s_is_truth) .none kV_is_truth dc_is_truth pm_is_truth an_is_truth cd_is_truth ct_is_truth), sl_is_truth⟩)
    (c_is_truth : PySem.W.codeIn K cd_is_truth "is_truth" = true)
    (k_is_truth : PySem.W.keepIn K (.ref f_is_truth) = true)
    (a_is_number : PySem.W.nsIn K mainGlobals "is_number" = some (some (.ref f_is_number)))
    (l_is_number : K.lookup f_is_number = some ⟨oc_is_number, od_is_number, .func (PySem.W.fnOf "is_number" "is_number" (defArgs s_is_number) (defBody s_is_number) (defScope s_is_number) .none kV_is_number dc_is_number pm_is_number an_is_number cd_is_number ct_is_number), sl_is_number⟩)
    (c_is_number : PySem.W.codeIn K cd_is_number "is_number" = true)
    (k_is_number : PySem.W.keepIn K (.ref f_is_number) = true)
    (a_is_at_least : PySem.W.nsIn K mainGlobals "is_at_least" = some (some (.ref f_is_at_least)))
    (l_is_at_least : K.lookup f_is_at_least = some ⟨oc_is_at_least, od_is_at_least, .func (PySem.W.fnOf "is_at_least" "is_at_least" (defArgs s_is_at_least) (defBody s_is_at_least) (defScope s_is_at_least) .none kV_is_at_least dc_is_at_least pm_is_at_least an_is_at_least cd_is_at_least ct_is_at_least), sl_is_at_least⟩)
    (c_is_at_least : PySem.W.codeIn K cd_is_at_least "is_at_least" = true)
    (k_is_at_least : PySem.W.keepIn K (.ref f_is_at_least) = true)
    (a_is_whole : PySem.W.nsIn K mainGlobals "is_whole" = some (some (.ref f_is_whole)))
    (l_is_whole : K.lookup f_is_whole = some ⟨oc_is_whole, od_is_whole, .func (PySem.W.fnOf "is_whole" "is_whole" (defArgs s_is_whole) (defBody s_is_whole) (defScope s_is_whole) .none kV_is_whole dc_is_whole pm_is_whole an_is_whole cd_is_whole ct_is_whole), sl_is_whole⟩)
    (c_is_whole : PySem.W.codeIn K cd_is_whole "is_whole" = true)
    (k_is_whole : PySem.W.keepIn K (.ref f_is_whole) = true)
    (a_is_name : PySem.W.nsIn K mainGlobals "is_name" = some (some (.ref f_is_name)))
    (l_is_name : K.lookup f_is_name = some ⟨oc_is_name, od_is_name, .func (PySem.W.fnOf "is_name" "is_name" (defArgs s_is_name) (defBody s_is_name) (defScope s_is_name) .none kV_is_name dc_is_name pm_is_name an_is_name cd_is_name ct_is_name), sl_is_name⟩)
    (c_is_name : PySem.W.codeIn K cd_is_name "is_name" = true)
    (k_is_name : PySem.W.keepIn K (.ref f_is_name) = true)
    (a__is_made_of : PySem.W.nsIn K mainGlobals "_is_made_of" = some (some (.ref f__is_made_of)))
    (l__is_made_of : K.lookup f__is_made_of = some ⟨oc__is_made_of, od__is_made_of, .func (PySem.W.fnOf "_is_made_of" "_is_made_of" (defArgs s__is_made_of) (defBody s__is_made_of) (defScope s__is_made_of) .none kV__is_made_of dc__is_made_of pm__is_made_of an__is_made_of cd__is_made_of ct__is_made_of), sl__is_made_of⟩)
    (c__is_made_of : PySem.W.codeIn K cd__is_made_of "_is_made_of" = true)
    (k__is_made_of : PySem.W.keepIn K (.ref f__is_made_of) = true)
    (a__law_cell : PySem.W.nsIn K mainGlobals "_law_cell" = some (some (.ref f__law_cell)))
    (l__law_cell : K.lookup f__law_cell = some ⟨oc__law_cell, od__law_cell, .func (PySem.W.fnOf "_law_cell" "_law_cell" (defArgs s__law_cell) (defBody s__law_cell) (defScope s__law_cell) .none kV__law_cell dc__law_cell pm__law_cell an__law_cell cd__law_cell ct__law_cell), sl__law_cell⟩)
    (c__law_cell : PySem.W.codeIn K cd__law_cell "_law_cell" = true)
    (k__law_cell : PySem.W.keepIn K (.ref f__law_cell) = true)
    (a__law_bag : PySem.W.nsIn K mainGlobals "_law_bag" = some (some (.ref f__law_bag)))
    (l__law_bag : K.lookup f__law_bag = some ⟨oc__law_bag, od__law_bag, .func (PySem.W.fnOf "_law_bag" "_law_bag" (defArgs s__law_bag) (defBody s__law_bag) (defScope s__law_bag) .none kV__law_bag dc__law_bag pm__law_bag an__law_bag cd__law_bag ct__law_bag), sl__law_bag⟩)
    (c__law_bag : PySem.W.codeIn K cd__law_bag "_law_bag" = true)
    (k__law_bag : PySem.W.keepIn K (.ref f__law_bag) = true)
    (a__law_take : PySem.W.nsIn K mainGlobals "_law_take" = some (some (.ref f__law_take)))
    (l__law_take : K.lookup f__law_take = some ⟨oc__law_take, od__law_take, .func (PySem.W.fnOf "_law_take" "_law_take" (defArgs s__law_take) (defBody s__law_take) (defScope s__law_take) .none kV__law_take dc__law_take pm__law_take an__law_take cd__law_take ct__law_take), sl__law_take⟩)
    (c__law_take : PySem.W.codeIn K cd__law_take "_law_take" = true)
    (k__law_take : PySem.W.keepIn K (.ref f__law_take) = true)
    (a__law_number : PySem.W.nsIn K mainGlobals "_law_number" = some (some (.ref f__law_number)))
    (l__law_number : K.lookup f__law_number = some ⟨oc__law_number, od__law_number, .func (PySem.W.fnOf "_law_number" "_law_number" (defArgs s__law_number) (defBody s__law_number) (defScope s__law_number) .none kV__law_number dc__law_number pm__law_number an__law_number cd__law_number ct__law_number), sl__law_number⟩)
    (c__law_number : PySem.W.codeIn K cd__law_number "_law_number" = true)
    (k__law_number : PySem.W.keepIn K (.ref f__law_number) = true)
    (a__law_text : PySem.W.nsIn K mainGlobals "_law_text" = some (some (.ref f__law_text)))
    (l__law_text : K.lookup f__law_text = some ⟨oc__law_text, od__law_text, .func (PySem.W.fnOf "_law_text" "_law_text" (defArgs s__law_text) (defBody s__law_text) (defScope s__law_text) .none kV__law_text dc__law_text pm__law_text an__law_text cd__law_text ct__law_text), sl__law_text⟩)
    (c__law_text : PySem.W.codeIn K cd__law_text "_law_text" = true)
    (k__law_text : PySem.W.keepIn K (.ref f__law_text) = true)
    (a__law_is_name : PySem.W.nsIn K mainGlobals "_law_is_name" = some (some (.ref f__law_is_name)))
    (l__law_is_name : K.lookup f__law_is_name = some ⟨oc__law_is_name, od__law_is_name, .func (PySem.W.fnOf "_law_is_name" "_law_is_name" (defArgs s__law_is_name) (defBody s__law_is_name) (defScope s__law_is_name) .none kV__law_is_name dc__law_is_name pm__law_is_name an__law_is_name cd__law_is_name ct__law_is_name), sl__law_is_name⟩)
    (c__law_is_name : PySem.W.codeIn K cd__law_is_name "_law_is_name" = true)
    (k__law_is_name : PySem.W.keepIn K (.ref f__law_is_name) = true)
    (a__law_is_whole : PySem.W.nsIn K mainGlobals "_law_is_whole" = some (some (.ref f__law_is_whole)))
    (l__law_is_whole : K.lookup f__law_is_whole = some ⟨oc__law_is_whole, od__law_is_whole, .func (PySem.W.fnOf "_law_is_whole" "_law_is_whole" (defArgs s__law_is_whole) (defBody s__law_is_whole) (defScope s__law_is_whole) .none kV__law_is_whole dc__law_is_whole pm__law_is_whole an__law_is_whole cd__law_is_whole ct__law_is_whole), sl__law_is_whole⟩)
    (c__law_is_whole : PySem.W.codeIn K cd__law_is_whole "_law_is_whole" = true)
    (k__law_is_whole : PySem.W.keepIn K (.ref f__law_is_whole) = true)
    (a__law_things : PySem.W.nsIn K mainGlobals "_law_things" = some (some (.ref f__law_things)))
    (l__law_things : K.lookup f__law_things = some ⟨oc__law_things, od__law_things, .func (PySem.W.fnOf "_law_things" "_law_things" (defArgs s__law_things) (defBody s__law_things) (defScope s__law_things) .none kV__law_things dc__law_things pm__law_things an__law_things cd__law_things ct__law_things), sl__law_things⟩)
    (c__law_things : PySem.W.codeIn K cd__law_things "_law_things" = true)
    (k__law_things : PySem.W.keepIn K (.ref f__law_things) = true)
    (a_law : PySem.W.nsIn K mainGlobals "law" = some (some (.ref f_law)))
    (l_law : K.lookup f_law = some ⟨oc_law, od_law, .func (PySem.W.fnOf "law" "law" (defArgs s_law) (defBody s_law) (defScope s_law) .none kV_law dc_law pm_law an_law cd_law ct_law), sl_law⟩)
    (c_law : PySem.W.codeIn K cd_law "law" = true)
    (k_law : PySem.W.keepIn K (.ref f_law) = true)
    (z_all : PySem.W.nsIn K mainGlobals "all" = some none)
    (z_bool : PySem.W.nsIn K mainGlobals "bool" = some none)
    (z_int : PySem.W.nsIn K mainGlobals "int" = some none)
    (z_isinstance : PySem.W.nsIn K mainGlobals "isinstance" = some none)
    (z_len : PySem.W.nsIn K mainGlobals "len" = some none)
    (z_max : PySem.W.nsIn K mainGlobals "max" = some none)
    (z_min : PySem.W.nsIn K mainGlobals "min" = some none)
    (z_range : PySem.W.nsIn K mainGlobals "range" = some none)
    (z_repr : PySem.W.nsIn K mainGlobals "repr" = some none)
    (z_str : PySem.W.nsIn K mainGlobals "str" = some none)
    (z_sum : PySem.W.nsIn K mainGlobals "sum" = some none)
    (v__LETTERS : PySem.W.nsIn K mainGlobals "_LETTERS" = some (some (.str "abcdefghijklmnopqrstuvwxyz" t__LETTERS)))
    (v__NAME_SIGNS : PySem.W.nsIn K mainGlobals "_NAME_SIGNS" = some (some (.int 8 t__NAME_SIGNS)))
    (u_WakeError : PySem.W.nsIn K mainGlobals "WakeError" = some (some (.ref U_WakeError)))
    (ur_WakeError : PySem.W.readsIn K U_WakeError (.type "type") = true)
    (ug_WakeError : PySem.W.specialIn K (.ref U_WakeError) "__getattribute__" = some (some (.builtin "type.__getattribute__")))
    (ui_WakeError : PySem.W.findCls K (.ref U_WakeError) (.type "type") "__init__" = some (.val (.builtin "ValueError.__init__")))
    (hn : PySem.W.specialIn K (.builtin "object.__class__") "__get__" = some (some (.builtin "getset_descriptor.__get__")))
    (htk : PySem.W.takesIn K (.builtin "object.__class__") = some true)
    (e_NoName : PySem.W.nsIn K mainGlobals "NoName" = some (some (.ref C_NoName)))
    (ex_NoName : K.lookup C_NoName = some (excClassObj nm_NoName q_NoName C_NoName N_NoName bs_NoName [.ref U_WakeError, .type "ValueError", .type "Exception", .type "BaseException", .type "object"] true sn_NoName sub_NoName ab_NoName col_NoName dd_NoName m0_NoName m1_NoName m2_NoName m3_NoName m5_NoName "ValueError.__new__"))
    (ei_NoName : PySem.W.findIn K (.ref C_NoName) "__init__" = some (some (.ref f_NoName_init)))
    (l_NoName_init : K.lookup f_NoName_init = some ⟨oc_NoName_init, od_NoName_init, .func (PySem.W.fnOf "__init__" "NoName.__init__" (defArgs s_NoName_init) (defBody s_NoName_init) (defScope s_NoName_init) .none kV_NoName_init dc_NoName_init pm_NoName_init an_NoName_init cd_NoName_init ct_NoName_init), sl_NoName_init⟩)
    (c_NoName_init : PySem.W.codeIn K cd_NoName_init "NoName.__init__" = true)
    (k_NoName_init : PySem.W.keepIn K (.ref f_NoName_init) = true)
    (et_NoName : PySem.W.typeIn K (.ref f_NoName_init) = some (.type "function"))
    (esa_NoName : PySem.W.findIn K (.ref C_NoName) "__setattr__" = some (some (.builtin "object.__setattr__")))
    (ega_NoName : PySem.W.findIn K (.ref C_NoName) "__getattribute__" = some (some (.builtin "BaseException.__getattribute__")))
    (egt_NoName : PySem.W.findIn K (.ref C_NoName) "__getattr__" = some none)
    (enf_NoName : PySem.W.findIn K (.ref C_NoName) "found" = some none)
    (ecl_NoName : PySem.W.findIn K (.ref C_NoName) "__class__" = some (some (.builtin "object.__class__")))
    (esb_NoName : PySem.W.subIn K (.ref C_NoName) (.type "BaseException") = some true)
    (ety_NoName : PySem.W.typeIn K (.ref C_NoName) = some (.type "type"))
    (ekp_NoName : PySem.W.keepIn K (.ref C_NoName) = true)
    (eic_NoName : PySem.W.isClsIn K C_NoName = true)
    (emr_NoName : PySem.W.mroIn K C_NoName (.type "object") = some true)
    (ek1_NoName : PySem.W.subIn K (.ref C_NoName) (.type "int") = some false)
    (ek2_NoName : PySem.W.subIn K (.ref C_NoName) (.type "bool") = some false)
    (ek3_NoName : PySem.W.subIn K (.ref C_NoName) (.type "str") = some false)
    (ek4_NoName : PySem.W.subIn K (.ref C_NoName) (.type "list") = some false)
    (ek5_NoName : PySem.W.subIn K (.ref C_NoName) (.type "tuple") = some false)
    (ek6_NoName : PySem.W.subIn K (.ref C_NoName) (.type "dict") = some false)
    : ∃ fd : FuncData, (∀ (s : Shared) (v : Value), BindsTo s fd ⟨[v], []⟩ [("_law_script", v)]) ∧ ∀ base : Heap, K.In base → base.Ns mainGlobals mg → FnG l.prog w K mg base CX0 5 fa fd ["_law_script"] (spLaw K) := by
  have e := hfa.symm.trans (PySem.W.mg_of X G a_law)
  cases e
  let A : Ad := ⟨f_NoName_init, f_is_truth, f_is_number, f_is_at_least, f_is_whole, f_is_name, f__is_made_of, f__law_cell, f__law_bag, f__law_take, f__law_number, f__law_text, f__law_is_name, f__law_is_whole, f__law_things, fa, U_WakeError, C_NoName⟩
  have T : Txt K mg A := by
    constructor
    · exact PySem.W.mg_none_of X G z_all
    · exact PySem.W.mg_none_of X G z_bool
    · exact PySem.W.mg_none_of X G z_int
    · exact PySem.W.mg_none_of X G z_isinstance
    · exact PySem.W.mg_none_of X G z_len
    · exact PySem.W.mg_none_of X G z_max
    · exact PySem.W.mg_none_of X G z_min
    · exact PySem.W.mg_none_of X G z_range
    · exact PySem.W.mg_none_of X G z_repr
    · exact PySem.W.mg_none_of X G z_str
    · exact PySem.W.mg_none_of X G z_sum
    · exact ⟨_, PySem.W.mg_of X G v__LETTERS, _, rfl⟩
    · exact ⟨_, PySem.W.mg_of X G v__NAME_SIGNS, _, rfl⟩
    · exact ⟨⟨_, fun_mk (st := s_is_truth) l_is_truth c_is_truth k_is_truth⟩, PySem.W.mg_of X G a_is_truth, k_is_truth⟩
    · exact ⟨⟨_, fun_mk (st := s_is_number) l_is_number c_is_number k_is_number⟩, PySem.W.mg_of X G a_is_number, k_is_number⟩
    · exact ⟨⟨_, fun_mk (st := s_is_at_least) l_is_at_least c_is_at_least k_is_at_least⟩, PySem.W.mg_of X G a_is_at_least, k_is_at_least⟩
    · exact ⟨⟨_, fun_mk (st := s_is_whole) l_is_whole c_is_whole k_is_whole⟩, PySem.W.mg_of X G a_is_whole, k_is_whole⟩
    · exact ⟨⟨_, fun_mk (st := s_is_name) l_is_name c_is_name k_is_name⟩, PySem.W.mg_of X G a_is_name, k_is_name⟩
    · exact ⟨⟨_, fun_mk (st := s__is_made_of) l__is_made_of c__is_made_of k__is_made_of⟩, PySem.W.mg_of X G a__is_made_of, k__is_made_of⟩
    · exact ⟨⟨_, fun_mk (st := s__law_cell) l__law_cell c__law_cell k__law_cell⟩, PySem.W.mg_of X G a__law_cell, k__law_cell⟩
    · exact ⟨⟨_, fun_mk (st := s__law_bag) l__law_bag c__law_bag k__law_bag⟩, PySem.W.mg_of X G a__law_bag, k__law_bag⟩
    · exact ⟨⟨_, fun_mk (st := s__law_take) l__law_take c__law_take k__law_take⟩, PySem.W.mg_of X G a__law_take, k__law_take⟩
    · exact ⟨⟨_, fun_mk (st := s__law_number) l__law_number c__law_number k__law_number⟩, PySem.W.mg_of X G a__law_number, k__law_number⟩
    · exact ⟨⟨_, fun_mk (st := s__law_text) l__law_text c__law_text k__law_text⟩, PySem.W.mg_of X G a__law_text, k__law_text⟩
    · exact ⟨⟨_, fun_mk (st := s__law_is_name) l__law_is_name c__law_is_name k__law_is_name⟩, PySem.W.mg_of X G a__law_is_name, k__law_is_name⟩
    · exact ⟨⟨_, fun_mk (st := s__law_is_whole) l__law_is_whole c__law_is_whole k__law_is_whole⟩, PySem.W.mg_of X G a__law_is_whole, k__law_is_whole⟩
    · exact ⟨⟨_, fun_mk (st := s__law_things) l__law_things c__law_things k__law_things⟩, PySem.W.mg_of X G a__law_things, k__law_things⟩
    · exact ⟨⟨_, fun_mk (st := s_law) l_law c_law k_law⟩, PySem.W.mg_of X G a_law, k_law⟩
    · exact PySem.W.mg_of X G u_WakeError
    · exact ⟨_, ur_WakeError, ug_WakeError, ui_WakeError⟩
    · exact { mg := PySem.W.mg_of X G e_NoName, oex := ⟨⟨nm_NoName, q_NoName, N_NoName, bs_NoName, _, sn_NoName, sub_NoName, ab_NoName, col_NoName, dd_NoName, m0_NoName, m1_NoName, m2_NoName, m3_NoName, m5_NoName, ex_NoName, rfl⟩, esa_NoName, esb_NoName, ety_NoName, ekp_NoName⟩, ini := ei_NoName, ty := et_NoName, nof := enf_NoName, ei := ⟨eic_NoName, ega_NoName, egt_NoName, esb_NoName, ecl_NoName, hn, htk, emr_NoName, Dz.kit_no (by decide +kernel) ek1_NoName, Dz.kit_no (by decide +kernel) ek2_NoName, Dz.kit_no (by decide +kernel) ek3_NoName, Dz.kit_no (by decide +kernel) ek4_NoName, Dz.kit_no (by decide +kernel) ek5_NoName, Dz.kit_no (by decide +kernel) ek6_NoName⟩ }
    · exact ⟨_, fun_mk (st := s_NoName_init) l_NoName_init c_NoName_init k_NoName_init⟩
  refine ⟨PySem.W.fnOf "law" "law" (defArgs s_law) (defBody s_law) (defScope s_law) .none kV_law dc_law pm_law an_law cd_law ct_law, fun s v => .of_eq rfl, fun base _ _ => ?_⟩
  have G__law_cell : Kp l.prog w K mg base CX0 1 A.f__law_cell ["_law_script", "_law_k"] [] (spCel K) := ok__law_cell T 
  have G__law_bag : Kp l.prog w K mg base CX0 1 A.f__law_bag ["_law_cell_here"] [] (spBag) := ok__law_bag T 
  have G__law_take : Kp l.prog w K mg base CX0 1 A.f__law_take ["_law_bag_here", "_law_below"] [] (spTake) := ok__law_take T 
  have G_NoName_init : Kp l.prog w K mg base CX0 1 A.f_NoName_init ["self", "found"] [] (spErr "found" A.C_NoName) := ok_NoName_init T 
  have G_is_truth : Kp l.prog w K mg base CX0 1 A.f_is_truth ["thing"] [] (spIsB K) := ok_is_truth T 
  have G_is_number : Kp l.prog w K mg base CX0 2 A.f_is_number ["thing"] [] (spIs0 K numb) := ok_is_number T G_is_truth
  have G_is_at_least : Kp l.prog w K mg base CX0 3 A.f_is_at_least ["thing", "low"] [] (spIs2 K atl) := ok_is_at_least T G_is_number
  have G_is_whole : Kp l.prog w K mg base CX0 4 A.f_is_whole ["thing", "low", "high"] [] (spIs3 K whl) := ok_is_whole T G_is_at_least
  have G__is_made_of : Kp l.prog w K mg base CX0 1 A.f__is_made_of ["text", "signs"] [] (spMade) := ok__is_made_of T 
  have G_is_name : Kp l.prog w K mg base CX0 2 A.f_is_name ["thing"] [] (spIs K nam) := ok_is_name T G__is_made_of
  have G__law_number : Kp l.prog w K mg base CX0 2 A.f__law_number ["_law_bag_here"] [] (spNum) := ok__law_number T G__law_take
  have G__law_is_whole : Kp l.prog w K mg base CX0 1 A.f__law_is_whole ["_law_thing", "_law_low", "_law_high"] [] (spIs3 K whl) := ok__law_is_whole T 
  have G__law_text : Kp l.prog w K mg base CX0 2 A.f__law_text ["_law_bag_here"] [] (spTxt) := ok__law_text T G__law_take
  have G__law_is_name : Kp l.prog w K mg base CX0 1 A.f__law_is_name ["_law_thing"] [] (spIs K nam) := ok__law_is_name T 
  have G__law_things : Kp l.prog w K mg base CX0 4 A.f__law_things ["_law_bag_here"] [] (spThings K) := ok__law_things T G__law_take G__law_number G__law_text G_NoName_init
  exact ok_law T G__law_cell G__law_bag G__law_take G__law_number G__law_things G_is_whole G_is_name G__law_is_whole G__law_is_name (fun_mk (st := s_law) l_law c_law k_law)
end K01
open PySem PySem.W PyProof.Rows
set_option maxRecDepth 100000 in
set_option maxHeartbeats 0 in
theorem PySem.Challenge.cw_drowsetree_k01_wholes_and_names_holds : PySem.Challenge.rw_drowsetree_k01_wholes_and_names.Holds := by
  w_on; o_law; k_head; (case hw => w_witness2)
  k_fill
  refine Dz.walkK (l := PySem.Challenge.rw_drowsetree_k01_wholes_and_names) (n := 63) (k := 5) (x := "_law_script") (CX := L2.CX0) (sp := K01.spLaw) rfl (by decide) rfl ⟨rfl, by decide, by decide⟩ (fun w h Y => PySem.W.kIn_of Y) ?F (fun _ _ a ns hl _ hS => ⟨a, ns, rfl, hS, hl, fun _ => rfl⟩) fun _ _ _ _ z => z
  case F =>
    intro w mg fa h KX G hmg
    refine' K01.all_mk KX G hmg ?a_is_truth ?l_is_truth ?c_is_truth ?k_is_truth ?a_is_number ?l_is_number ?c_is_number ?k_is_number ?a_is_at_least ?l_is_at_least ?c_is_at_least ?k_is_at_least ?a_is_whole ?l_is_whole ?c_is_whole ?k_is_whole ?a_is_name ?l_is_name ?c_is_name ?k_is_name ?a__is_made_of ?l__is_made_of ?c__is_made_of ?k__is_made_of ?a__law_cell ?l__law_cell ?c__law_cell ?k__law_cell ?a__law_bag ?l__law_bag ?c__law_bag ?k__law_bag ?a__law_take ?l__law_take ?c__law_take ?k__law_take ?a__law_number ?l__law_number ?c__law_number ?k__law_number ?a__law_text ?l__law_text ?c__law_text ?k__law_text ?a__law_is_name ?l__law_is_name ?c__law_is_name ?k__law_is_name ?a__law_is_whole ?l__law_is_whole ?c__law_is_whole ?k__law_is_whole ?a__law_things ?l__law_things ?c__law_things ?k__law_things ?a_law ?l_law ?c_law ?k_law ?z_all ?z_bool ?z_int ?z_isinstance ?z_len ?z_max ?z_min ?z_range ?z_repr ?z_str ?z_sum ?v__LETTERS ?v__NAME_SIGNS ?u_WakeError ?ur_WakeError ?ug_WakeError ?ui_WakeError ?hn ?htk ?e_NoName ?ex_NoName ?ei_NoName ?l_NoName_init ?c_NoName_init ?k_NoName_init ?et_NoName ?esa_NoName ?ega_NoName ?egt_NoName ?enf_NoName ?ecl_NoName ?esb_NoName ?ety_NoName ?ekp_NoName ?eic_NoName ?emr_NoName ?ek1_NoName ?ek2_NoName ?ek3_NoName ?ek4_NoName ?ek5_NoName ?ek6_NoName
    (case a_is_truth => k_is)
    (case l_is_truth => k_is)
    (case c_is_truth => k_is)
    (case k_is_truth => k_is)
    (case a_is_number => k_is)
    (case l_is_number => k_is)
    (case c_is_number => k_is)
    (case k_is_number => k_is)
    (case a_is_at_least => k_is)
    (case l_is_at_least => k_is)
    (case c_is_at_least => k_is)
    (case k_is_at_least => k_is)
    (case a_is_whole => k_is)
    (case l_is_whole => k_is)
    (case c_is_whole => k_is)
    (case k_is_whole => k_is)
    (case a_is_name => k_is)
    (case l_is_name => k_is)
    (case c_is_name => k_is)
    (case k_is_name => k_is)
    (case a__is_made_of => k_is)
    (case l__is_made_of => k_is)
    (case c__is_made_of => k_is)
    (case k__is_made_of => k_is)
    (case a__law_cell => k_is)
    (case l__law_cell => k_is)
    (case c__law_cell => k_is)
    (case k__law_cell => k_is)
    (case a__law_bag => k_is)
    (case l__law_bag => k_is)
    (case c__law_bag => k_is)
    (case k__law_bag => k_is)
    (case a__law_take => k_is)
    (case l__law_take => k_is)
    (case c__law_take => k_is)
    (case k__law_take => k_is)
    (case a__law_number => k_is)
    (case l__law_number => k_is)
    (case c__law_number => k_is)
    (case k__law_number => k_is)
    (case a__law_text => k_is)
    (case l__law_text => k_is)
    (case c__law_text => k_is)
    (case k__law_text => k_is)
    (case a__law_is_name => k_is)
    (case l__law_is_name => k_is)
    (case c__law_is_name => k_is)
    (case k__law_is_name => k_is)
    (case a__law_is_whole => k_is)
    (case l__law_is_whole => k_is)
    (case c__law_is_whole => k_is)
    (case k__law_is_whole => k_is)
    (case a__law_things => k_is)
    (case l__law_things => k_is)
    (case c__law_things => k_is)
    (case k__law_things => k_is)
    (case a_law => k_is)
    (case l_law => k_is)
    (case c_law => k_is)
    (case k_law => k_is)
    (case z_all => k_is)
    (case z_bool => k_is)
    (case z_int => k_is)
    (case z_isinstance => k_is)
    (case z_len => k_is)
    (case z_max => k_is)
    (case z_min => k_is)
    (case z_range => k_is)
    (case z_repr => k_is)
    (case z_str => k_is)
    (case z_sum => k_is)
    (case v__LETTERS => k_is)
    (case v__NAME_SIGNS => k_is)
    (case u_WakeError => k_is)
    (case ur_WakeError => k_is)
    (case ug_WakeError => k_is)
    (case ui_WakeError => k_is)
    (case hn => k_is)
    (case htk => k_is)
    (case e_NoName => k_is)
    (case ex_NoName => k_is)
    (case ei_NoName => k_is)
    (case l_NoName_init => k_is)
    (case c_NoName_init => k_is)
    (case k_NoName_init => k_is)
    (case et_NoName => k_is)
    (case esa_NoName => k_is)
    (case ega_NoName => k_is)
    (case egt_NoName => k_is)
    (case enf_NoName => k_is)
    (case ecl_NoName => k_is)
    (case esb_NoName => k_is)
    (case ety_NoName => k_is)
    (case ekp_NoName => k_is)
    (case eic_NoName => k_is)
    (case emr_NoName => k_is)
    (case ek1_NoName => k_is)
    (case ek2_NoName => k_is)
    (case ek3_NoName => k_is)
    (case ek4_NoName => k_is)
    (case ek5_NoName => k_is)
    (case ek6_NoName => k_is)
#print axioms PySem.Challenge.cw_drowsetree_k01_wholes_and_names_holds
