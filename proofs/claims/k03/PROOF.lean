import PyProof.Rows.All
import Wide.All
import OpenK.AllK
import Wide.FinOn
import HandS.ForMost
import HandS.Wide
import HandS.EndBits
import HandS.IsInst
import HandS.Style
import HandS.Defaults
import PyProof.ReprRoads
import HandS.ExcInit
import HandS.ClsMeth
import KE.KExcIs
import HandS.Walk
import HandS.StrMore
import HandS.Replace
import PyProof.Rows.StrFit
import HandS.ExcField
import HandS.TryMany
import HandS.WordsExc
import HandS.MakeKwOnly
import HandS.OwnEq
import KE.RegKCallOwn
import HandS.FStr
import HandS.TupAny
import HandS.DictComp
import HandS.ListItems
import HandS.Deep
import HandS.TupMul
import HandS.Star
import HandS.NoneIn
import KE.KTryMore
import PyProof.Rows.ReprOcc
import HandS.DictTup
import HandS.TupLen
import PySem.Challenge.RW_drowsetree_k03_rows_there_and_back
set_option Elab.async false
set_option linter.all false
set_option maxRecDepth 100000
set_option maxHeartbeats 2000000
/-! Calls where nothing is being shown by repr: every def's promise under that. -/
namespace Dz
open PySem PySem.Spec PyProof.Rows L2

/-- no repr is under way -/
def Calm (A : Around) : Prop := A.guards = some []

structure FnG (P : Program) (w : World) (K : PySem.W.Frag) (mg : Str → Option Value) (base : Heap) (CX : CXT) (k : Nat) (f : Addr) (fd : FuncData) (ps : List Str) (sp : Sp) : Prop where
  ln : ∀ vs H Q E, sp vs H Q E → vs.length = ps.length
  go : ∀ (A : Around) (out : List Env) (s : Shared) (H : Hp) (ar : Args) (us : List Value) (vs : List V) (Q : VK) (E : XK),
    Calm A → Room k A → Env0 P w K mg base A out s H → BindsTo s fd ar (ps.zip us) → Vals vs us → sp vs H Q E →
      codeAny (model P w) A (.call (.ref f) ar) (CR CX out P w H s Q E) s
theorem FnG.more {P : Program} {w : World} {K : PySem.W.Frag} {mg : Str → Option Value} {base : Heap} {CX : CXT} {j k : Nat} {f : Addr} {fd : FuncData} {ps : List Str} {sp : Sp}
    (F : FnG P w K mg base CX j f fd ps sp) (h : j ≤ k) : FnG P w K mg base CX k f fd ps sp :=
  ⟨F.ln, fun A out s H ar us vs Q E g r => F.go A out s H ar us vs Q E g (r.mono h)⟩
theorem FnG.as {P : Program} {w : World} {K : PySem.W.Frag} {mg : Str → Option Value} {base : Heap} {CX : CXT} {k : Nat} {f : Addr} {fd : FuncData} {ps : List Str} {sp sp' : Sp}
    (F : FnG P w K mg base CX k f fd ps sp) (h : ∀ vs H Q E, sp' vs H Q E → sp vs H Q E) : FnG P w K mg base CX k f fd ps sp' :=
  ⟨fun vs H Q E q => F.ln vs H Q E (h _ _ _ _ q), fun A out s H ar us vs Q E g r e b v q => F.go A out s H ar us vs Q E g r e b v (h _ _ _ _ q)⟩

/-- a def that stands in the written part, by its body's walk where no repr is under way -/
theorem fnG_at {CX : CXT} {P : Program} {w : World} {K : PySem.W.Frag} {mg : Str → Option Value} {base : Heap} {k : Nat} {f : Addr} {x qual : Str} {params : Arguments} {body : List Stmt} {sc : Scope} {dV kV doc pm cdv ct oc : Value} {an od : Option Addr}
    {osl : Array (Option Value)} {N ps : List Str} {sp : Sp} (lk : K.lookup f = some ⟨oc, od, .func (PySem.W.fnOf x qual params body sc dV kV doc pm an cdv ct), osl⟩) (hcd : PySem.W.codeIn K cdv qual = true) (S : FnScope N ps sc)
    (len : ∀ vs H Q E, sp vs H Q E → vs.length = ps.length)
    (walk : ∀ (A : Around) (outer : List Env) (s : Shared) (H : Hp) (vs : List V) (Q : VK) (E : XK), Calm A → Room k (A.deeper (envOfC qual sc s.heap.objs.size f cdv)) → sp vs H Q E →
      ∃ t, PSs (cxOf CX P w K mg base N qual sc f cdv A outer s H E) body t ∧ t { nx := fun _ H' => Q .non H', rt := Q } (start N vs) H) :
    FnG P w K mg base CX (k + 1) f (PySem.W.fnOf x qual params body sc dV kV doc pm an cdv ct) ps sp := by
  constructor
  · exact len
  intro A outer s H ar us vs Q E hg hr e0 hb rv hsp
  have ll := len _ _ _ _ hsp
  have inK : K.In s.heap := e0.mod.kin.keeps fun b o z => (e0.bs b o z).1
  have nolim : s.heap.NoLimit := e0.mod.nolimit.keeps fun b o z => (e0.bs b o z).1
  have kinds : ∀ y ∈ ps.zip us, sc.names.lookup y.1 = some .local ∨ (sc.names.lookup y.1 = some .cell ∧ ((cellsFrom (s.heap.objs.size + 1) sc.names []).lookup y.1).isSome = true) := by
    rintro ⟨n, v⟩ hy
    have hn := (List.of_mem_zip hy).1
    cases S.par n hn with
    | inl q => exact Or.inl q
    | inr q => exact Or.inr ⟨q, PySem.W.cellsFrom_some _ _ _ (Or.inl q)⟩
  refine codeAny_call_function hr.depth (inK _ _ lk) rfl S.co S.gen rfl (PySem.W.codeRec_of inK hcd) (hb _ _ _ _ ?_)
  refine wpAny_newFunctionEnv_cells S.kind kinds fun env he s1 xx => ?_
  subst he
  refine ⟨nolim.keeps xx.toInCall.keep, codeAny_func ?_⟩
  obtain ⟨t, ht, hq⟩ := walk A outer s H vs Q E hg (hr.deeper _) hsp
  have I0 := inv_start (CX := CX) (N := N) (E := E) (cd := cdv) (qual := qual) (f := f) S hr.hd e0 ll rv xx
  refine wpAny_mono (ht.run [] s1 (start N vs) H _ I0 hq) (fun fl s' hs => ?_) fun e s' hs => hs
  cases fl with
  | brk => exact hs.elim fun _ z => z.elim fun _ z => False.elim z.2
  | cont => exact hs.elim fun _ z => z.elim fun _ z => False.elim z.2
  | next =>
    obtain ⟨σ', H', J, q⟩ := hs
    exact ⟨V.non, H', J.os, J.bare, J.base, J.hok, rfl, q⟩
  | ret u =>
    obtain ⟨v, σ', H', J, r', q⟩ := hs
    exact ⟨v, H', J.os, J.bare, J.base, J.hok, r', q⟩
/-- a def of the text -/
theorem fnG_of {CX : CXT} {P : Program} {w : World} {K : PySem.W.Frag} {mg : Str → Option Value} {base : Heap} {x qual : Str} {st : Stmt} {f : Addr} {fd : FuncData} {N ps : List Str} {k : Nat} {sp : Sp}
    (F : Fun K x qual st f fd) (S : FnScope N ps (defScope st)) (len : ∀ vs H Q E, sp vs H Q E → vs.length = ps.length)
    (walk : ∀ (cdv : Value) (A : Around) (outer : List Env) (s : Shared) (H : Hp) (vs : List V) (Q : VK) (E : XK), Calm A → Room k (A.deeper (envOfC qual (defScope st) s.heap.objs.size f cdv)) → sp vs H Q E →
      ∃ t, PSs (cxOf CX P w K mg base N qual (defScope st) f cdv A outer s H E) (defBody st) t ∧ t { nx := fun _ H' => Q .non H', rt := Q } (start N vs) H) :
    FnG P w K mg base CX (k + 1) f fd ps sp := by
  obtain ⟨oc, od, kV, doc, pm, an, cdv, ct, osl, rfl, lk, hcd⟩ := F.ex
  exact fnG_at lk hcd S len fun A outer s H vs Q E hg hr hsp => walk cdv A outer s H vs Q E hg hr hsp

/-- the same where nothing is raised -/
theorem fnG_nx {P : Program} {w : World} {K : PySem.W.Frag} {mg : Str → Option Value} {base : Heap} {x qual : Str} {st : Stmt} {f : Addr} {fd : FuncData} {N ps : List Str} {k : Nat} {sp : Sp}
    (F : Fun K x qual st f fd) (S : FnScope N ps (defScope st)) (len : ∀ vs H Q E, sp vs H Q E → vs.length = ps.length)
    (walk : ∀ (cdv : Value) (A : Around) (outer : List Env) (s : Shared) (H : Hp) (vs : List V) (Q : VK) (E : XK), Calm A → Room k (A.deeper (envOfC qual (defScope st) s.heap.objs.size f cdv)) → sp vs H Q E →
      ∃ t, PSs (cxOf CX0 P w K mg base N qual (defScope st) f cdv A outer s H E).nox (defBody st) t ∧ t { nx := fun _ H' => Q .non H', rt := Q } (start N vs) H) :
    FnG P w K mg base CX0 (k + 1) f fd ps sp := fnG_of F S len fun cdv A outer s H vs Q E hg hr hsp => by
  obtain ⟨t, h, q⟩ := walk cdv A outer s H vs Q E hg hr hsp
  exact ⟨t, h.nox, q⟩

section
variable {X : Cx} {CX : CXT} {k : Nat} {f C : Addr} {fd : FuncData} {ps : List Str} {sp : Sp} {dvs : List V} {ds : List Value} {E : XK} {x m : Str} {p pos apos : Pos} {e o : Expr} {es : List Expr} {ta : TE} {t : TA}
  {r : List V → Hp → VK → Prop}

/-- a def as a value that is called -/
theorem callR_fn (F : FnG X.prog X.w X.K X.mg X.base CX k f fd ps sp) (hg : Calm X.A) (hr : Room k X.A) (hb : Binds X.K fd ps ds) (hd : Vals dvs ds) (hx : Passes CX X E) :
    CallR X (.ref f) (fun vs H Q => sp (vs ++ dvs) H Q E) := by
  intro pins s σ H vs us Q I rv h
  have r2 : Vals (vs ++ dvs) (us ++ ds) := rv.append hd
  have hl : (us ++ ds).length = ps.length := r2.length.symm.trans (F.ln _ _ _ _ h)
  refine wpAny_call (codeAny_mono (F.go X.A X.stack s H ⟨us, []⟩ (us ++ ds) (vs ++ dvs) Q E hg hr I.env0 (hb s us I.kIn hl) r2 h) ?_)
  intro rs s' hq
  match rs, hq with
  | .error e, hq => exact hx pins σ H s e s' I hq
  | .ok (.ret u), hq => exact I.after hq
/-- f(e, ..) of a name of the module, whatever stands there -/
theorem pe_fn (hc : CallR X (.ref f) r) (hl : Gl X x) (hm : X.mg x = some (.ref f)) (hk : PySem.W.keepIn X.K (.ref f) = true) (ha : PA X (e :: es) t) (hdb : (x == ("__debug__" : Str)) = false := by decide)
    (he : starEach (e :: es) X.env = (false, eval e X.env) :: starEach es X.env := by rfl) (hpl : (backTo pos (starEach es X.env)).any (·.1) = false := by rfl) : PE X (.Call (.Name x p) (e :: es) [] pos) (tCB r t) := by
  constructor
  intro pins s σ H Q I h
  refine wpAny_Call_Name_kw (ld_glob I hl hm ?_ hdb)
  refine PySem.W.callWith_K (h₀ := X.base) I.ok.mod.kin hk (thn (ha.run pos pins s σ H _ I h) ?_) he hpl
  rintro us s1 ⟨vs, H1, I1, rv, q⟩
  exact ⟨I1.kIn, hc pins s1 σ H1 vs us Q I1 rv q⟩
theorem pe_fn0 (hc : CallR X (.ref f) r) (hl : Gl X x) (hm : X.mg x = some (.ref f)) (hk : PySem.W.keepIn X.K (.ref f) = true) (hdb : (x == ("__debug__" : Str)) = false := by decide) : PE X (.Call (.Name x p) [] [] pos) (tCB r tNil) := by
  constructor
  intro pins s σ H Q I h
  refine wpAny_Call_Name_kw (ld_glob I hl hm ?_ hdb)
  exact PySem.W.callWith_K0 I.kIn hk (hc pins s σ H [] [] Q I .nil h)
/-- o.m(e, ..), o an instance of the class at C -/
def tMth (C : Addr) (m : Str) (r : List V → Hp → VK → Prop) (ta : TE) (t : TA) : TE := fun σ H Q => ta σ H fun x H1 => ∃ a dx fs, x = .ref a ∧ H1 a = some (.ins C dx fs) ∧ fs.lookup m = none ∧ t σ H1 fun vs H2 => r (x :: vs) H2 Q
theorem pe_mth {pl : Sem Bool} (he : PE X o ta) (c : Cls X.K C) (hm : Meth X.K C m f) (hc : CallR X (.ref f) r) (ha : PA X (e :: es) t)
    (hst : starEach (e :: es) X.env = (false, eval e X.env) :: starEach es X.env := by rfl) (hpl : (backTo pos (starEach es X.env)).any (·.1) = false := by rfl)
    (ht : eval (.Call (.Attribute o m apos) (e :: es) [] pos) X.env = (do
      let ov ← eval o X.env
      standAt apos.atName
      let (f, first) ← holding [ov] (getMethod ov m pl)
      callWith pos f first (backTo pos (starEach (e :: es) X.env)) (backToKw pos (keywordEach [] X.env))) := by rfl) :
    PE X (.Call (.Attribute o m apos) (e :: es) [] pos) (tMth C m r ta t) := by
  constructor
  intro pins s σ H Q I h
  refine PySem.W.methodCall_KW (pl := pl) (thn (he.run pins s σ H _ I h) ?_) ht
  rintro u s1 ⟨y, H1, I1, ry, a, dx, fs, rfl, ea, l, q⟩
  cases (show u = Value.ref a from ry)
  refine getmeth_ok I1 ea c hm l ?_
  refine PySem.W.callWith_K (first := [.ref a]) (h₀ := X.base) I.ok.mod.kin hm.kp (thn (ha.run pos pins s1 σ H1 _ I1 q) ?_) hst hpl
  rintro us s2 ⟨vs, H2, I2, rv, q2⟩
  exact ⟨I2.kIn, hc pins s2 σ H2 (.ref a :: vs) (.ref a :: us) Q I2 (.cons rfl rv) q2⟩
theorem pe_mth0 {pl : Sem Bool} (he : PE X o ta) (c : Cls X.K C) (hm : Meth X.K C m f) (hc : CallR X (.ref f) r)
    (ht : eval (.Call (.Attribute o m apos) [] [] pos) X.env = (do
      let ov ← eval o X.env
      standAt apos.atName
      let (f, first) ← holding [ov] (getMethod ov m pl)
      callWith pos f first (backTo pos (starEach [] X.env)) (backToKw pos (keywordEach [] X.env))) := by rfl) :
    PE X (.Call (.Attribute o m apos) [] [] pos) (tMth C m r ta tNil) := by
  constructor
  intro pins s σ H Q I h
  refine PySem.W.methodCall_KW (pl := pl) (thn (he.run pins s σ H _ I h) ?_) ht
  rintro u s1 ⟨y, H1, I1, ry, a, dx, fs, rfl, ea, l, q⟩
  cases (show u = Value.ref a from ry)
  refine getmeth_ok I1 ea c hm l ?_
  exact PySem.W.callWith_K0 (first := [.ref a]) I1.kIn hm.kp (hc pins s1 σ H1 [.ref a] [.ref a] Q I1 (.cons rfl .nil) q)
end

/-! ### the law's call -/
theorem enterG {P : Program} {w : World} {K : PySem.W.Frag} {mg mb : Str → Option Value} {CX : CXT} {k : Nat} {fa a : Addr} {fd : FuncData} {x : Str} {sp : Sp} {s₁ : Shared} {vs : List Value} {ns : List Int}
    (KX : K.In s₁.heap) (hns : s₁.heap.Ns mainGlobals mg) (hb : s₁.heap.Ns builtinsNs mb) (hbb : ∀ x : Str, x ≠ "__name__" → mb x = bootBuiltins x) (hlim : s₁.heap.NoLimit) (hgen : s₁.gens = #[])
    (ha : s₁.heap.get? a = some { cls := .type "list", data := .seq vs.toArray }) (hi : IntsAre vs ns) (hl : ns.length ≤ sizeLine) (hr : Room k callerA)
    (F : ∀ base : Heap, K.In base → base.Ns mainGlobals mg → FnG P w K mg base CX k fa fd [x] sp) (hbind : ∀ (s : Shared) (u : Value), BindsTo s fd ⟨[u], []⟩ [(x, u)])
    (hsp : ∀ H : Hp, Only H → SqL K H a (ns.map V.int) → sp [.ref a] H (fun v _ => v = .bl true) fun _ _ _ => False)
    (hCX : ∀ H e s', CX [] H s₁ (fun _ _ _ => False) e s' → False) :
    codeAny (model P w) callerA (.call (.ref fa) ⟨[.ref a], []⟩) (fun r s' => r = .ok (.ret (.bool true)) ∧ OldK s₁.heap s'.heap ∧ s'.os = s₁.os ∧ AllBare s'.gens) s₁ := by
  have rv : Vals (ns.map V.int) vs := vals_ints hi
  have lv : vs.length = ns.length := hi.length
  have run : ∀ H : Hp, Only H → SqL K H a (ns.map V.int) → HOk P w H s₁.heap → (∀ b, H b ≠ none → b = a ∧ K.lookup a = none) →
      codeAny (model P w) callerA (.call (.ref fa) ⟨[.ref a], []⟩) (fun r s' => r = .ok (.ret (.bool true)) ∧ OldK s₁.heap s'.heap ∧ s'.os = s₁.os ∧ AllBare s'.gens) s₁ := by
    intro H hO hS hok hA
    -- what stands in a namespace, or in the written part, is not tracked
    have free : ∀ {b : Addr} {o : Obj}, s₁.heap.get? b = some o → (∀ es ep, o.data = .dict es ep → True) → (b = a → False) → H b = none := fun {b o} _ _ nb => by
      cases q : H b with
      | none => rfl
      | some u => exact (nb (hA b (by rw [q]; exact fun z => by cases z)).1).elim
    have nsK : ∀ {b : Addr} {m : Str → Option Value}, s₁.heap.Ns b m → (hidT s₁.heap H).Ns b m := fun {b m} n => by
      obtain ⟨o, es, ep, e, d, rr⟩ := n
      refine ⟨o, es, ep, hidT_get e (free e (fun _ _ _ => trivial) fun z => ?_), d, rr⟩
      rw [z, ha] at e
      cases e
      cases d
    have kB : K.In (hidT s₁.heap H) := fun b o e => hidT_get (KX b o e) (by
      cases q : H b with
      | none => rfl
      | some u =>
        obtain ⟨z1, z2⟩ := hA b (by rw [q]; exact fun z => by cases z)
        rw [z1, z2] at e
        cases e)
    have hM : Mod K mg (hidT s₁.heap H) := ⟨kB, nsK hns, ⟨mb, nsK hb, hbb⟩, by obtain ⟨mc, h1, h2⟩ := hlim; exact ⟨mc, nsK h1, h2⟩⟩
    have e0 : Env0 P w K mg (hidT s₁.heap H) callerA [] s₁ H :=
      { frames := rfl, mod := hM, bs := fun b o e => of_hidT e, bsz := Nat.le_of_eq (hidT_size _ _), funs := trivial, frf := fun b hb => absurd (show b ∈ ([] : List Addr) from hb) (by simp), hok := hok, bare := .of_eq hgen }
    refine codeAny_mono ((F _ kB (nsK hns)).go callerA [] s₁ H ⟨[.ref a], []⟩ [.ref a] [.ref a] _ _ rfl hr e0 (hbind s₁ (.ref a)) (.cons rfl .nil) (hsp H hO hS)) ?_
    intro rs s' h
    match rs, h with
    | .error e, h => exact (hCX H e s' h).elim
    | .ok (.ret u), h =>
      obtain ⟨v, H', os, bare, un, hok', r', q⟩ := h
      cases (show v = .bl true from q)
      cases (show u = Value.bool true from r')
      refine ⟨rfl, OldK.of_keep fun b o e => ?_, os, bare⟩
      cases q : H b with
      | none => exact un.keep b o e q (fun z => absurd (show b ∈ ([] : List Addr) from z) (by simp)) (by simp)
      | some u =>
        rcases hO b with z | ⟨ob, xs, z⟩
        · rw [q] at z
          cases z
        · have h1 := (hok b _ z).1
          have h2 := (hok' b _ (un.frzs b ob _ z)).1
          rw [e] at h1
          cases h1
          exact h2
  cases hk : K.lookup a with
  | some o =>
    have e := KX a o hk
    rw [ha] at e
    cases e
    exact run (fun _ => none) (fun _ => .inl rfl) (.inr ⟨_, vs.toArray, _, hk, rfl, rfl, rfl, by rw [List.size_toArray, lv]; exact hl, by simpa using rv⟩) (fun b u z => by have z' : (none : Option HO) = some u := z; cases z') (fun b z => absurd rfl z)
  | none =>
    let Hs : Hp := fun b => if b = a then some (.frz { cls := .type "list", data := .seq vs.toArray } (.lst (ns.map V.int))) else none
    have at_a : Hs a = some (.frz { cls := .type "list", data := .seq vs.toArray } (.lst (ns.map V.int))) := if_pos rfl
    have off : ∀ b, b ≠ a → Hs b = none := fun b h => if_neg h
    refine run Hs (fun b => ?_) (.inl (.inr ⟨_, at_a⟩)) (fun b u z => ?_) (fun b z => ⟨?_, hk⟩)
    · by_cases h : b = a
      · rw [h]; exact .inr ⟨_, _, at_a⟩
      · exact .inl (off b h)
    · by_cases h : b = a
      · subst h
        rw [at_a] at z
        cases z
        exact ⟨ha, by rw [List.length_map]; exact hl, vs, _, rv, ha⟩
      · rw [off b h] at z
        cases z
    · by_cases h : b = a
      · exact h
      · exact absurd (off b h) z
theorem walkG {l : PySem.W.OpenLaw} {n k : Nat} {q : Program} {loose : List Str} {XP : (Str → Option Value) → Heap → Prop} {YP : World → Heap → Prop} {d : DefRec} {K : Params → PySem.W.Frag} {CX : World → CXT} {sp : World → Sp} {x : Str}
    (hn : l.most = some n) (hn2 : n ≤ sizeLine) (hdf : d.params.defaults = []) (hr : Room k callerA)
    (hY : ∀ (w : World) (h : Heap), YP w h → (K w.params).In h)
    (F : ∀ (w : World) (mg : Str → Option Value) (fa : Addr) (h : Heap), (K w.params).In h → h.Ns mainGlobals mg → mg d.name = some (.ref fa) →
      ∃ fd : FuncData, (∀ (s : Shared) (u : Value), BindsTo s fd ⟨[u], []⟩ [(x, u)]) ∧
        ∀ base : Heap, (K w.params).In base → base.Ns mainGlobals mg → FnG l.prog w (K w.params) mg base (CX w) k fa fd [x] (sp w))
    (hsp : ∀ (w : World) (H : Hp) (a : Addr) (ns : List Int), ns.length ≤ n → (∀ z ∈ ns, Builtin.Int.intBits z ≤ 1048576) → Only H → SqL (K w.params) H a (ns.map V.int) → sp w [.ref a] H (fun v _ => v = .bl true) fun _ _ _ => False)
    (hCX : ∀ (w : World) (H : Hp) (s : Shared) (e : Value) (s' : Shared), CX w [] H s (fun _ _ _ => False) e s' → False) :
    PySem.W.WalkO q loose XP YP l.row.toRowW d [] (fun f vs => PySem.call f vs) := by
  refine Att.attach_callB hn hdf ?_
  intro w s₀ s₁ mg mb fa o pm cd doc a vs ns G Y ho hd hcd hmg hobj hints hlen hbits hgen
  obtain ⟨fd, hb, hF⟩ := F w mg fa _ (hY w _ Y) G.T.g hmg
  exact enterG (hY w _ Y) G.T.g G.T.b G.T.builtins G.T.nolimit hgen hobj hints (Nat.le_trans hlen hn2) hr hF hb (fun H hO hS => hsp w H a ns hlen hbits hO hS) fun H e s' => hCX w H s₁ e s'
/-- the same where the promise hangs on the written part alone -/
theorem walkK {l : PySem.W.OpenLaw} {n k : Nat} {q : Program} {loose : List Str} {XP : (Str → Option Value) → Heap → Prop} {YP : World → Heap → Prop} {d : DefRec} {K : Params → PySem.W.Frag} {CX : CXT} {sp : PySem.W.Frag → Sp} {x : Str}
    (hn : l.most = some n) (hn2 : n ≤ sizeLine) (hdf : d.params.defaults = []) (hr : Room k callerA) (hY : ∀ (w : World) (h : Heap), YP w h → (K w.params).In h)
    (F : ∀ (w : World) (mg : Str → Option Value) (fa : Addr) (h : Heap), (K w.params).In h → h.Ns mainGlobals mg → mg d.name = some (.ref fa) →
      ∃ fd : FuncData, (∀ (s : Shared) (u : Value), BindsTo s fd ⟨[u], []⟩ [(x, u)]) ∧ ∀ base : Heap, (K w.params).In base → base.Ns mainGlobals mg → FnG l.prog w (K w.params) mg base CX k fa fd [x] (sp (K w.params)))
    (hsp : ∀ (K : PySem.W.Frag) (H : Hp) (a : Addr) (ns : List Int), ns.length ≤ n → Only H → SqL K H a (ns.map V.int) → sp K [.ref a] H (fun v _ => v = .bl true) fun _ _ _ => False)
    (hCX : ∀ (H : Hp) (s : Shared) (e : Value) (s' : Shared), CX [] H s (fun _ _ _ => False) e s' → False) : PySem.W.WalkO q loose XP YP l.row.toRowW d [] (fun f vs => PySem.call f vs) :=
  walkG (K := K) (CX := fun _ => CX) (sp := fun w => sp (K w.params)) hn hn2 hdf hr hY F (fun w H a ns h1 _ h2 h3 => hsp (K w.params) H a ns h1 h2 h3) fun _ H s e s' => hCX H s e s'
end Dz

set_option Elab.async false
set_option linter.all false
set_option maxRecDepth 100000
set_option maxHeartbeats 2000000
/-! repr of data; errors of the program's own as values; isinstance of these. -/
namespace Dz
open PySem PySem.Spec PyProof.Rows L2
section
variable {X : Cx}
/-- repr(x), x data without dicts -/
def rShow (K : PySem.W.Frag) : List V → Hp → VK → Prop := fun xs H Q => ∃ v d, xs = [v] ∧ Dp K H v d ∧ d.showable = true ∧ d.hasDict = false ∧ d.depth ≤ 60 ∧ d.shown.length ≤ sizeLine ∧ Q (.str d.shown) H
theorem call_show {k : Nat} (hg : Calm X.A) (hr : Room k X.A) : CallR X (.builtin "repr") (rShow X.K) := by
  intro pins s σ H xs us Q I r h
  obtain ⟨v, d, rfl, hd, hs, hn, hp, hz, q⟩ := h
  cases r with
  | @cons _ u _ _ rv rn =>
  cases rn
  have hu := hr.units
  cases hd with
  | non => cases rv; exact PySem.P.repr_of_none ⟨.str _, H, I.tok _, ⟨_, rfl⟩, q⟩
  | bl b => cases rv; exact PySem.P.repr_of_bool ⟨.str _, H, I.tok _, ⟨_, rfl⟩, q⟩
  | int i =>
    obtain ⟨t, rfl⟩ := rv
    exact PySem.P.repr_of_int (of_decide_eq_true hs) ⟨.str _, H, I.tok _, ⟨_, rfl⟩, q⟩
  | str x =>
    obtain ⟨t, rfl⟩ := rv
    exact PySem.P.repr_of_str ⟨.str _, H, I.tok _, ⟨_, rfl⟩, q⟩ hz
  | lst h1 h2 =>
    cases rv
    obtain ⟨as, rd⟩ := Dp.reads I _ _ _ (Dp.lst h1 h2) rfl
    exact repr_of_reads' rd hs (PyData.noDict_hsm hn) hg (by omega) (fun _ _ e => e) (fun h' u tk hk => ⟨.str _, H, I.kept hk, ⟨_, rfl⟩, q⟩) hz
  | tup h1 h2 =>
    cases rv
    obtain ⟨as, rd⟩ := Dp.reads I _ _ _ (Dp.tup h1 h2) rfl
    exact repr_of_reads' rd hs (PyData.noDict_hsm hn) hg (by omega) (fun _ _ e => e) (fun h' u tk hk => ⟨.str _, H, I.kept hk, ⟨_, rfl⟩, q⟩) hz

/-! ### own errors -/
/-- W.__init__(self, ..), W the own class above it: what stands there is ValueError's -/
structure UpC (K : PySem.W.Frag) (W : Addr) (mc : Value) : Prop where
  rd : PySem.W.readsIn K W mc = true
  ga : PySem.W.specialIn K (.ref W) "__getattribute__" = some (some (.builtin "type.__getattribute__"))
  at_ : PySem.W.findCls K (.ref W) mc "__init__" = some (.val (.builtin "ValueError.__init__"))
theorem pe_upinit {x : Str} {W : Addr} {mc : Value} {e : Expr} {es : List Expr} {ta : TA} {p1 p2 pos : Pos} {pl : Sem Bool} (hg : Gl X x) (hm : X.mg x = some (.ref W)) (U : UpC X.K W mc) (ha : PA X (e :: es) ta)
    (hdb : (x == ("__debug__" : Str)) = false := by decide)
    (hc : eval (.Call (.Attribute (.Name x p1) "__init__" p2) (e :: es) [] pos) X.env = (do
      let ov ← eval (.Name x p1) X.env
      standAt p2.atName
      let (f, first) ← holding [ov] (getMethod ov "__init__" pl)
      callWith pos f first (backTo pos (starEach (e :: es) X.env)) (backToKw pos (keywordEach [] X.env))) := by rfl)
    (he : starEach (e :: es) X.env = (false, eval e X.env) :: starEach es X.env := by rfl) (hpl : (backTo pos (starEach es X.env)).any (·.1) = false := by rfl) :
    PE X (.Call (.Attribute (.Name x p1) "__init__" p2) (e :: es) [] pos) (tVeI X.K ta) := by
  constructor
  intro pins s σ H Q I h
  refine PySem.W.methodCall_KW (ld_glob I hg hm ?_ hdb) hc
  refine PySem.W.method_cls I.kIn U.ga (PySem.W.cls_value I.kIn U.rd U.at_ rfl ?_)
  show wpAny _ _ (callWith pos (Value.builtin "ValueError.__init__") [] (backTo pos (starEach (e :: es) X.env)) []) _ _ _
  refine PyProof.Rows.callWith_method1 (thn (ha.run pos pins _ σ H _ (I.tok _) h) ?_) he hpl
  rintro us s1 ⟨vs, H1, I1, r1, a, C, ws, rfl, hl, T, ea, q⟩
  cases r1 with
  | @cons _ u0 _ ur ra rw' =>
    cases (show u0 = Value.ref a from ra)
    refine oinit_ok T I1 ea ?_ fun s' J => ⟨.non, H1, J, rfl, q⟩
    rw [← Paired.length rw', sizeLine_eq]
    omega
/-- C(e, ..) as a value: the error at a, its __init__ keeping sp -/
theorem call_err {CX : CXT} {C fI : Addr} {k : Nat} {fd : FuncData} {ps : List Str} {sp : Sp} {E : XK} (T : OexC X.K C) (iC : PySem.W.findIn X.K (.ref C) "__init__" = some (some (.ref fI)))
    (tI : PySem.W.typeIn X.K (.ref fI) = some (.type "function")) (F : FnG X.prog X.w X.K X.mg X.base CX k fI fd ps sp) (hcl : Calm X.A) (hr : Room (k + 1) X.A) (hb : Binds X.K fd ps []) (hx : Passes CX X E) :
    CallR X (.ref C) (fun vs H Q => vs.length ≤ 1000 ∧ ∀ a, H a = none → sp (.ref a :: vs) (upd H a (exo a C none)) (fun v H2 => v = .non ∧ Q (.ref a) H2) E) := by
  intro pins s σ H vs us Q I r1 h
  obtain ⟨hz, q1⟩ := h
  obtain ⟨nm, qn, N, bs, bm, sn, sub, ab, col, dd, k0, k1, k2, k3, k5, hC, hbm⟩ := T.cls
  obtain ⟨hp, g, dr, tk, os⟩ := s
  have above : hp.objs.size ≤ hp.objs.size + 1 := Nat.le_succ _
  have hq := q1 (hp.objs.size + 1) (I.hok.fresh above)
  have kk : ∀ b o, hp.get? b = some o → ((hp.push (PySem.W.kdv_tup us)).push (PySem.HandSPX.excO C hp.objs.size)).get? b = some o := fun b o e => Heap.get?_push_of_some _ (Heap.get?_push_of_some _ e)
  have got : ((hp.push (PySem.W.kdv_tup us)).push (PySem.HandSPX.excO C hp.objs.size)).get? (hp.objs.size + 1) = some (PySem.HandSPX.excO C hp.objs.size) := by heap_get
  have I2 : Inv X pins σ (upd H (hp.objs.size + 1) (exo (hp.objs.size + 1) C none)) ⟨(hp.push (PySem.W.kdv_tup us)).push (PySem.HandSPX.excO C hp.objs.size), g, dr, tk, os⟩ := I.laid (t' := tk) kk above (exo_ok got)
  have r2 : Vals (V.ref (hp.objs.size + 1) :: vs) (Value.ref (hp.objs.size + 1) :: us) := .cons rfl r1
  have ll : (Value.ref (hp.objs.size + 1) :: us ++ []).length = ps.length := by
    rw [List.append_nil, ← r2.length]
    exact F.ln _ _ _ _ hq
  have lu : us.length ≤ sizeLine := by
    rw [← Paired.length r1, sizeLine_eq]
    omega
  have bnd := hb ⟨(hp.push (PySem.W.kdv_tup us)).push (PySem.HandSPX.excO C hp.objs.size), g, dr, tk, os⟩ (Value.ref (hp.objs.size + 1) :: us) I2.kIn ll
  rw [List.append_nil] at bnd
  have cal : Calm (X.A.under (.builtin "type.__call__" ⟨.ref C :: us, []⟩)) := by
    unfold Calm at hcl ⊢
    simp [Around.under, Code.guards, Code.isGuard, pushGuards, guardIds, hcl]
  refine wpAny_call (PySem.HandSPX.call_own PySem.F.excBase_ValueError (fun Y => PySem.HandSPX.refsVE_contains Y bm hbm) (I.kIn _ _ hC) (PySem.W.looks_findIn I.kIn iC) (fun self => PySem.W.bind_fn I.kIn self tI) lu
    (codeAny_mono (F.go _ X.stack _ _ ⟨Value.ref (hp.objs.size + 1) :: us, []⟩ (Value.ref (hp.objs.size + 1) :: us) _ _ E cal (hr.make C us []) (I2.env0.make C us []) bnd r2 hq) ?_))
  intro rs s' hq'
  match rs, hq' with
  | .error er, hq' => exact hx pins σ _ _ er s' I2 hq'
  | .ok (.ret u), hq' =>
    obtain ⟨v, H2, I3, rv, ev, q2⟩ := I2.after hq'
    subst ev
    exact ⟨rv, V.ref (hp.objs.size + 1), H2, I3, rfl, q2⟩
end
end Dz

set_option Elab.async false
set_option linter.all false
set_option maxRecDepth 100000
set_option maxHeartbeats 2000000
/-! Readings, step by step. -/
namespace Dz
open PySem PySem.Spec PyProof.Rows L2

/-- a def of the text that keeps its promise, whatever its record is -/
structure Kp (P : Program) (w : World) (K : PySem.W.Frag) (mg : Str → Option Value) (base : Heap) (CX : CXT) (k : Nat) (f : Addr) (ps : List Str) (ds : List Value) (sp : Sp) : Prop where
  ex : ∃ fd, FnG P w K mg base CX k f fd ps sp ∧ Binds K fd ps ds
/-- a def of the module -/
structure Df (K : PySem.W.Frag) (mg : Str → Option Value) (x : Str) (st : Stmt) (f : Addr) : Prop where
  ex : ∃ fd, Fun K x x st f fd
  mg : mg x = some (.ref f)
  kp : PySem.W.keepIn K (.ref f) = true
/-- a name of the module that holds v -/
def Gv (mg : Str → Option Value) (x : Str) (v : V) : Prop := ∃ u, mg x = some u ∧ RelV v u
section
variable {X : Cx} {CX : CXT} {k : Nat} {f C : Addr} {ps : List Str} {sp : Sp} {dvs : List V} {ds : List Value} {E : XK} {x m : Str} {p pos apos : Pos} {e o : Expr} {es : List Expr} {ta : TE} {t : TA}
theorem callK (F : Kp X.prog X.w X.K X.mg X.base CX k f ps ds sp) (hg : Calm X.A) (hr : Room k X.A) (hd : Vals dvs ds) (hx : Passes CX X E) :
    CallR X (.ref f) (fun vs H Q => sp (vs ++ dvs) H Q E) := by
  obtain ⟨fd, G, b⟩ := F.ex
  exact callR_fn G hg hr b hd hx
theorem callK0 (F : Kp X.prog X.w X.K X.mg X.base CX k f ps [] sp) (hg : Calm X.A) (hr : Room k X.A) (hx : Passes CX X E) :
    CallR X (.ref f) (fun vs H Q => sp vs H Q E) := fun pins s σ H xs us Q I r h => callK (dvs := []) F hg hr .nil hx pins s σ H xs us Q I r (by show sp (xs ++ []) H Q E; rw [List.append_nil]; exact h)
theorem pe_gv {v : V} (hg : Gl X x) (h : Gv X.mg x v) (hd : (x == ("__debug__" : Str)) = false := by decide) : PE X (.Name x pos) (tC v) := by
  obtain ⟨u, hm, r⟩ := h
  exact pe_glob hg hm r hd
theorem calm_in {A : Around} {env : Env} (h : Calm A) : Calm (A.deeper env) := h
end

/-! ### the steps -/
section
variable {σ : L2.St} {H : Hp} {Q : VK} {i : Nat} {v x y : V} {ta tb te : TE} {t : TA} {nx : L2.St → Hp → Prop} {rt : VK} {bk ct : L2.St → Hp → Prop} {a u : TS} {tt tu : TT}
theorem w_var (h : σ[i]? = some (some v)) (k : Q v H) : tVar i σ H Q := ⟨v, h, k⟩
theorem w_varE (k : ∃ v, σ[i]? = some (some v) ∧ Q v H) : tVar i σ H Q := k
theorem w_c (k : Q v H) : tC v σ H Q := k
theorem w_op {r : R2} (k : ta σ H fun x H1 => tb σ H1 fun y H2 => r x y H2 Q) : tOp r ta tb σ H Q := k
theorem w_un {r : V → Hp → VK → Prop} (k : ta σ H fun x H1 => r x H1 Q) : tUn r ta σ H Q := k
theorem w_rI {C : Int → Int → Prop} {g : Int → Int → V} {i j : Int} (hc : C i j) (k : Q (g i j) H) : rI C g (.int i) (.int j) H Q := ⟨i, j, rfl, rfl, hc, k⟩
theorem w_rI0 {g : Int → Int → V} {i j : Int} (k : Q (g i j) H) : rI0 g (.int i) (.int j) H Q := ⟨i, j, rfl, rfl, k⟩
theorem w_rU {g : Int → V} {i : Int} (k : Q (g i) H) : rU g (.int i) H Q := ⟨i, rfl, k⟩
theorem w_rEq (hs : scal x y = true) (k : Q (.bl (decide (x = y))) H) : rEq x y H Q := ⟨hs, k⟩
theorem w_rNe (hs : scal x y = true) (k : Q (.bl (!decide (x = y))) H) : rNe x y H Q := ⟨hs, k⟩
theorem w_nil {Q : List V → Hp → Prop} (k : Q [] H) : tNil σ H Q := k
theorem w_cons {Q : List V → Hp → Prop} {tr : TA} (k : ta σ H fun x H1 => tr σ H1 fun xs H2 => Q (x :: xs) H2) : tCons ta tr σ H Q := k
/-- a new list, a new tuple -/
def NewL (xs : List V) (H : Hp) (Q : VK) : Prop := ∀ p, H p = none → Q (.ref p) (upd H p (.lst xs))
def NewT (xs : List V) (H : Hp) (Q : VK) : Prop := ∀ p, H p = none → Q (.ref p) (upd H p (.tup xs))
theorem w_lst (k : t σ H fun xs H1 => xs.length ≤ sizeLine ∧ NewL xs H1 Q) : tLst t σ H Q := k
theorem w_tup (k : t σ H fun xs H1 => xs.length ≤ sizeLine ∧ NewT xs H1 Q) : tTup t σ H Q := k
theorem w_ixL {K : PySem.W.Frag} {p : Addr} {xs : List V} {i : Int} (h : SqL K H p xs) (ha : atI xs i = some v) (k : Q v H) : rIxL K (.ref p) (.int i) H Q := ⟨p, xs, i, v, rfl, rfl, h, ha, k⟩
theorem w_cb {r : List V → Hp → VK → Prop} (k : t σ H fun vs H1 => r vs H1 Q) : tCB r t σ H Q := k
theorem w_test {Q : Bool → Hp → Prop} (k : te σ H fun x H1 => ∃ b, x = .bl b ∧ Q b H1) : tTest te σ H Q := k
theorem w_B {Q : Bool → Hp → Prop} (k : te σ H fun x H1 => ∃ b, x = .bl b ∧ Q b H1) : tB te σ H Q := k
theorem w_bl {Q : Bool → Prop} {b : Bool} (k : Q b) : ∃ c, V.bl b = .bl c ∧ Q c := ⟨b, rfl, k⟩
theorem w_notV (k : ta σ H fun x H1 => ∃ c, x = .bl c ∧ Q (.bl (!c)) H1) : tNotV ta σ H Q := k
theorem w_andV (k : ta σ H fun x H1 => ∃ c, x = .bl c ∧ if c = true then tb σ H1 Q else Q (.bl false) H1) : tAndV ta tb σ H Q := k
theorem w_orV (k : ta σ H fun x H1 => ∃ c, x = .bl c ∧ if c = true then Q (.bl true) H1 else tb σ H1 Q) : tOrV ta tb σ H Q := k
theorem w_not {Q : Bool → Hp → Prop} (k : tt σ H fun c H1 => Q (!c) H1) : tNot tt σ H Q := k
theorem w_and {Q : Bool → Hp → Prop} (k : tt σ H fun c H1 => if c = true then tu σ H1 Q else Q false H1) : tAnd tt tu σ H Q := k
theorem w_or {Q : Bool → Hp → Prop} (k : tt σ H fun c H1 => if c = true then Q true H1 else tu σ H1 Q) : tOr tt tu σ H Q := k
theorem w_ifE (k : tt σ H fun c H1 => if c = true then ta σ H1 Q else tb σ H1 Q) : tIf tt ta tb σ H Q := k
theorem w_seq (k : a ⟨u ⟨nx, rt, bk, ct⟩, rt, bk, ct⟩ σ H) : tSeq a u ⟨nx, rt, bk, ct⟩ σ H := k
theorem w_next (k : nx σ H) : tNext ⟨nx, rt, bk, ct⟩ σ H := k
theorem w_ret (k : te σ H rt) : tRet te ⟨nx, rt, bk, ct⟩ σ H := k
theorem w_asg {g : TG} (k : te σ H fun x H1 => g x σ H1 nx) : tAsg te g ⟨nx, rt, bk, ct⟩ σ H := k
theorem w_gn (k : nx (σ.set i (some v)) H) : gName i v σ H nx := k
theorem w_gsub {to ti : TE} {ts : TSet} (k : to σ H fun o H1 => ti σ H1 fun i H2 => ts o i v H2 fun H3 => nx σ H3) : gSub to ti ts v σ H nx := k
theorem w_setL {p : Addr} {xs : List V} {k : Int} {j : Nat} {Q : Hp → Prop} (h : H p = some (.lst xs)) (hj : ixN xs.length k = some j) (q : Q (upd H p (.lst (xs.set j v)))) : rSetL (.ref p) (.int k) v H Q := ⟨p, xs, k, j, rfl, rfl, h, hj, q⟩
theorem w_drop (k : te σ H fun _ H1 => nx σ H1) : tDrop te ⟨nx, rt, bk, ct⟩ σ H := k
theorem w_ifS (k : tt σ H fun b H1 => if b = true then a ⟨nx, rt, bk, ct⟩ σ H1 else u ⟨nx, rt, bk, ct⟩ σ H1) : tIfS tt a u ⟨nx, rt, bk, ct⟩ σ H := k
theorem w_ite {p : Prop} [Decidable p] {A B : Prop} (h1 : p → A) (h2 : ¬ p → B) : if decide p = true then A else B := by
  by_cases h : p
  · rw [if_pos (decide_eq_true h)]; exact h1 h
  · rw [if_neg (by simpa using h)]; exact h2 h
theorem w_iteB {b : Bool} {A B : Prop} (h1 : b = true → A) (h2 : b = false → B) : if b = true then A else B := by
  cases b
  · exact h2 rfl
  · exact h1 rfl
theorem w_itT {b : Bool} {A B : Prop} (e : b = true) (h : A) : if b = true then A else B := by rw [if_pos e]; exact h
theorem w_itF {b : Bool} {A B : Prop} (e : b = false) (h : B) : if b = true then A else B := by rw [if_neg (by rw [e]; decide)]; exact h
theorem atI_of {xs : List V} {i : Int} {v : V} (h0 : 0 ≤ i) (h : xs[i.toNat]? = some v) : atI xs i = some v := by
  have e : i = ((i.toNat : Nat) : Int) := (Int.toNat_of_nonneg h0).symm
  rw [e]
  exact atI_nat h
theorem sz_ok {n : Nat} (h : n ≤ 1000) : n ≤ sizeLine := Nat.le_trans h (by decide)
end
/-! ### heaps -/
/-- all but p is as it was -/
def Bt (p : Addr) (H H' : Hp) : Prop := ∀ b o, b ≠ p → H b = some o → H' b = some o
theorem Bt.refl {p : Addr} {H : Hp} : Bt p H H := fun _ _ _ h => h
theorem Bt.trans {p : Addr} {H H1 H2 : Hp} (a : Bt p H H1) (b : Bt p H1 H2) : Bt p H H2 := fun c o n h => b c o n (a c o n h)
theorem Bt.new {p q : Addr} {H : Hp} {o : HO} (h : H q = none) : Bt p H (upd H q o) := fun b u _ e => by rw [upd_ne (ne_of_none e h)]; exact e
theorem Bt.at_ {p : Addr} {H : Hp} {o : HO} : Bt p H (upd H p o) := fun b u n e => by rw [upd_ne n]; exact e
theorem Bt.of {p : Addr} {H H' : Hp} (e : Same H H') : Bt p H H' := fun b o _ h => e b o h
theorem same_new {q : Addr} {H : Hp} {o : HO} (h : H q = none) : Same H (upd H q o) := fun b u e => by rw [upd_ne (ne_of_none e h)]; exact e
theorem Bt.back {p q : Addr} {H H' : Hp} (e : Bt p H H') (n : q ≠ p) (h : H' q = none) : H q = none := by
  cases h1 : H q with
  | none => rfl
  | some o => rw [e q o n h1] at h; cases h
theorem Bt.rd {K : PySem.W.Frag} {p a : Addr} {H H' : Hp} {xs : List V} (e : Bt p H H') (n : a ≠ p) (h : SqL K H a xs) : SqL K H' a xs := by
  rcases h with (h | ⟨o, h⟩) | h
  · exact .inl (.inl (e _ _ n h))
  · exact .inl (.inr ⟨o, e _ _ n h⟩)
  · exact .inr h
end Dz

set_option Elab.async false
set_option linter.all false
set_option maxRecDepth 100000
set_option maxHeartbeats 2000000
/-! Loops; kinds of things; isinstance. -/
namespace Dz
open PySem PySem.Spec PyProof.Rows L2
section
variable {σ : L2.St} {H : Hp} {Q : VK} {te tl : TE} {ta : TA} {nx : L2.St → Hp → Prop} {rt : VK} {bk ct : L2.St → Hp → Prop} {tb u : TS} {g : TG} {tt : TT} {vs : List Nat} {K : PySem.W.Frag} {wi : TI} {D : Ends}
/-- what a comprehension, a for asks of its walk J -/
def LcW (J : It) (g : TG) (tt : TT) (te : TE) (vs : List Nat) (σ : L2.St) (H : Hp) (Q : VK) : Prop := ∀ D, H D = none → ∃ W : Nat → Nat → Hp → Prop, (∃ m, W 0 m (upd H D (.lst []))) ∧ ∀ i m H, W i m H → (J.stop i H ∧ Q (.ref D) H) ∨ (J.go i H ∧ ∃ Nx : Hp → Prop, (∀ H', Nx H' → ∃ m', m' < m ∧ W (i + 1) m' H') ∧
      ∀ x H', J.yld i H x H' → g x (wipe σ vs) H' fun σ2 H2 => wipe σ2 vs = wipe σ vs ∧ tt σ2 H2 fun b H3 =>
        if b = true then te σ2 H3 fun y H4 => ∃ acc, H4 D = some (.lst acc) ∧ acc.length < sizeLine ∧ Nx (upd H4 D (.lst (acc ++ [y]))) else Nx H3)
def ForW (J : It) (g : TG) (tb : TS) (D : Ends) (σ : L2.St) (H : Hp) : Prop := ∃ W : Nat → Nat → L2.St → Hp → Prop, (∃ m, W 0 m σ H) ∧ ∀ i m σ H, W i m σ H → (J.stop i H ∧ D.nx σ H) ∨ (J.go i H ∧ ∃ N : L2.St → Hp → Prop, (∀ σ' H', N σ' H' → ∃ m', m' < m ∧ W (i + 1) m' σ' H') ∧
      ∀ x H', J.yld i H x H' → g x σ H' fun σ2 H2 => tb { D with nx := N, ct := N, bk := D.nx } σ2 H2)
theorem w_lc (k : wi σ H fun J H1 => LcW J g tt te vs σ H1 Q) : tLc wi g tt te vs σ H Q := k
theorem w_for (k : wi σ H fun J H1 => ForW J g tb D σ H1) : tFor wi g tb D σ H := k
theorem w_iR1 {R : It → Hp → Prop} (k : ta σ H fun xs H1 => ∃ j : Int, xs = [.int j] ∧ -(2 ^ 62) ≤ j ∧ j < 2 ^ 62 ∧ R (Itr 0 j.toNat) H1) : iRng1 ta σ H R := k
theorem w_iL {R : It → Hp → Prop} (k : tl σ H fun x H1 => ∃ a, x = .ref a ∧ (∃ xs, SqL K H1 a xs) ∧ R (Itl K a) H1) : iList K tl σ H R := k
theorem w_iT {R : It → Hp → Prop} (k : tl σ H fun x H1 => ∃ a, x = .ref a ∧ (∃ xs, SqT K H1 a xs) ∧ R (Itt K a) H1) : iTup K tl σ H R := k
theorem w_iS {R : It → Hp → Prop} (k : tl σ H fun x H1 => ∃ z, x = .str z ∧ R (Its z) H1) : iStr tl σ H R := k
theorem w_rng1 {Q : Int → Prop} {n : Int} (h : -(2 ^ 62) ≤ n ∧ n < 2 ^ 62) (k : Q n) : ∃ j : Int, [V.int n] = [V.int j] ∧ -(2 ^ 62) ≤ j ∧ j < 2 ^ 62 ∧ Q j := ⟨n, rfl, h.1, h.2, k⟩
theorem w_lst1 {Q : Addr → Prop} {a : Addr} {xs : List V} (h : SqL K H a xs) (k : Q a) : ∃ b, V.ref a = .ref b ∧ (∃ xs, SqL K H b xs) ∧ Q b := ⟨a, rfl, ⟨xs, h⟩, k⟩
theorem w_tup1 {Q : Addr → Prop} {a : Addr} {xs : List V} (h : SqT K H a xs) (k : Q a) : ∃ b, V.ref a = .ref b ∧ (∃ xs, SqT K H b xs) ∧ Q b := ⟨a, rfl, ⟨xs, h⟩, k⟩
theorem w_str1 {Q : Str → Prop} {z : Str} (k : Q z) : ∃ y, V.str z = .str y ∧ Q y := ⟨z, rfl, k⟩
/-- what a comprehension of n turns asks, x its i-th thing: Pv of the turn and the heap; D is where its list stands -/
def Lcs (n : Nat) (Gd : Hp → Prop) (Yd : Nat → V → Prop) (g : TG) (tt : TT) (te : TE) (vs : List Nat) (σ : L2.St) (H : Hp) (Q : VK) : Prop := ∀ D, H D = none → ∃ Pv : Nat → Hp → Prop, Pv 0 (upd H D (.lst [])) ∧ (∀ i H, i ≤ n → Pv i H → Gd H) ∧
  (∀ i x H, i < n → Yd i x → Pv i H → g x (wipe σ vs) H fun σ2 H2 => wipe σ2 vs = wipe σ vs ∧ tt σ2 H2 fun b H3 =>
    if b = true then te σ2 H3 fun y H4 => ∃ acc, H4 D = some (.lst acc) ∧ acc.length < sizeLine ∧ Pv (i + 1) (upd H4 D (.lst (acc ++ [y]))) else Pv (i + 1) H3) ∧ ∀ H, Pv n H → Q (.ref D) H
theorem lcs_go {J : It} {n : Nat} {Gd : Hp → Prop} {Yd : Nat → V → Prop} (w : Walk J n Gd fun i H x H' => H' = H ∧ Yd i x) (k : Lcs n Gd Yd g tt te vs σ H Q) : LcW J g tt te vs σ H Q := by
  intro D hD
  obtain ⟨Pv, h0, hG, hs, hd⟩ := k D hD
  refine lc_it w Pv h0 hG (fun i x H H' hi p y => ?_) hd
  obtain ⟨rfl, y⟩ := y
  exact hs i x H' hi y p
/-- the same of a for: Pv by the turn, the slots, the heap -/
def Fors (n : Nat) (Gd : Hp → Prop) (Yd : Nat → V → Prop) (g : TG) (tb : TS) (D : Ends) (σ : L2.St) (H : Hp) : Prop := ∃ Pv : Nat → L2.St → Hp → Prop, Pv 0 σ H ∧ (∀ i σ H, i ≤ n → Pv i σ H → Gd H) ∧
  (∀ i x σ H, i < n → Yd i x → Pv i σ H → g x σ H fun σ2 H2 => tb ⟨Pv (i + 1), D.rt, D.nx, Pv (i + 1)⟩ σ2 H2) ∧ ∀ σ H, Pv n σ H → D.nx σ H
theorem fors_go {J : It} {n : Nat} {Gd : Hp → Prop} {Yd : Nat → V → Prop} (w : Walk J n Gd fun i H x H' => H' = H ∧ Yd i x) (k : Fors n Gd Yd g tb D σ H) : ForW J g tb D σ H := by
  obtain ⟨Pv, h0, hG, hs, hd⟩ := k
  refine for_it w Pv h0 hG (fun i x σ H H' hi p y => ?_) hd
  obtain ⟨rfl, y⟩ := y
  exact hs i x σ H' hi y p
theorem wk_range {n : Nat} : Walk (Itr 0 n) n (fun _ => True) fun i H x H' => H' = H ∧ x = .int (i : Nat) := (walk_range (lo := 0) (n := n)).mono (fun _ h => h) fun i H x H' _ _ y => ⟨y.1, y.2.trans (by show V.int (0 + (i : Int)) = V.int (i : Int); rw [Int.zero_add])⟩
theorem wk_list {a : Addr} {xs : List V} : Walk (Itl K a) xs.length (fun H => SqL K H a xs) fun i H x H' => H' = H ∧ xs[i]? = some x := walk_list
theorem wk_tup {a : Addr} {xs : List V} : Walk (Itt K a) xs.length (fun H => SqT K H a xs) fun i H x H' => H' = H ∧ xs[i]? = some x := walk_tup
theorem wk_str {z : Str} : Walk (Its z) z.cps.size (fun _ => True) fun i H x H' => H' = H ∧ ∃ c, z.cps[i]? = some c ∧ x = .str ⟨#[c]⟩ := walk_str
theorem w_gtup {n : Nat} {t : TGs} {a : Addr} {xs : List V} (h : SqT K H a xs) (hl : xs.length = n) (k : t xs σ H nx) : gTup K n t (.ref a) σ H nx := ⟨a, xs, rfl, h, hl, k⟩
theorem w_gcons {t : TG} {u : TGs} {v : V} {vs : List V} (k : t v σ H fun σ' H' => u vs σ' H' nx) : gCons t u (v :: vs) σ H nx := ⟨v, vs, rfl, k⟩
theorem w_gnil (k : nx σ H) : gNil [] σ H nx := ⟨rfl, k⟩
theorem w_tyes {Q : Bool → Hp → Prop} (k : Q true H) : tYes σ H Q := k
theorem w_max {i j : Int} (k : Q (.int (if j > i then j else i)) H) : ∃ a b, [V.int i, V.int j] = [V.int a, V.int b] ∧ Q (.int (if b > a then b else a)) H := ⟨i, j, rfl, k⟩
end

/-! ### kinds of things -/
/-- what isinstance asks of an error's class -/
structure EI (K : PySem.W.Frag) (C : Addr) : Prop where
  hcl : (PySem.W.clsIn K C).isSome = true
  hga : PySem.W.findIn K (.ref C) "__getattribute__" = some (some (.builtin "BaseException.__getattribute__"))
  hgt : PySem.W.findIn K (.ref C) "__getattr__" = some none
  hsub : PySem.W.subIn K (.ref C) (.type "BaseException") = some true
  hc : PySem.W.findIn K (.ref C) "__class__" = some (some (.builtin "object.__class__"))
  hn : PySem.W.specialIn K (.builtin "object.__class__") "__get__" = some (some (.builtin "getset_descriptor.__get__"))
  htk : PySem.W.takesIn K (.builtin "object.__class__") = some true
  hm : PySem.W.mroIn K C (.type "object") = some true
  k1 : PySem.W.kitOne K (.ref C) (.type "int") = some false
  k2 : PySem.W.kitOne K (.ref C) (.type "bool") = some false
  k3 : PySem.W.kitOne K (.ref C) (.type "str") = some false
  k4 : PySem.W.kitOne K (.ref C) (.type "list") = some false
  k5 : PySem.W.kitOne K (.ref C) (.type "tuple") = some false
  k6 : PySem.W.kitOne K (.ref C) (.type "dict") = some false
theorem kit_no {K : PySem.W.Frag} {C : Addr} {T : String} (hm : PySem.W.kitMeta T = true) (h : PySem.W.subIn K (.ref C) (.type T) = some false) : PySem.W.kitOne K (.ref C) (.type T) = some false := by
  unfold PySem.W.kitOne PySem.W.kitCls
  rw [if_neg (by intro z; cases z)]
  show (if PySem.W.kitMeta T = true then PySem.W.subIn K (.ref C) (.type T) else none) = some false
  rw [if_pos hm, h]
/-- a thing that stands, not at p -/
inductive Kn (K : PySem.W.Frag) (p : Addr) (H : Hp) : V → Prop
  | int (i : Int) : Kn K p H (.int i)
  | str (z : Str) : Kn K p H (.str z)
  | bl (b : Bool) : Kn K p H (.bl b)
  | non : Kn K p H .non
  | lst {a : Addr} {xs : List V} (n : a ≠ p) (e : H a = some (.lst xs)) : Kn K p H (.ref a)
  | tup {a : Addr} {xs : List V} (n : a ≠ p) (e : H a = some (.tup xs)) : Kn K p H (.ref a)
  | dct {a : Addr} {kvs : List (Key × V)} (n : a ≠ p) (e : H a = some (.dK kvs)) : Kn K p H (.ref a)
  | err {a d C : Addr} {fs : List (Str × V)} (n : a ≠ p) (m : d ≠ p) (e : H a = some (exo a C (some d))) (f : H d = some (exd d fs)) (T : EI K C) : Kn K p H (.ref a)
theorem Kn.mono {K : PySem.W.Frag} {p : Addr} {H H' : Hp} {v : V} (h : Kn K p H v) (e : Bt p H H') : Kn K p H' v := by
  cases h with
  | int i => exact .int i
  | str z => exact .str z
  | bl b => exact .bl b
  | non => exact .non
  | lst n q => exact .lst n (e _ _ n q)
  | tup n q => exact .tup n (e _ _ n q)
  | dct n q => exact .dct n (e _ _ n q)
  | err n m q f T => exact .err n m (e _ _ n q) (e _ _ m f) T
def isInt : V → Bool
  | .int _ => true
  | .bl _ => true
  | _ => false
def isBool : V → Bool
  | .bl _ => true
  | _ => false
def isStr : V → Bool
  | .str _ => true
  | _ => false
/-- isinstance(x, int), bool, str -/
def rIs (K : PySem.W.Frag) (n : String) (f : V → Bool) : List V → Hp → VK → Prop := fun xs H Q => ∃ p v, xs = [v, .ty n] ∧ Kn K p H v ∧ Q (.bl (f v)) H
section
variable {X : Cx} {n : String} {f : V → Bool}
theorem is_of (hi : ∀ t, kitB "int" n = some (f (.int t))) (hb : ∀ t, kitB "bool" n = some (f (.bl t))) (hs : ∀ t, kitB "str" n = some (f (.str t))) (hn : kitB "NoneType" n = some (f .non)) (hl : ∀ a, kitB "list" n = some (f (.ref a))) (ht : ∀ a, kitB "tuple" n = some (f (.ref a))) (hd : ∀ a, kitB "dict" n = some (f (.ref a)))
    (he : ∀ C a, EI X.K C → PySem.W.kitOne X.K (.ref C) (.type n) = some (f (.ref a))) : CallR X (.builtin "isinstance") (rIs X.K n f) := by
  intro pins s σ H xs us Q I r h
  obtain ⟨p, v, rfl, kn, q⟩ := h
  have base : ∀ {t : Value}, TyX X.K H v t → PySem.W.kitOne X.K t (.type n) = some (f v) → wpAny (model X.prog X.w) X.A (call (.builtin "isinstance") us) (EP X pins σ Q) X.xe s := fun {t} ty k =>
    call_isi pins s σ H [v, .ty n] us Q I r ⟨v, .ty n, t, .type n, f v, rfl, .ty n, ty, k, q⟩
  cases kn with
  | int i => exact base (.base (.int i)) (kit_ty (hi _))
  | str z => exact base (.base (.str z)) (kit_ty (hs _))
  | bl b => exact base (.base (.bl b)) (kit_ty (hb _))
  | non => exact base (.base .non) (kit_ty hn)
  | lst _ e => exact base (.base (.lst e)) (kit_ty (hl _))
  | tup _ e => exact base (.base (.tup e)) (kit_ty (ht _))
  | dct _ e => exact base (.base (.dK e)) (kit_ty (hd _))
  | @err a d C fs _ _ e g T =>
    cases r with
    | @cons _ u1 _ _ r1 r2 =>
    cases r2 with
    | @cons _ u2 _ _ r2 r3 =>
    cases r3
    cases (show u1 = Value.ref a from r1)
    cases (show u2 = Value.type n from r2)
    obtain ⟨t1, ho⟩ := exo_at I.hok e
    obtain ⟨mA, ⟨od, es, ep, hd', _⟩, _⟩ := exd_at I.hok g
    refine PySem.W.kia_one (PySem.W.kitx_exc T.hcl T.hga T.hgt T.hsub T.hc T.hn T.htk T.hm) I.kIn (show PySem.W.InstAt s.heap a _ C (some od) from ⟨ho, rfl, rfl, hd'⟩) (he C a T) (fun z => nomatch z) fun tk => ⟨.bl _, H, I.tok tk, rfl, q⟩
theorem call_isInt : CallR X (.builtin "isinstance") (rIs X.K "int" isInt) := by
  refine is_of ?_ ?_ ?_ ?_ ?_ ?_ ?_ (fun C a T => T.k1) <;> first | (intros; show kitB _ _ = some true; decide +kernel) | (intros; show kitB _ _ = some false; decide +kernel)
theorem call_isBool : CallR X (.builtin "isinstance") (rIs X.K "bool" isBool) := by
  refine is_of ?_ ?_ ?_ ?_ ?_ ?_ ?_ (fun C a T => T.k2) <;> first | (intros; show kitB _ _ = some true; decide +kernel) | (intros; show kitB _ _ = some false; decide +kernel)
theorem call_isStr : CallR X (.builtin "isinstance") (rIs X.K "str" isStr) := by
  refine is_of ?_ ?_ ?_ ?_ ?_ ?_ ?_ (fun C a T => T.k3) <;> first | (intros; show kitB _ _ = some true; decide +kernel) | (intros; show kitB _ _ = some false; decide +kernel)
/-- x is True, x an int or a truth -/
def rNotTr : R2 := fun x y H Q => (isInt x = true) ∧ ∃ b, y = .bl b ∧ Q (.bl (!decide (x = .bl b))) H
theorem op_isnotb : OpR X (compareOp .IsNot) rNotTr := by
  intro pins s σ H x y v u Q I rx ry h
  obtain ⟨hx, b, rfl, q⟩ := h
  cases (show u = Value.bool b from ry)
  cases x with
  | int i =>
    obtain ⟨t, rfl⟩ := rx
    exact wpAny_isNot_other rfl (fun z => nomatch z) ⟨.bl true, H, I, rfl, by simpa using q⟩
  | bl a =>
    cases (show v = Value.bool a from rx)
    by_cases e : a = b
    · subst e
      exact wpAny_isNot_self rfl ⟨.bl false, H, I, rfl, by simpa using q⟩
    · exact wpAny_isNot_other rfl (fun z => e (Value.bool.inj z)) ⟨.bl true, H, I, rfl, by simpa [e] using q⟩
  | _ => cases hx
end
end Dz

set_option Elab.async false
set_option linter.all false
set_option maxRecDepth 100000
set_option maxHeartbeats 2000000
/-! What the laws' own draws promise. -/
namespace Dz
open PySem PySem.Spec PyProof.Rows L2
/-- a bag of draws at p, from which at most c times a number was made -/
def Bg (H : Hp) (p : Addr) (c : Int) : Prop := ∃ a b k : Int, H p = some (.lst [.int a, .int b, .int k]) ∧ 0 ≤ a ∧ 0 ≤ b ∧ b < 2147483629 ∧ 0 ≤ k ∧ k ≤ c
theorem Bg.more {H : Hp} {p : Addr} {c d : Int} (h : Bg H p c) (e : c ≤ d) : Bg H p d := by
  obtain ⟨a, b, k, h1, h2, h3, h4, h5, h6⟩ := h
  exact ⟨a, b, k, h1, h2, h3, h4, h5, by omega⟩
theorem Bg.same {H H' : Hp} {p : Addr} {c : Int} (h : Bg H p c) (e : Same H H') : Bg H' p c := by
  obtain ⟨a, b, k, h1, r⟩ := h
  exact ⟨a, b, k, e _ _ h1, r⟩
theorem Bg.ne {H : Hp} {p q : Addr} {c : Int} (h : Bg H p c) (e : H q = none) : q ≠ p := by
  obtain ⟨a, b, k, h1, r⟩ := h
  exact (ne_of_none h1 e).symm
/-- _law_cell -/
def spCel (K : PySem.W.Frag) : Sp := fun vs H Q _ => ∃ (a : Addr) (ns : List Int) (k : Int), vs = [.ref a, .int k] ∧ SqL K H a (ns.map V.int) ∧ ns.length ≤ 63 ∧ 0 ≤ k ∧ k ≤ 1000 ∧ ∀ (z : Int) H', Same H H' → Q (.int z) H'
/-- _law_bag -/
def spBag : Sp := fun vs H Q _ => ∃ z : Int, vs = [.int z] ∧ ∀ p H', H p = none → Same H H' → Bg H' p 0 → Q (.ref p) H'
/-- _law_take -/
def spTake : Sp := fun vs H Q _ => ∃ (p : Addr) (n c : Int), vs = [.ref p, .int n] ∧ Bg H p c ∧ c ≤ 1000000 ∧ 0 < n ∧ n.natAbs < 2 ^ 200 ∧ ∀ (d : Int) H', 0 ≤ d → d < n → Bt p H H' → Bg H' p (c + 1) → Q (.int d) H'
theorem take_now {H : Hp} {Q : VK} {E : XK} {p : Addr} {n c : Int} (b : Bg H p c) (hc : c ≤ 1000000) (h0 : 0 < n) (hn : n.natAbs < 2 ^ 200)
    (k : ∀ (d : Int) H', 0 ≤ d → d < n → Bt p H H' → Bg H' p (c + 1) → Q (.int d) H') : spTake [.ref p, .int n] H Q E := ⟨p, n, c, rfl, b, hc, h0, hn, k⟩
theorem take_num {b k m : Int} (h0 : 0 ≤ b) (h1 : b < 2147483629) (h2 : 0 ≤ k) (h3 : k ≤ 1000000) (h4 : 0 ≤ m) (h5 : m ≤ 1000) : (b + 7919 * (k + 1) + m).natAbs < 2 ^ 64 := by
  have : b + 7919 * (k + 1) + m < 2 ^ 40 := by omega
  omega
theorem take_num2 {b k : Int} (h0 : 0 ≤ b) (h1 : b < 2147483647) (h2 : 0 ≤ k) (h3 : k ≤ 1000000) : (b + 15485863 * (k + 1)).natAbs < 2 ^ 64 := by
  have : b + 15485863 * (k + 1) < 2 ^ 50 := by omega
  omega
theorem ints3 {a b k : Int} : ([.int a, .int b, .int k] : List V) = [V.int a, V.int b, V.int k] := rfl
theorem atI0 {x : V} {l : List V} : atI (x :: l) 0 = some x := atI_of (Int.le_refl _) rfl
theorem atI1 {x y : V} {l : List V} : atI (x :: y :: l) 1 = some y := atI_of (by decide) rfl
theorem atI2 {x y z : V} {l : List V} : atI (x :: y :: z :: l) 2 = some z := atI_of (by decide) rfl
theorem mulW_small {i j : Int} (h1 : i.natAbs < 2 ^ 300) (h2 : j.natAbs < 2 ^ 300) : CMulW i j := wide_mul h1 h2 (by decide) (by decide) (by decide)
end Dz

set_option Elab.async false
set_option linter.all false
set_option maxRecDepth 100000
set_option maxHeartbeats 2000000
namespace Dz
open PySem PySem.Spec PyProof.Rows L2
/-- a new dict; a new error of the class at C -/
def NewD (H : Hp) (Q : VK) : Prop := ∀ p, H p = none → Q (.ref p) (upd H p (.dK []))
def NewE (C : Addr) (f : Str) (y : V) (H : Hp) (Q : VK) : Prop := ∀ a d, H a = none → H d = none → d ≠ a → Q (.ref a) (upd (upd H d (exd d [(f, y)])) a (exo a C (some d)))
section
variable {σ : L2.St} {H : Hp} {Q : VK} {te tl to : TE} {ta : TA} {K : PySem.W.Frag}
theorem w_sl {r : V → Option Int → Option Int → Hp → VK → Prop} {t1 t2 : TO} (k : te σ H fun x H1 => t1 σ H1 fun l H2 => t2 σ H2 fun u H3 => r x l u H3 Q) : tSl r te t1 t2 σ H Q := k
theorem w_nopart {Q : Option Int → Hp → Prop} (k : Q none H) : tNoPart σ H Q := k
theorem w_part {Q : Option Int → Hp → Prop} (k : te σ H fun x H1 => ∃ i, x = .int i ∧ Q (some i) H1) : tPart te σ H Q := k
theorem w_int {Q : Int → Prop} {i : Int} (k : Q i) : ∃ j, V.int i = .int j ∧ Q j := ⟨i, rfl, k⟩
theorem w_m1 {r : V → List V → Hp → VK → Prop} (k : to σ H fun x H1 => (∃ a, x = .str a) ∧ te σ H1 fun y H2 => r x [y] H2 Q) : tM1 r to te σ H Q := k
theorem w_strA {a : Str} {P : Prop} (k : P) : (∃ b, V.str a = .str b) ∧ P := ⟨⟨a, rfl⟩, k⟩
theorem w_rEqr {x y : V} (hs : scal x y = true) (k : Q (.bl (decide (x = y))) H) : rEq x y H Q := ⟨hs, k⟩
theorem w_chain {r r' : R2} {ta tb tc : TE} (k : ta σ H fun x H1 => tb σ H1 fun y H2 => r x y H2 fun z H3 => ∃ k, z = .bl k ∧ (if k = true then tc σ H3 fun w' H4 => r' y w' H4 Q else Q (.bl false) H3)) : tChain r r' ta tb tc σ H Q := k
theorem w_vei (k : ta σ H fun vs H1 => ∃ (a C : Addr) (ws : List V), vs = .ref a :: ws ∧ ws.length ≤ 1000 ∧ OexC K C ∧ H1 a = some (exo a C none) ∧ Q .non H1) : tVeI K ta σ H Q := k
theorem w_revL (k : te σ H fun x H1 => ∃ a xs, x = .ref a ∧ SqL K H1 a xs ∧ NewL xs.reverse H1 Q) : tRevL K te σ H Q := k
theorem w_slL {a : Addr} {xs : List V} {lo hi : Option Int} (h : SqL K H a xs) (k : NewL (cutV xs lo hi) H Q) : rSlL K (.ref a) lo hi H Q := ⟨a, xs, rfl, h, k⟩
theorem w_cat {l b : Addr} {xs zs : List V} (h1 : H l = some (.lst xs)) (h2 : H b = some (.lst zs)) (hz : xs.length + zs.length ≤ sizeLine) (k : NewL (xs ++ zs) H Q) : rCat (.ref l) (.ref b) H Q := ⟨l, b, xs, zs, rfl, rfl, h1, h2, hz, k⟩
theorem w_dnew (k : NewD H Q) : tDNewK σ H Q := k
theorem w_disp {trs : List (TE × TE)} (k : ∀ p G, H p = none → Same H G → G p = some (.dK []) → tPairs trs σ G fun ps H2 => H2 p = some (.dK []) ∧ ∃ kvs : List (Key × V), ps = kvs.map (fun kv => (kV kv.1, kv.2)) ∧ kvs.length ≤ 15 ∧ Q (.ref p) (upd H2 p (.dK (mergeK [] kvs)))) : tDisp trs σ H Q := fun p np => k p _ np (same_new np) upd_same
/-- self.f = y of an error that has no dict yet -/
theorem w_ost {f : Str} {nx : L2.St → Hp → Prop} {rt : VK} {bk ct : L2.St → Hp → Prop} (k : te σ H fun y H1 => to σ H1 fun x H2 => ∃ a C : Addr, x = .ref a ∧ OexC K C ∧ PySem.W.findIn K (.ref C) f = some none ∧
  ((H2 a = some (exo a C none) ∧ ∀ dx, H2 dx = none → dx ≠ a → nx σ (upd (upd H2 dx (exd dx [(f, y)])) a (exo a C (some dx)))) ∨
    ∃ (dx : Addr) (fs : List (Str × V)), H2 a = some (exo a C (some dx)) ∧ H2 dx = some (exd dx fs) ∧ fs.length ≤ 900 ∧ nx σ (upd H2 dx (exd dx ((f, y) :: fs))))) : tOst K f to te ⟨nx, rt, bk, ct⟩ σ H := k
end
/-- C.__init__(self, found) -/
def spErr (f : Str) (C : Addr) : Sp := fun vs H Q _ => ∃ (a : Addr) (y : V), vs = [.ref a, y] ∧ H a = some (exo a C none) ∧ ∀ d, H d = none → d ≠ a → Q .non (upd (upd H d (exd d [(f, y)])) a (exo a C (some d)))
/-- a class of errors as the top has made it -/
structure Er (K : PySem.W.Frag) (mg : Str → Option Value) (x f : Str) (C fI : Addr) : Prop where
  mg : mg x = some (.ref C)
  oex : OexC K C
  ini : PySem.W.findIn K (.ref C) "__init__" = some (some (.ref fI))
  ty : PySem.W.typeIn K (.ref fI) = some (.type "function")
  nof : PySem.W.findIn K (.ref C) f = some none
  ei : EI K C
/-- x(e) as a value -/
theorem er_call {X : Cx} {x f : Str} {C fI : Addr} {k : Nat} (T : Er X.K X.mg x f C fI) (G : Kp X.prog X.w X.K X.mg X.base CX0 k fI ["self", "found"] [] (spErr f C)) (hcl : Calm X.A) (hr : Room (k + 1) X.A) :
    CallR X (.ref C) (fun vs H Q => ∃ y, vs = [y] ∧ NewE C f y H Q) := by
  intro pins s σ H vs us Q I r h
  obtain ⟨fd, F, b⟩ := G.ex
  obtain ⟨y, rfl, q⟩ := h
  refine call_err T.oex T.ini T.ty F hcl hr b pass0 pins s σ H [y] us Q I r ⟨(by show 1 ≤ 1000; decide), fun a na => ⟨a, y, rfl, upd_same, fun d nd hd => ⟨rfl, ?_⟩⟩⟩
  have nd' : H d = none := by rw [upd_ne hd] at nd; exact nd
  have e : upd (upd (upd H a (exo a C none)) d (exd d [(f, y)])) a (exo a C (some d)) = upd (upd H d (exd d [(f, y)])) a (exo a C (some d)) := by
    funext z
    unfold upd
    by_cases h1 : z = a
    · rw [if_pos h1, if_pos h1]
    · rw [if_neg h1, if_neg h1, if_neg h1]
  rw [e]
  exact q a d na nd' hd

/-! ### lists and texts -/
theorem map_at {ns : List Int} {k : Int} (h0 : 0 ≤ k) (h : k < (ns.map V.int).length) : ∃ z, z ∈ ns ∧ atI (ns.map V.int) k = some (.int z) := by
  rw [List.length_map] at h
  have hk : k.toNat < ns.length := by omega
  exact ⟨ns[k.toNat], List.getElem_mem _, atI_of h0 (by rw [List.getElem?_map, List.getElem?_eq_getElem hk]; rfl)⟩
theorem pick {ns : List Int} {l : List V} {k : Int} {m : Int} (e : l = ns.map V.int) (h0 : 0 ≤ k) (h1 : k < m) (hm : m ≤ ns.length) : ∃ z, z ∈ ns ∧ atI l k = some (.int z) := by
  subst e
  exact map_at h0 (by rw [List.length_map]; omega)
theorem cut_ints (ns : List Int) (lo hi : Option Int) : ∃ ms : List Int, cutV (ns.map V.int) lo hi = ms.map V.int :=
  ⟨(ns.drop (HT.sIx (ns.map V.int).length 0 lo)).take (HT.sIx (ns.map V.int).length (ns.map V.int).length hi - HT.sIx (ns.map V.int).length 0 lo), by unfold cutV; rw [← List.map_drop, ← List.map_take]⟩
/-- texts of plain signs -/
def Asc (z : Str) : Prop := ∀ c ∈ z.cps.toList, c < 128
theorem asc_ok {z : Str} (h : Asc z) : PyData.strOk z = true := by
  unfold PyData.strOk
  rw [Array.all_eq_true']
  intro c hc
  have := h c (by simpa using hc)
  exact decide_eq_true (by omega)
theorem dp_strs {K : PySem.W.Frag} {H : Hp} : ∀ zs : List Str, DpAll K H (zs.map V.str) (zs.map PyData.str)
  | [] => .nil
  | z :: zs => .cons (.str z) (dp_strs zs)
theorem lay_strs : ∀ {zs : List Str}, (∀ z ∈ zs, Asc z) → PyData.canLayAll0 (zs.map PyData.str) = true
  | [], _ => rfl
  | z :: zs, h => by
    have h1 := asc_ok (h z List.mem_cons_self)
    have h2 := lay_strs fun y hy => h y (List.mem_cons_of_mem _ hy)
    simp only [List.map_cons, PyData.canLayAll0, PyData.canLay0, h1, h2, Bool.and_self]
theorem dep_strs : ∀ zs : List Str, PyData.depthAll (zs.map PyData.str) = 0
  | [] => rfl
  | z :: zs => by simp only [List.map_cons, PyData.depthAll, PyData.depth, dep_strs zs]; rfl
theorem shaped_strs {zs : List Str} (h : ∀ z ∈ zs, Asc z) : SeqAt.shaped (.list (zs.map PyData.str)) = true := by
  unfold SeqAt.shaped
  have h1 := lay_strs h
  have h2 := dep_strs zs
  simp only [PyData.canLay0, PyData.depth, h1, h2]
  decide
theorem eqv_nil (ds : List PyData) : PyData.eqv (.list ds) (.list []) = ds.isEmpty := by cases ds <;> simp [PyData.eqv, PyData.eqvAll]
theorem join_len (a : Str) (ha : a.length = 0) : ∀ ys : List Str, (Str.join a ys).length = (ys.map (·.length)).sum
  | [] => rfl
  | [x] => by show x.length = _; simp
  | x :: y :: r => by
    show (x ++ a ++ Str.join a (y :: r)).length = _
    rw [PySem.strLen_append, PySem.strLen_append, join_len a ha (y :: r), ha]
    simp [List.sum_cons]
theorem join_mem (a : Str) (ha : a.cps.toList = []) : ∀ (ys : List Str) (c : Nat), c ∈ (Str.join a ys).cps.toList → ∃ y ∈ ys, c ∈ y.cps.toList
  | [], c, h => by
    have h' : c ∈ (Str.empty : Str).cps.toList := h
    exact absurd h' (by simp [Str.empty])
  | [x], c, h => ⟨x, List.mem_cons_self, h⟩
  | x :: y :: r, c, h => by
    have h' : c ∈ ((x ++ a) ++ Str.join a (y :: r)).cps.toList := h
    have e : ((x ++ a) ++ Str.join a (y :: r)).cps.toList = x.cps.toList ++ a.cps.toList ++ (Str.join a (y :: r)).cps.toList := by
      show ((x.cps ++ a.cps) ++ _).toList = _
      simp
    rw [e, ha, List.append_nil] at h'
    rcases List.mem_append.mp h' with q | q
    · exact ⟨x, List.mem_cons_self, q⟩
    · obtain ⟨z, hz, hc⟩ := join_mem a ha (y :: r) c q
      exact ⟨z, List.mem_cons_of_mem _ hz, hc⟩
theorem int_sml {n : Int} (h : n.natAbs < 2 ^ 150) : (Str.ofString (toString n)).length ≤ 1000 ∧ Asc (Str.ofString (toString n)) := by
  have h1 : (toString n).length ≤ 151 := int_text_length_le (k := 150) (by decide) (PySem.Flt.log2_lt_of (by decide) h)
  constructor
  · rw [PySem.ofString_length]
    omega
  · intro c hc
    rw [Str.ofString_eq_toList] at hc
    have hc' : c ∈ (toString n).toList.map Char.toNat := by simpa using hc
    obtain ⟨d, hd, rfl⟩ := List.mem_map.mp hc'
    exact int_ascii n d hd
theorem atI_mem {l : List V} {k : Int} (h0 : 0 ≤ k) (h1 : k < (l.length : Int)) : ∃ x, x ∈ l ∧ atI l k = some x := by
  have hk : k.toNat < l.length := by omega
  exact ⟨l[k.toNat], List.getElem_mem _, atI_of h0 (List.getElem?_eq_getElem hk)⟩
/-! ### new things, at a heap of which only that is known -/
section
variable {H : Hp} {Q : VK} {xs : List V}
theorem newL_mk (k : ∀ p G, H p = none → Same H G → G p = some (.lst xs) → Q (.ref p) G) : NewL xs H Q := fun p np => k p _ np (same_new np) upd_same
theorem newT_mk (k : ∀ p G, H p = none → Same H G → G p = some (.tup xs) → Q (.ref p) G) : NewT xs H Q := fun p np => k p _ np (same_new np) upd_same
theorem newD_mk (k : ∀ p G, H p = none → Same H G → G p = some (.dK []) → Q (.ref p) G) : NewD H Q := fun p np => k p _ np (same_new np) upd_same
theorem newE_mk {C : Addr} {f : Str} {y : V} (k : ∀ a d G, H a = none → H d = none → d ≠ a → Same H G → G a = some (exo a C (some d)) → G d = some (exd d [(f, y)]) → Q (.ref a) G) : NewE C f y H Q := fun a d na nd h =>
  k a d _ na nd h (fun b o e => by rw [upd_ne (ne_of_none e na), upd_ne (ne_of_none e nd)]; exact e) upd_same (by rw [upd_ne h, upd_same])
end
/-! ### comprehensions whose turns change nothing that stands -/
section
variable {σ : L2.St} {H : Hp} {Q : VK} {te : TE} {g : TG} {tt : TT} {vs : List Nat} {n : Nat} {Gd : Hp → Prop} {Yd : Nat → V → Prop}
theorem lcs_of {α : Type} (cs : List α) (keep : α → Bool) (f : α → V) (hn : cs.length = n) (hz : n ≤ 100000) (hG : ∀ H', Same H H' → Gd H')
    (turn : ∀ i c x H' (R : VK) (S : Hp → Prop), cs[i]? = some c → Yd i x → Same H H' → (keep c = true → ∀ H4, Same H' H4 → R (f c) H4) → (keep c = false → ∀ H4, Same H' H4 → S H4) →
      g x (wipe σ vs) H' fun σ2 H2 => wipe σ2 vs = wipe σ vs ∧ tt σ2 H2 fun b H3 => if b = true then te σ2 H3 R else S H3)
    (fin : ∀ D H', H D = none → Same H H' → H' D = some (.lst ((cs.filter keep).map f)) → Q (.ref D) H') : Lcs n Gd Yd g tt te vs σ H Q := by
  intro D hD
  refine ⟨fun i H' => Same H H' ∧ H' D = some (.lst (((cs.take i).filter keep).map f)), ⟨same_new hD, upd_same⟩, fun i H' _ p => hG H' p.1, ?_, fun H' p => ?_⟩
  · rintro i x H' hi hy ⟨s1, d1⟩
    obtain ⟨c, hc⟩ : ∃ c, cs[i]? = some c := ⟨cs[i]'(by omega), List.getElem?_eq_getElem (by omega)⟩
    have e : cs.take (i + 1) = cs.take i ++ [c] := by rw [List.take_add_one, hc]; rfl
    refine turn i c x H' _ _ hc hy s1 (fun hk H4 s2 => ?_) (fun hk H4 s2 => ?_)
    · refine ⟨_, s2 _ _ d1, ?_, ?_, ?_⟩
      · rw [List.length_map]
        have h1 := List.length_filter_le keep (cs.take i)
        rw [List.length_take] at h1
        rw [sizeLine_eq]
        omega
      · intro b o q
        have nb : b ≠ D := ne_of_none q hD
        rw [upd_ne nb]
        exact s2 _ _ (s1 _ _ q)
      · rw [upd_same, e, List.filter_append, List.map_append]
        simp [hk]
    · refine ⟨s1.trans s2, ?_⟩
      rw [e, List.filter_append]
      simp [hk]
      exact s2 _ _ d1
  · obtain ⟨s1, d1⟩ := p
    rw [List.take_of_length_le (by omega)] at d1
    exact fin D H' hD s1 d1
end
theorem Bt.put {p q : Addr} {H H' : Hp} {o : HO} (e : Bt p H H') (h : H q = none) : Bt p H (upd H' q o) := fun b u n k => by rw [upd_ne (ne_of_none k h)]; exact e b u n k
theorem Bg.put {H : Hp} {p q : Addr} {c : Int} {o : HO} (h : Bg H p c) (n : q ≠ p) : Bg (upd H q o) p c := by
  obtain ⟨a, b, k, h1, r⟩ := h
  exact ⟨a, b, k, by rw [upd_ne n.symm]; exact h1, r⟩
theorem keep_all {α : Type} (cs : List α) : cs.filter (fun _ => true) = cs := by simp
theorem Kn.same {K : PySem.W.Frag} {p : Addr} {H H' : Hp} {v : V} (h : Kn K p H v) (e : Same H H') : Kn K p H' v := h.mono (.of e)
end Dz

set_option Elab.async false
set_option linter.all false
set_option maxRecDepth 100000
set_option maxHeartbeats 2000000
/-! Keywords, defaults; two targets at once. -/
namespace Dz
open PySem PySem.Spec PyProof.Rows L2
/-- a def with defaults that keeps its promise -/
structure Kx (P : Program) (w : World) (K : PySem.W.Frag) (mg : Str → Option Value) (base : Heap) (CX : CXT) (k : Nat) (x qual : Str) (st : Stmt) (dvs : List V) (kws : List (Str × V)) (f : Addr) (ps : List Str) (sp : Sp) : Prop where
  ex : ∃ fd, FnG P w K mg base CX k f fd ps sp ∧ FunD K x qual (defArgs st) (defBody st) (defScope st) dvs kws f fd
/-- such a def of the module -/
structure Dx (K : PySem.W.Frag) (mg : Str → Option Value) (x : Str) (st : Stmt) (dvs : List V) (kws : List (Str × V)) (f : Addr) : Prop where
  ex : ∃ fd, FunD K x x (defArgs st) (defBody st) (defScope st) dvs kws f fd
  mg : mg x = some (.ref f)
  kp : PySem.W.keepIn K (.ref f) = true
/-- f called with n values and the keywords ks -/
def CallKR (X : Cx) (f : Value) (n : Nat) (ks : List Str) (r : List V → List V → Hp → VK → Prop) : Prop :=
  ∀ (pins : List (Addr × Obj)) (s : Shared) (σ : L2.St) (H : Hp) (vs zs : List V) (us ws : List Value) (Q : VK), Inv X pins σ H s → Vals vs us → Vals zs ws → vs.length = n → zs.length = ks.length → r vs zs H Q →
    wpAny (model X.prog X.w) X.A (call f us (ks.zip ws)) (EP X pins σ Q) X.xe s
section
variable {X : Cx} {CX : CXT} {k n : Nat} {f : Addr} {fd : FuncData} {ps ks : List Str} {sp : Sp} {E : XK} {x : Str} {p pos : Pos} {e : Expr} {es : List Expr} {kws : List Keyword} {t tk : TA} {g : List Value → List Value → List Value} {gV : List V → List V → List V}
  {r : List V → List V → Hp → VK → Prop}
theorem callKR_fn (F : FnG X.prog X.w X.K X.mg X.base CX k f fd ps sp) (hg : Calm X.A) (hr : Room k X.A) (hb : KBn X.K fd ps n ks g gV) (hx : Passes CX X E) : CallKR X (.ref f) n ks (fun vs zs H Q => sp (gV vs zs) H Q E) := by
  intro pins s σ H vs zs us ws Q I rv rz l1 l2 h
  refine wpAny_call (codeAny_mono (F.go X.A X.stack s H ⟨us, ks.zip ws⟩ (g us ws) (gV vs zs) Q E hg hr I.env0 (hb.to s us ws I.kIn (rv.length.symm.trans l1) (rz.length.symm.trans l2)) (hb.rel rv rz) h) ?_)
  intro rs s' hq
  match rs, hq with
  | .error e, hq => exact hx pins σ H s e s' I hq
  | .ok (.ret u), hq => exact I.after hq
/-- the call with keywords: the values, the keywords' values, how many of each -/
def tCK (n m : Nat) (r : List V → List V → Hp → VK → Prop) (t tk : TA) : TE := fun σ H Q => t σ H fun vs H1 => tk σ H1 fun zs H2 => vs.length = n ∧ zs.length = m ∧ r vs zs H2 Q
theorem pe_fnK (hc : CallKR X (.ref f) n ks r) (hl : Gl X x) (hm : X.mg x = some (.ref f)) (hk : PySem.W.keepIn X.K (.ref f) = true) (ha : PA X (e :: es) t) (hkw : PK X kws tk)
    (hall : (backToKw pos (keywordEach kws X.env)).all (·.1.isSome) = true := by rfl) (hks : (backToKw pos (keywordEach kws X.env)).filterMap (·.1) = ks := by rfl) (hdb : (x == ("__debug__" : Str)) = false := by decide)
    (he : starEach (e :: es) X.env = (false, eval e X.env) :: starEach es X.env := by rfl) (hpl : ((backTo pos (starEach (e :: es) X.env)).any (·.1) || (backToKw pos (keywordEach kws X.env)).any (·.1.isNone)) = false := by rfl) :
    PE X (.Call (.Name x p) (e :: es) kws pos) (tCK n ks.length r t tk) := by
  constructor
  intro pins s σ H Q I h
  refine wpAny_Call_Name_kw (ld_glob I hl hm ?_ hdb)
  refine PySem.W.callWith_KW (h₀ := X.base) I.ok.mod.kin hk hall (thn (ha.run pos pins s σ H _ I h) ?_) hpl he
  rintro us s1 ⟨vs, H1, I1, rv, q⟩
  refine thn (hkw.run pos pins s1 σ H1 _ I1 q) ?_
  rintro ws s2 ⟨zs, H2, I2, rz, l1, l2, q2⟩
  refine ⟨I2.kIn, ?_⟩
  rw [hks]
  exact hc pins s2 σ H2 vs zs us ws Q I2 rv rz l1 l2 q2
theorem pe_fnK0 (hc : CallKR X (.ref f) 0 ks r) (hl : Gl X x) (hm : X.mg x = some (.ref f)) (hk : PySem.W.keepIn X.K (.ref f) = true) (hkw : PK X kws tk)
    (hall : (backToKw pos (keywordEach kws X.env)).all (·.1.isSome) = true := by rfl) (hks : (backToKw pos (keywordEach kws X.env)).filterMap (·.1) = ks := by rfl) (hdb : (x == ("__debug__" : Str)) = false := by decide)
    (hpl : ((backTo pos (starEach [] X.env)).any (·.1) || (backToKw pos (keywordEach kws X.env)).any (·.1.isNone)) = false := by rfl) :
    PE X (.Call (.Name x p) [] kws pos) (tCK 0 ks.length r tNil tk) := by
  constructor
  intro pins s σ H Q I h
  refine wpAny_Call_Name_kw (ld_glob I hl hm ?_ hdb)
  refine PySem.W.callWith_KW0 (h₀ := X.base) I.ok.mod.kin hk hall ?_ hpl
  refine thn (hkw.run pos pins s σ H _ I h) ?_
  rintro ws s2 ⟨zs, H2, I2, rz, l1, l2, q2⟩
  refine ⟨I2.kIn, ?_⟩
  rw [hks]
  exact hc pins s2 σ H2 [] zs [] ws Q I2 .nil rz l1 l2 q2
end
/-! ### binding -/
section
variable {K : PySem.W.Frag} {x qual : Str} {params : Arguments} {body : List Stmt} {scope : Scope} {dvs : List V} {kws : List (Str × V)} {f : Addr} {fd : FuncData} {ps : List Str}
/-- keyword-only defaults alone; ms: those that lack -/
theorem kb_k (F : FunD K x qual params body scope [] kws f fd) (n : Nat) (ks : List Str) (ms : List (Str × V)) (g : {α : Type} → List α → List α → List α → List α) (hk : kws ≠ []) (hms : ∀ q ∈ ms, q ∈ kws)
    (hrel : ∀ {vs mz zs : List V} {us mv ws : List Value}, Vals vs us → Vals mz mv → Vals zs ws → Vals (g vs mz zs) (g us mv ws))
    (h : ∀ (D : Addr) (doc pm : Value) (an : Option Addr) (cdv ct : Value) (us mv ws : List Value), us.length = n → mv.length = ms.length → ws.length = ks.length →
      KwChain D ((ms.map (·.1)).zip mv) (bindArgs (PySem.W.fnOf x qual params body scope .none (.ref D) doc pm an cdv ct) ⟨us, ks.zip ws⟩) (ps.zip (g us mv ws))) :
    ∃ mv : List Value, KBn K fd ps n ks (fun us ws => g us mv ws) (fun vs zs => g vs (ms.map (·.2)) zs) := by
  obtain ⟨oc, od, dV, kV, doc, pm, an, cdv, ct, osl, rfl, lk, hcd, hD, hK⟩ := F.ex
  rcases hD with ⟨_, rfl⟩ | ⟨z, _⟩
  · rcases hK with z | ⟨D, rfl, hq⟩
    · exact absurd z hk
    · obtain ⟨mv, hl, rk, hks⟩ := kwd_vals (ms := ms) fun q hm => hq q (hms q hm)
      exact ⟨mv, fun s us ws X l1 l2 => BindsTo.of_looks fun M => KwChain.looks X hks (h D doc pm an cdv ct us mv ws l1 hl l2), fun r1 r2 => hrel r1 rk r2⟩
  · exact absurd rfl z
/-- defaults by place alone -/
theorem kb_d (F : FunD K x qual params body scope dvs [] f fd) (n : Nat) (ks : List Str) (g : {α : Type} → List α → List α → List α → List α) (hd : dvs ≠ [])
    (hrel : ∀ {vs ds zs : List V} {us its ws : List Value}, Vals vs us → Vals ds its → Vals zs ws → Vals (g vs ds zs) (g us its ws))
    (h : ∀ (T : Addr) (kV doc pm : Value) (an : Option Addr) (cdv ct : Value) (us its ws : List Value), us.length = n → its.length = dvs.length → ws.length = ks.length →
      ∃ k, bindArgs (PySem.W.fnOf x qual params body scope (.ref T) kV doc pm an cdv ct) ⟨us, ks.zip ws⟩ = seqItems? (.ref T) >>= k ∧ k (some its.toArray) = pure (ps.zip (g us its ws))) :
    ∃ its : List Value, KBn K fd ps n ks (fun us ws => g us its ws) (fun vs zs => g vs dvs zs) := by
  obtain ⟨oc, od, dV, kV, doc, pm, an, cdv, ct, osl, rfl, lk, hcd, hD, hK⟩ := F.ex
  rcases hD with ⟨z, _⟩ | ⟨_, T, o, its, m, rfl, lT, oT, rT⟩
  · exact absurd z hd
  · refine ⟨its, fun s us ws X l1 l2 => ?_, fun r1 r2 => hrel r1 rT r2⟩
    obtain ⟨k, e1, e2⟩ := h T kV doc pm an cdv ct us its ws l1 rT.length.symm l2
    refine BindsTo.of_looks fun M => ?_
    rw [e1]
    exact looks_items X lT oT (.of_pure e2)
/-- keywords where nothing is left out -/
theorem kb_n (F : FunD K x qual params body scope dvs kws f fd) (n : Nat) (ks : List Str) (g : {α : Type} → List α → List α → List α)
    (hrel : ∀ {vs zs : List V} {us ws : List Value}, Vals vs us → Vals zs ws → Vals (g vs zs) (g us ws))
    (h : ∀ (dV kV doc pm : Value) (an : Option Addr) (cdv ct : Value) (us ws : List Value), us.length = n → ws.length = ks.length →
      bindArgs (PySem.W.fnOf x qual params body scope dV kV doc pm an cdv ct) ⟨us, ks.zip ws⟩ = pure (ps.zip (g us ws))) :
    KBn K fd ps n ks (fun us ws => g us ws) (fun vs zs => g vs zs) := by
  obtain ⟨oc, od, dV, kV, doc, pm, an, cdv, ct, osl, rfl, lk, hcd, hD, hK⟩ := F.ex
  exact ⟨fun s us ws X l1 l2 => .of_eq (h dV kV doc pm an cdv ct us ws l1 l2), fun r1 r2 => hrel r1 r2⟩
end
/-- a list's items by their places -/
def perm {α : Type} (is : List Nat) (l : List α) : List α := is.filterMap fun i => l[i]?
theorem vals_perm {xs : List V} {us : List Value} (r : Vals xs us) : ∀ is : List Nat, Vals (perm is xs) (perm is us)
  | [] => .nil
  | i :: is => by
    have t := vals_perm r is
    cases e : xs[i]? with
    | none =>
      have e2 := r.none_of e
      have h1 : perm (i :: is) xs = perm is xs := by unfold perm; rw [List.filterMap_cons_none e]
      have h2 : perm (i :: is) us = perm is us := by unfold perm; rw [List.filterMap_cons_none e2]
      rw [h1, h2]
      exact t
    | some x =>
      obtain ⟨u, e2, rx⟩ := r.get e
      have h1 : perm (i :: is) xs = x :: perm is xs := by unfold perm; rw [List.filterMap_cons_some e]
      have h2 : perm (i :: is) us = u :: perm is us := by unfold perm; rw [List.filterMap_cons_some e2]
      rw [h1, h2]
      exact .cons rx t
theorem callKR_x {X : Cx} {CX : CXT} {k n : Nat} {x qual : Str} {st : Stmt} {dvs : List V} {kws : List (Str × V)} {f : Addr} {ps ks : List Str} {sp : Sp} {E : XK} {gV : List V → List V → List V}
    (G : Kx X.prog X.w X.K X.mg X.base CX k x qual st dvs kws f ps sp) (hg : Calm X.A) (hr : Room k X.A) (hb : ∀ fd, FunD X.K x qual (defArgs st) (defBody st) (defScope st) dvs kws f fd → ∃ g, KBn X.K fd ps n ks g gV) (hx : Passes CX X E) :
    CallKR X (.ref f) n ks (fun vs zs H Q => sp (gV vs zs) H Q E) := by
  obtain ⟨fd, F, D⟩ := G.ex
  obtain ⟨g, b⟩ := hb fd D
  exact callKR_fn F hg hr b hx
theorem callR_x {X : Cx} {CX : CXT} {k : Nat} {x qual : Str} {st : Stmt} {dvs ms : List V} {kws : List (Str × V)} {f : Addr} {ps : List Str} {sp : Sp} {E : XK}
    (G : Kx X.prog X.w X.K X.mg X.base CX k x qual st dvs kws f ps sp) (hg : Calm X.A) (hr : Room k X.A) (hb : ∀ fd, FunD X.K x qual (defArgs st) (defBody st) (defScope st) dvs kws f fd → ∃ ds, Vals ms ds ∧ Binds X.K fd ps ds) (hx : Passes CX X E) :
    CallR X (.ref f) (fun vs H Q => sp (vs ++ ms) H Q E) := by
  obtain ⟨fd, F, D⟩ := G.ex
  obtain ⟨ds, r, b⟩ := hb fd D
  exact callR_fn F hg hr b r hx
section
variable {σ : L2.St} {H : Hp} {Q : VK} {t tk : TA} {i j : Nat} {nx : L2.St → Hp → Prop} {rt : VK} {bk ct : L2.St → Hp → Prop}
theorem w_ck {n m : Nat} {r : List V → List V → Hp → VK → Prop} (k : t σ H fun vs H1 => tk σ H1 fun zs H2 => vs.length = n ∧ zs.length = m ∧ r vs zs H2 Q) : tCK n m r t tk σ H Q := k
theorem w_ckl {vs zs : List V} {n m : Nat} {P : Prop} (h1 : vs.length = n) (h2 : zs.length = m) (k : P) : vs.length = n ∧ zs.length = m ∧ P := ⟨h1, h2, k⟩
theorem w_par (k : t σ H fun vs H1 => ∃ v w, vs = [v, w] ∧ nx ((σ.set i (some v)).set j (some w)) H1) : tPar i j t ⟨nx, rt, bk, ct⟩ σ H := k
theorem w_pair {Q : V → V → Prop} {v w : V} (k : Q v w) : ∃ a b, [v, w] = [a, b] ∧ Q a b := ⟨v, w, rfl, k⟩
theorem w_isN {x : V} (k : Q (.bl (decide (x = .non))) H) : (V.non = .non ∧ Q (.bl (decide (x = .non))) H) := ⟨rfl, k⟩
end
/-- a def with defaults, by its body's walk where no repr is under way and nothing is raised -/
theorem fnG_D {P : Program} {w : World} {K : PySem.W.Frag} {mg : Str → Option Value} {base : Heap} {CX : CXT} {x qual : Str} {params : Arguments} {body : List Stmt} {scope : Scope} {dvs : List V} {kws : List (Str × V)} {f : Addr} {fd : FuncData} {N ps : List Str} {k : Nat} {sp : Sp}
    (F : FunD K x qual params body scope dvs kws f fd) (S : FnScope N ps scope) (len : ∀ vs H Q E, sp vs H Q E → vs.length = ps.length)
    (walk : ∀ (cdv : Value) (A : Around) (outer : List Env) (s : Shared) (H : Hp) (vs : List V) (Q : VK) (E : XK), Calm A → Room k (A.deeper (envOfC qual scope s.heap.objs.size f cdv)) → sp vs H Q E →
      ∃ t, PSs (cxOf CX P w K mg base N qual scope f cdv A outer s H E) body t ∧ t { nx := fun _ H' => Q .non H', rt := Q } (start N vs) H) :
    FnG P w K mg base CX (k + 1) f fd ps sp := by
  obtain ⟨oc, od, dV, kV, doc, pm, an, cdv, ct, osl, rfl, lk, hcd, _, _⟩ := F.ex
  exact fnG_at lk hcd S len fun A outer s H vs Q E hg hr hsp => walk cdv A outer s H vs Q E hg hr hsp
theorem fnG_Dnx {P : Program} {w : World} {K : PySem.W.Frag} {mg : Str → Option Value} {base : Heap} {x qual : Str} {params : Arguments} {body : List Stmt} {scope : Scope} {dvs : List V} {kws : List (Str × V)} {f : Addr} {fd : FuncData} {N ps : List Str} {k : Nat} {sp : Sp}
    (F : FunD K x qual params body scope dvs kws f fd) (S : FnScope N ps scope) (len : ∀ vs H Q E, sp vs H Q E → vs.length = ps.length)
    (walk : ∀ (cdv : Value) (A : Around) (outer : List Env) (s : Shared) (H : Hp) (vs : List V) (Q : VK) (E : XK), Calm A → Room k (A.deeper (envOfC qual scope s.heap.objs.size f cdv)) → sp vs H Q E →
      ∃ t, PSs (cxOf CX0 P w K mg base N qual scope f cdv A outer s H E).nox body t ∧ t { nx := fun _ H' => Q .non H', rt := Q } (start N vs) H) :
    FnG P w K mg base CX0 (k + 1) f fd ps sp := fnG_D F S len fun cdv A outer s H vs Q E hg hr hsp => by
  obtain ⟨t, h, q⟩ := walk cdv A outer s H vs Q E hg hr hsp
  exact ⟨t, h.nox, q⟩
end Dz

set_option Elab.async false
set_option linter.all false
set_option maxRecDepth 100000
set_option maxHeartbeats 2000000
/-! Texts; how long repr's texts are; further steps. -/
namespace Dz
open PySem PySem.Spec PyProof.Rows L2
theorem asc_empty : Asc "" := by
  intro c hc
  have e : (Str.ofString "").cps.toList = [] := rfl
  rw [e] at hc
  cases hc
theorem at_sign {z : Str} {k : Int} (h0 : 0 ≤ k) (h1 : k < z.length) : ∃ c, c ∈ z.cps.toList ∧ atI z.cps.toList k = some c := by
  have hk : k.toNat < z.cps.toList.length := by
    have : z.cps.toList.length = z.length := by simp [Str.length]
    omega
  have e : k = ((k.toNat : Nat) : Int) := (Int.toNat_of_nonneg h0).symm
  obtain ⟨n, hn⟩ : ∃ n : Nat, n = k.toNat := ⟨_, rfl⟩
  rw [← hn] at e hk
  rw [e]
  exact ⟨z.cps.toList[n], List.getElem_mem _, atI_nat (List.getElem?_eq_getElem hk)⟩
/-- texts of one plain sign each -/
def One (zs : List Str) : Prop := ∀ z ∈ zs, z.length = 1 ∧ Asc z
theorem one_nil : One [] := fun _ h => nomatch h
theorem one_sum : ∀ {zs : List Str}, One zs → (zs.map (·.length)).sum = zs.length
  | [], _ => rfl
  | z :: zs, h => by
    rw [List.map_cons, List.sum_cons, (h z List.mem_cons_self).1, one_sum fun y hy => h y (List.mem_cons_of_mem _ hy), List.length_cons]
    omega
theorem one_set {zs : List Str} {j : Nat} {y : Str} (h : One zs) (hy : y.length = 1 ∧ Asc y) : One (zs.set j y) := fun z hz => by
  rcases List.mem_or_eq_of_mem_set hz with q | q
  · exact h z q
  · rw [q]; exact hy
theorem one_more {zs : List Str} {y : Str} (h : One zs) (hy : y.length = 1 ∧ Asc y) : One (zs ++ [y]) := fun z hz => by
  rcases List.mem_append.mp hz with q | q
  · exact h z q
  · rw [List.mem_singleton.mp q]; exact hy
theorem one_join {zs : List Str} (h : One zs) : (Txt.join "" zs).length = zs.length ∧ Asc (Txt.join "" zs) := by
  rw [TL.join_eq]
  refine ⟨(join_len "" rfl zs).trans (one_sum h), fun c hc => ?_⟩
  obtain ⟨y, hy, hc'⟩ := join_mem "" rfl zs c hc
  exact (h y hy).2 c hc'
theorem one_sign {c : Nat} (h : c < 128) : (⟨#[c]⟩ : Str).length = 1 ∧ Asc ⟨#[c]⟩ := ⟨rfl, fun d hd => by
  have : d = c := by simpa using hd
  rw [this]; exact h⟩
theorem asc_app {x y : Str} (hx : Asc x) (hy : Asc y) : Asc (x ++ y) := fun c hc => by
  have e : (x ++ y).cps.toList = x.cps.toList ++ y.cps.toList := by
    show (x.cps ++ y.cps).toList = _
    simp
  rw [e] at hc
  rcases List.mem_append.mp hc with h | h
  · exact hx c h
  · exact hy c h
theorem cut_mem {z : Str} {lo hi : Option Int} {c : Nat} (h : c ∈ (cutS z lo hi).cps.toList) : c ∈ z.cps.toList := by
  unfold cutS at h
  have h' : c ∈ (z.cps.toList.drop (HT.sIx z.length 0 lo)).take (HT.sIx z.length z.length hi - HT.sIx z.length 0 lo) := by simpa using h
  exact List.mem_of_mem_drop (List.mem_of_mem_take h')
theorem asc_cut {z : Str} {lo hi : Option Int} (h : Asc z) : Asc (cutS z lo hi) := fun c hc => h c (cut_mem hc)
/-! ### how long a shown thing is -/
theorem sh_list {ds : List PyData} {B : Nat} (h : ∀ d ∈ ds, d.shown.length ≤ B) : (PyData.list ds).shown.length ≤ (B + 2) * ds.length + 3 := by
  have h1 := listText_len_le (PyData.shownAll ds)
  have h2 : ∀ l : List PyData, (∀ d ∈ l, d.shown.length ≤ B) → ((PyData.shownAll l).map (·.length)).sum ≤ B * l.length := by
    intro l
    induction l with
    | nil => intro _; simp [PyData.shownAll]
    | cons d l ih =>
      intro hl
      have a := hl d List.mem_cons_self
      have b := ih fun e he => hl e (List.mem_cons_of_mem _ he)
      simp only [PyData.shownAll, List.map_cons, List.sum_cons, List.length_cons]
      rw [Nat.mul_add]
      omega
  have h3 := h2 ds h
  have h4 := PyData.shownAll_length ds
  show (listText (PyData.shownAll ds)).length ≤ _
  rw [Nat.add_mul]
  omega
theorem sh_tup {ds : List PyData} {B : Nat} (h : ∀ d ∈ ds, d.shown.length ≤ B) : (PyData.tuple ds).shown.length ≤ (B + 2) * ds.length + 3 := by
  have h1 := tupleText_len_le (PyData.shownAll ds)
  have h2 : ∀ l : List PyData, (∀ d ∈ l, d.shown.length ≤ B) → ((PyData.shownAll l).map (·.length)).sum ≤ B * l.length := by
    intro l
    induction l with
    | nil => intro _; simp [PyData.shownAll]
    | cons d l ih =>
      intro hl
      have a := hl d List.mem_cons_self
      have b := ih fun e he => hl e (List.mem_cons_of_mem _ he)
      simp only [PyData.shownAll, List.map_cons, List.sum_cons, List.length_cons]
      rw [Nat.mul_add]
      omega
  have h3 := h2 ds h
  have h4 := PyData.shownAll_length ds
  show (tupleText (PyData.shownAll ds)).length ≤ _
  rw [Nat.add_mul]
  omega
theorem sh_int {i : Int} (h : i.natAbs.log2 < 1920) : (PyData.int i).shown.length ≤ 1921 := by
  have := int_text_length_le (a := i) (k := 1920) (by decide) h
  show (Str.ofString (toString i)).length ≤ _
  rw [PySem.ofString_length]
  exact this
theorem sh_none : (PyData.none).shown.length ≤ 1921 := by decide +kernel
theorem sh_bool (b : Bool) : (PyData.bool b).shown.length ≤ 1921 := by cases b <;> decide +kernel
theorem sh_str {x : Str} (h : Asc x) : (PyData.str x).shown.length ≤ 10 * x.length + 2 := by
  have := StrLaws.reprText_len x fun c hc => Nat.lt_of_lt_of_le (h c hc) (by decide)
  show (reprText x).length ≤ _
  omega
section
variable {σ : L2.St} {H : Hp} {Q : VK} {te tl to : TE} {t : TA} {K : PySem.W.Frag}
theorem w_slS {z : Str} {lo hi : Option Int} (hz : z.length ≤ sizeLine) (k : Q (.str (cutS z lo hi)) H) : rSlS (.str z) lo hi H Q := ⟨z, rfl, hz, k⟩
theorem w_ixS {z : Str} {i : Int} {c : Nat} (hz : z.length ≤ sizeLine) (ha : atI z.cps.toList i = some c) (k : Q (.str ⟨#[c]⟩) H) : rIxS (.str z) (.int i) H Q := ⟨z, i, c, rfl, rfl, hz, ha, k⟩
theorem w_nn {P : Prop} (k : P) : V.non = V.non ∧ P := ⟨rfl, k⟩
theorem w_bm {T : String} {r : V → List V → Hp → VK → Prop} (k : to σ H fun x H1 => tyV K T x H1 ∧ t σ H1 fun xs H2 => r x xs H2 Q) : tBM K T r to t σ H Q := k
theorem w_bm0 {T : String} {r : V → List V → Hp → VK → Prop} (k : to σ H fun x H1 => tyV K T x H1 ∧ r x [] H1 Q) : tBM0 K T r to σ H Q := k
theorem w_tyL {l : Addr} {xs : List V} {P : Prop} (h : H l = some (.lst xs)) (k : P) : tyV K "list" (.ref l) H ∧ P := ⟨Or.inl ⟨rfl, _, Or.inl (Or.inl h)⟩, k⟩
theorem w_append {l : Addr} {xs : List V} {y : V} (h : H l = some (.lst xs)) (hz : xs.length < sizeLine) (k : Q .non (upd H l (.lst (xs ++ [y])))) : rAppend (.ref l) [y] H Q := ⟨l, xs, y, rfl, rfl, h, hz, k⟩
end
end Dz

set_option Elab.async false
set_option linter.all false
set_option maxRecDepth 100000
set_option maxHeartbeats 2000000
/-! What repr can show, with bounds. -/
namespace Dz
open PySem PySem.Spec PyProof.Rows L2
/-- data that repr shows: at most B signs, at most k deep -/
structure Sh (d : PyData) (B k : Nat) : Prop where
  ok : d.showable = true
  nd : d.hasDict = false
  dp : d.depth ≤ k
  ln : d.shown.length ≤ B
theorem Sh.more {d : PyData} {B k B' k' : Nat} (h : Sh d B k) (e : B ≤ B' := by omega) (f : k ≤ k' := by omega) : Sh d B' k' := ⟨h.ok, h.nd, Nat.le_trans h.dp f, Nat.le_trans h.ln e⟩
theorem Sh.int {i : Int} (h : i.natAbs.log2 < 1920) : Sh (.int i) 1921 0 := ⟨decide_eq_true h, rfl, Nat.le_refl 0, sh_int h⟩
theorem Sh.small {i : Int} (h : i.natAbs < 2 ^ 64) : Sh (.int i) 1921 0 := .int (Nat.lt_of_lt_of_le (PySem.Flt.log2_lt_of (k := 64) (by decide) h) (by decide))
theorem Sh.non : Sh .none 1921 0 := ⟨rfl, rfl, Nat.le_refl 0, sh_none⟩
theorem Sh.bl (b : Bool) : Sh (.bool b) 1921 0 := ⟨rfl, rfl, Nat.le_refl 0, sh_bool b⟩
theorem Sh.str {x : Str} (h : Asc x) : Sh (.str x) (10 * x.length + 2) 0 := ⟨rfl, rfl, Nat.le_refl 0, sh_str h⟩
theorem sh_all {ds : List PyData} {B k : Nat} (h : ∀ d ∈ ds, Sh d B k) : PyData.showableAll ds = true ∧ PyData.hasDictAll ds = false ∧ PyData.depthAll ds ≤ k := by
  induction ds with
  | nil => exact ⟨rfl, rfl, Nat.zero_le _⟩
  | cons d ds ih =>
    have a := h d List.mem_cons_self
    obtain ⟨b1, b2, b3⟩ := ih fun e he => h e (List.mem_cons_of_mem _ he)
    refine ⟨?_, ?_, ?_⟩
    · show (d.showable && PyData.showableAll ds) = true
      rw [a.ok, b1]; rfl
    · show (d.hasDict || PyData.hasDictAll ds) = false
      rw [a.nd, b2]; rfl
    · show max d.depth (PyData.depthAll ds) ≤ k
      have := a.dp
      omega
theorem Sh.list {ds : List PyData} {B k : Nat} (h : ∀ d ∈ ds, Sh d B k) : Sh (.list ds) ((B + 2) * ds.length + 3) (k + 1) := by
  obtain ⟨b1, b2, b3⟩ := sh_all h
  exact ⟨b1, b2, Nat.succ_le_succ b3, sh_list fun d hd => (h d hd).ln⟩
theorem Sh.tup {ds : List PyData} {B k : Nat} (h : ∀ d ∈ ds, Sh d B k) : Sh (.tuple ds) ((B + 2) * ds.length + 3) (k + 1) := by
  obtain ⟨b1, b2, b3⟩ := sh_all h
  exact ⟨b1, b2, Nat.succ_le_succ b3, sh_tup fun d hd => (h d hd).ln⟩
theorem w_show {K : PySem.W.Frag} {H : Hp} {Q : VK} {v : V} {d : PyData} {B k : Nat} (dp : Dp K H v d) (s : Sh d B k) (q : Q (.str d.shown) H) (hk : k ≤ 60 := by decide) (hB : B ≤ 16777216 := by decide) : rShow K [v] H Q :=
  ⟨v, d, rfl, dp, s.ok, s.nd, Nat.le_trans s.dp hk, Nat.le_trans s.ln (Nat.le_trans hB (by decide)), q⟩
/-- lists of texts -/
theorem pickS {zs : List Str} {l : List V} {k m : Int} (e : l = zs.map V.str) (h0 : 0 ≤ k) (h1 : k < m) (hm : m ≤ zs.length) : ∃ z, z ∈ zs ∧ atI l k = some (.str z) := by
  subst e
  have hk : k.toNat < zs.length := by omega
  exact ⟨zs[k.toNat], List.getElem_mem _, atI_of h0 (by rw [List.getElem?_map, List.getElem?_eq_getElem hk]; rfl)⟩
theorem cut_len (a : Str) (lo hi : Option Int) : (cutS a lo hi).length ≤ a.length := by
  have e : (cutS a lo hi).length = ((a.cps.toList.drop (HT.sIx a.length 0 lo)).take (HT.sIx a.length a.length hi - HT.sIx a.length 0 lo)).length := by
    show Array.size _ = _
    simp [cutS]
  rw [e, List.length_take, List.length_drop]
  have : a.cps.toList.length = a.length := Array.length_toList
  omega
theorem app_len (x y : Str) : (x ++ y).length = x.length + y.length := PySem.strLen_append x y
/-- the rest, once for two ways to it (by `apply`: P is found by the first `exact rest`) -/
theorem w_both {P G : Prop} (k : P → G) (h : P) : G := k h
end Dz

set_option Elab.async false
set_option linter.all false
set_option maxRecDepth 100000
set_option maxHeartbeats 2000000
/-! Errors raised and caught; new instances; calls where what is raised is wished for at the caller's slots. -/
namespace Dz
open PySem PySem.Spec PyProof.Rows L2
/-! ### calls at slots -/
def CallRS (X : Cx) (f : Value) (r : L2.St → List V → Hp → VK → Prop) : Prop :=
  ∀ (pins : List (Addr × Obj)) (s : Shared) (σ : L2.St) (H : Hp) (vs : List V) (us : List Value) (Q : VK), Inv X pins σ H s → Vals vs us → r σ vs H Q → wpAny (model X.prog X.w) X.A (call f us) (EP X pins σ Q) X.xe s
def CallKS (X : Cx) (f : Value) (n : Nat) (ks : List Str) (r : L2.St → List V → List V → Hp → VK → Prop) : Prop :=
  ∀ (pins : List (Addr × Obj)) (s : Shared) (σ : L2.St) (H : Hp) (vs zs : List V) (us ws : List Value) (Q : VK), Inv X pins σ H s → Vals vs us → Vals zs ws → vs.length = n → zs.length = ks.length → r σ vs zs H Q →
    wpAny (model X.prog X.w) X.A (call f us (ks.zip ws)) (EP X pins σ Q) X.xe s
def tCBS (r : L2.St → List V → Hp → VK → Prop) (t : TA) : TE := fun σ H Q => t σ H fun vs H1 => r σ vs H1 Q
def tCKS (n m : Nat) (r : L2.St → List V → List V → Hp → VK → Prop) (t tk : TA) : TE := fun σ H Q => t σ H fun vs H1 => tk σ H1 fun zs H2 => vs.length = n ∧ zs.length = m ∧ r σ vs zs H2 Q
section
variable {X : Cx} {W : WX} {k n : Nat} {f C : Addr} {fd : FuncData} {ps ks : List Str} {sp : Sp} {x : Str} {p pos : Pos} {e : Expr} {es : List Expr} {kws : List Keyword} {t tk : TA}
theorem callS (F : Kp X.prog X.w X.K X.mg X.base (L2.CX X.prog X.w) k f ps [] sp) (hg : Calm X.A) (hr : Room k X.A) (tkk : Takes X W) : CallRS X (.ref f) (fun σ vs H Q => sp vs H Q (WE W σ)) := by
  intro pins s σ H vs us Q I rv h
  obtain ⟨fd, G, b⟩ := F.ex
  have hl : (us ++ []).length = ps.length := by rw [List.append_nil]; exact rv.length.symm.trans (G.ln _ _ _ _ h)
  have bb := b s us I.kIn hl
  rw [List.append_nil] at bb
  refine wpAny_call (codeAny_mono (G.go X.A X.stack s H ⟨us, []⟩ us vs Q (WE W σ) hg hr I.env0 bb rv h) ?_)
  intro rs s' hq
  match rs, hq with
  | .error e, hq => exact passAt tkk σ pins H s e s' I hq
  | .ok (.ret u), hq => exact I.after hq
theorem pe_fnS {r : L2.St → List V → Hp → VK → Prop} (hc : CallRS X (.ref f) r) (hl : Gl X x) (hm : X.mg x = some (.ref f)) (hk : PySem.W.keepIn X.K (.ref f) = true) (ha : PA X (e :: es) t) (hdb : (x == ("__debug__" : Str)) = false := by decide)
    (he : starEach (e :: es) X.env = (false, eval e X.env) :: starEach es X.env := by rfl) (hpl : (backTo pos (starEach es X.env)).any (·.1) = false := by rfl) : PE X (.Call (.Name x p) (e :: es) [] pos) (tCBS r t) := by
  constructor
  intro pins s σ H Q I h
  refine wpAny_Call_Name_kw (ld_glob I hl hm ?_ hdb)
  refine PySem.W.callWith_K (h₀ := X.base) I.ok.mod.kin hk (thn (ha.run pos pins s σ H _ I h) ?_) he hpl
  rintro us s1 ⟨vs, H1, I1, rv, q⟩
  exact ⟨I1.kIn, hc pins s1 σ H1 vs us Q I1 rv q⟩
theorem pe_fnKS {r : L2.St → List V → List V → Hp → VK → Prop} (hc : CallKS X (.ref f) n ks r) (hl : Gl X x) (hm : X.mg x = some (.ref f)) (hk : PySem.W.keepIn X.K (.ref f) = true) (ha : PA X (e :: es) t) (hkw : PK X kws tk)
    (hall : (backToKw pos (keywordEach kws X.env)).all (·.1.isSome) = true := by rfl) (hks : (backToKw pos (keywordEach kws X.env)).filterMap (·.1) = ks := by rfl) (hdb : (x == ("__debug__" : Str)) = false := by decide)
    (he : starEach (e :: es) X.env = (false, eval e X.env) :: starEach es X.env := by rfl) (hpl : ((backTo pos (starEach (e :: es) X.env)).any (·.1) || (backToKw pos (keywordEach kws X.env)).any (·.1.isNone)) = false := by rfl) :
    PE X (.Call (.Name x p) (e :: es) kws pos) (tCKS n ks.length r t tk) := by
  constructor
  intro pins s σ H Q I h
  refine wpAny_Call_Name_kw (ld_glob I hl hm ?_ hdb)
  refine PySem.W.callWith_KW (h₀ := X.base) I.ok.mod.kin hk hall (thn (ha.run pos pins s σ H _ I h) ?_) hpl he
  rintro us s1 ⟨vs, H1, I1, rv, q⟩
  refine thn (hkw.run pos pins s1 σ H1 _ I1 q) ?_
  rintro ws s2 ⟨zs, H2, I2, rz, l1, l2, q2⟩
  refine ⟨I2.kIn, ?_⟩
  rw [hks]
  exact hc pins s2 σ H2 vs zs us ws Q I2 rv rz l1 l2 q2
theorem pe_fnKS0 {r : L2.St → List V → List V → Hp → VK → Prop} (hc : CallKS X (.ref f) 0 ks r) (hl : Gl X x) (hm : X.mg x = some (.ref f)) (hk : PySem.W.keepIn X.K (.ref f) = true) (hkw : PK X kws tk)
    (hall : (backToKw pos (keywordEach kws X.env)).all (·.1.isSome) = true := by rfl) (hks : (backToKw pos (keywordEach kws X.env)).filterMap (·.1) = ks := by rfl) (hdb : (x == ("__debug__" : Str)) = false := by decide)
    (hpl : ((backTo pos (starEach [] X.env)).any (·.1) || (backToKw pos (keywordEach kws X.env)).any (·.1.isNone)) = false := by rfl) :
    PE X (.Call (.Name x p) [] kws pos) (tCKS 0 ks.length r tNil tk) := by
  constructor
  intro pins s σ H Q I h
  refine wpAny_Call_Name_kw (ld_glob I hl hm ?_ hdb)
  refine PySem.W.callWith_KW0 (h₀ := X.base) I.ok.mod.kin hk hall ?_ hpl
  refine thn (hkw.run pos pins s σ H _ I h) ?_
  rintro ws s2 ⟨zs, H2, I2, rz, l1, l2, q2⟩
  refine ⟨I2.kIn, ?_⟩
  rw [hks]
  exact hc pins s2 σ H2 [] zs [] ws Q I2 .nil rz l1 l2 q2
end
/-! ### new instances -/
/-- C(..): a new thing at x, its names at dx, then __init__ -/
def NewI (C : Addr) (sp : List V → Hp → VK → XK → Prop) (g : V → List V) (H : Hp) (Q : VK) (E : XK) : Prop := ∀ x dx, H x = none → H dx = none → dx ≠ x → sp (g (.ref x)) (upd (upd H dx (.own x)) x (.ins C dx [])) (fun v H2 => v = .non ∧ Q (.ref x) H2) E
section
variable {X : Cx} {CX : CXT} {W : WX} {k n : Nat} {f C : Addr} {fd : FuncData} {ps ks : List Str} {sp : Sp} {gV : List V → List V → List V} {E : L2.St → XK}
theorem callKS_make0 {g : List Value → List Value → List Value} (M : Mk X.K C f) (F : FnG X.prog X.w X.K X.mg X.base CX k f fd ps sp) (hg : Calm X.A) (hr : Room (k + 1) X.A) (hb : KBn X.K fd ps (n + 1) ks g gV) (hx : ∀ σ pins H s e s', Inv X pins σ H s → CX X.stack H s (E σ) e s' → X.xe e s') :
    CallKS X (.ref C) n ks (fun σ vs zs H Q => NewI C sp (fun x => gV (x :: vs) zs) H Q (E σ)) := by
  intro pins s σ H vs zs us ws Q I rv rz l1 l2 h
  have hq := h (s.heap.objs.size + 1) s.heap.objs.size (I.hok.fresh (Nat.le_succ _)) (I.hok.fresh (Nat.le_refl _)) (Nat.ne_of_lt (Nat.lt_succ_self _))
  have J := Inv.made (C := C) I
  have r1 : Vals (V.ref (s.heap.objs.size + 1) :: vs) (Value.ref (s.heap.objs.size + 1) :: us) := .cons rfl rv
  have m1 : (Value.ref (s.heap.objs.size + 1) :: us).length = n + 1 := by rw [List.length_cons, ← rv.length, l1]
  have cal : Calm (X.A.under (.builtin "type.__call__" ⟨.ref C :: us, ks.zip ws⟩)) := by
    unfold Calm at hg ⊢
    simp [Around.under, Code.guards, Code.isGuard, pushGuards, guardIds, hg]
  refine wpAny_call (make_map (f := f) I.kIn M.makes M.init (beq_iff_eq.mp M.fn) (codeAny_mono (F.go _ X.stack _ _ ⟨Value.ref (s.heap.objs.size + 1) :: us, ks.zip ws⟩ (g (Value.ref (s.heap.objs.size + 1) :: us) ws) _ _ (E σ) cal (hr.make C us (ks.zip ws))
    (J.env0.make C us (ks.zip ws)) (hb.to _ _ ws J.kIn m1 (rz.length.symm.trans l2)) (hb.rel r1 rz) hq) ?_))
  intro rs s' hq'
  match rs, hq' with
  | .error e, hq' => exact hx σ pins _ _ e s' J hq'
  | .ok (.ret u), hq' =>
    obtain ⟨v, H', I3, rv', ev, q3⟩ := J.after hq'
    subst ev
    exact ⟨rv', V.ref (s.heap.objs.size + 1), H', I3, rfl, q3⟩
end
section
variable {X : Cx} {W : WX} {k n : Nat} {f C : Addr} {x qual : Str} {st : Stmt} {dvs : List V} {kws : List (Str × V)} {ps ks : List Str} {sp : Sp} {gV : List V → List V → List V}
/-- C(..), what is raised is wished for at the caller's slots -/
theorem callKS_mk (G : Kx X.prog X.w X.K X.mg X.base (L2.CX X.prog X.w) k x qual st dvs kws f ps sp) (M : Mk X.K C f) (hg : Calm X.A) (hr : Room (k + 1) X.A) (hb : ∀ fd, FunD X.K x qual (defArgs st) (defBody st) (defScope st) dvs kws f fd → ∃ g, KBn X.K fd ps (n + 1) ks g gV) (tk : Takes X W) :
    CallKS X (.ref C) n ks (fun σ vs zs H Q => NewI C sp (fun x => gV (x :: vs) zs) H Q (WE W σ)) := by
  obtain ⟨fd, F, D⟩ := G.ex
  obtain ⟨g, b⟩ := hb fd D
  exact callKS_make0 (E := WE W) M F hg hr b fun σ pins H s e s' I c => passAt tk σ pins H s e s' I c
end
/-! ### raising -/
/-- C(e), an error of the program's own with the field f, to be raised -/
def tMkE (C : Addr) (f : Str) (t : TA) : L2.St → Hp → XK → Prop := fun σ H Q => t σ H fun vs H1 => ∃ y, vs = [y] ∧ ∀ d, H1 d = none → Q (.ref C) (some d) (upd H1 d (.xd [(f, y)]))
def tRz (W : WX) (t : L2.St → Hp → XK → Prop) : TS := fun _ σ H => t σ H fun cls d H' => W cls d σ H'
theorem pmk_err {X : Cx} {x f : Str} {C fI : Addr} {k : Nat} {e : Expr} {es : List Expr} {t : TA} {p pos : Pos} (T : Er X.K X.mg x f C fI) (G : Kp X.prog X.w X.K X.mg X.base CX0 k fI ["self", "found"] [] (spErr f C)) (hcl : Calm X.A) (hr : Room (k + 1) X.A) (hg : Gl X x) (ha : PA X (e :: es) t)
    (hdb : (x == ("__debug__" : Str)) = false := by decide) (hst : starEach (e :: es) X.env = (false, eval e X.env) :: starEach es X.env := by rfl) (hpl : (backTo pos (starEach es X.env)).any (·.1) = false := by rfl) : PMk X (.Call (.Name x p) (e :: es) [] pos) (tMkE C f t) := by
  intro pins s σ H Q I h
  obtain ⟨fd, F, b⟩ := G.ex
  obtain ⟨nm, qn, N, bs, bm, sn, sub, ab, col, dd, k0, k1, k2, k3, k5, hC, hbm⟩ := T.oex.cls
  refine wpAny_Call_Name_kw (ld_glob I hg T.mg ?_ hdb)
  refine PySem.W.callWith_K (h₀ := X.base) I.ok.mod.kin T.oex.kC (thn (ha.run pos pins s σ H _ I h) ?_) hst hpl
  rintro us s1 ⟨vs, H1, I1, r1, y, rfl, q1⟩
  refine ⟨I1.kIn, ?_⟩
  obtain ⟨hp, g, dr, tk, os⟩ := s1
  have above : hp.objs.size ≤ hp.objs.size + 1 := Nat.le_succ _
  have na : H1 (hp.objs.size + 1) = none := I1.hok.fresh above
  have kk : ∀ b o, hp.get? b = some o → ((hp.push (PySem.W.kdv_tup us)).push (PySem.HandSPX.excO C hp.objs.size)).get? b = some o := fun b o e => Heap.get?_push_of_some _ (Heap.get?_push_of_some _ e)
  have got : ((hp.push (PySem.W.kdv_tup us)).push (PySem.HandSPX.excO C hp.objs.size)).get? (hp.objs.size + 1) = some (PySem.HandSPX.excO C hp.objs.size) := by heap_get
  have I2 : Inv X pins σ (upd H1 (hp.objs.size + 1) (exo (hp.objs.size + 1) C none)) ⟨(hp.push (PySem.W.kdv_tup us)).push (PySem.HandSPX.excO C hp.objs.size), g, dr, tk, os⟩ := I1.laid (t' := tk) kk above (exo_ok got)
  have r2 : Vals [V.ref (hp.objs.size + 1), y] (Value.ref (hp.objs.size + 1) :: us) := .cons rfl r1
  have lu1 : us.length = 1 := r1.length.symm
  have ll : (Value.ref (hp.objs.size + 1) :: us ++ []).length = (["self", "found"] : List Str).length := by rw [List.append_nil, List.length_cons, lu1]; rfl
  have bnd := b ⟨(hp.push (PySem.W.kdv_tup us)).push (PySem.HandSPX.excO C hp.objs.size), g, dr, tk, os⟩ (Value.ref (hp.objs.size + 1) :: us) I2.kIn ll
  rw [List.append_nil] at bnd
  have cal : Calm (X.A.under (.builtin "type.__call__" ⟨.ref C :: us, []⟩)) := by
    unfold Calm at hcl ⊢
    simp [Around.under, Code.guards, Code.isGuard, pushGuards, guardIds, hcl]
  have hq : spErr f C [V.ref (hp.objs.size + 1), y] (upd H1 (hp.objs.size + 1) (exo (hp.objs.size + 1) C none)) (fun v H2 => v = .non ∧ ∃ d, H2 (hp.objs.size + 1) = some (exo (hp.objs.size + 1) C (some d)) ∧ H2 d = some (exd d [(f, y)]) ∧ H1 d = none ∧ upd (del H2 (hp.objs.size + 1)) d (.xd [(f, y)]) = upd H1 d (.xd [(f, y)])) E0 := by
    refine ⟨hp.objs.size + 1, y, rfl, upd_same, fun d nd hd => ⟨rfl, d, upd_same, by rw [upd_ne hd, upd_same], by rw [upd_ne hd] at nd; exact nd, ?_⟩⟩
    have nd' : H1 d = none := by rw [upd_ne hd] at nd; exact nd
    funext z
    by_cases h1 : z = d
    · rw [h1, upd_same, upd_same]
    · rw [upd_ne h1, upd_ne h1]
      by_cases h2 : z = hp.objs.size + 1
      · rw [h2, del_same, na]
      · rw [del_ne h2, upd_ne h2, upd_ne h1, upd_ne h2]
  refine wpAny_call (PySem.HandSPX.call_own PySem.F.excBase_ValueError (fun Y => PySem.HandSPX.refsVE_contains Y bm hbm) (I1.kIn _ _ hC) (PySem.W.looks_findIn I1.kIn T.ini) (fun self => PySem.W.bind_fn I1.kIn self T.ty) (by show us.length ≤ sizeLine; rw [lu1]; decide)
    (codeAny_mono (F.go _ X.stack _ _ ⟨Value.ref (hp.objs.size + 1) :: us, []⟩ (Value.ref (hp.objs.size + 1) :: us) _ _ E0 cal (hr.make C us []) (I2.env0.make C us []) bnd r2 hq) ?_))
  intro rs s' hq'
  match rs, hq' with
  | .error er, hq' => exact pass0 pins σ _ _ er s' I2 hq'
  | .ok (.ret u), hq' =>
    obtain ⟨v, H2, os2, bare2, un2, hok2, rv, ev, d, ea, ed, hd1, eH⟩ := hq'
    subst ev
    obtain ⟨h2, g2, d2, t2, os'⟩ := s'
    exact ⟨rv, mk_end (raises_own T.oex.exC T.oex.tyC) I1 above kk un2 hok2 os2 bare2 ea ed hd1 (by rw [eH]; exact q1 d hd1)⟩
theorem ps_rz {X : Cx} {W : WX} {e : Expr} {t : L2.St → Hp → XK → Prop} {pos : Pos} (hc : X.calm = true) (tk : Takes X W) (he : PMk X e t) : PS X (.Raise (some e) none pos) (tRz W t) := ps_raise hc tk he
theorem w_rz {W : WX} {t : L2.St → Hp → XK → Prop} {D : Ends} {σ : L2.St} {H : Hp} (k : t σ H fun cls d H' => W cls d σ H') : tRz W t D σ H := k
theorem w_mke {C : Addr} {f : Str} {t : TA} {σ : L2.St} {H : Hp} {Q : XK} (k : t σ H fun vs H1 => ∃ y, vs = [y] ∧ ∀ d, H1 d = none → Q (.ref C) (some d) (upd H1 d (.xd [(f, y)]))) : tMkE C f t σ H Q := k
/-! ### a try with several clauses, named or not -/
structure Cl where
  c : Value
  i : Option Nat
  ts : Addr → Value → Option Addr → TS
/-- where a suite goes on: the clause's name goes -/
def Ends.gone (D : Ends) : Option Nat → Ends
  | some i => ⟨fun σ H => D.nx (σ.set i none) H, D.rt, fun σ H => D.bk (σ.set i none) H, fun σ H => D.ct (σ.set i none) H⟩
  | none => D
def put (σ : L2.St) (a : Addr) : Option Nat → L2.St
  | some i => σ.set i (some (.ref a))
  | none => σ
/-- what the clauses wish of what the body raises -/
def wN (K : PySem.W.Frag) (Wout : WX) (D : Ends) : List (Option Cl) → WX
  | [] => Wout
  | none :: _ => fun _ _ _ _ => False
  | some q :: l => fun cls d σ H => ∃ b, PySem.W.exmOne K cls q.c = some b ∧ (b = true → ∀ a, H a = none → q.ts a cls d (Ends.gone D q.i) (put σ a q.i) H) ∧ (b = false → wN K Wout D l cls d σ H)
inductive Hds (X : Cx) : List ExceptHandler → List (Option Cl) → Prop
  | nil : Hds X [] []
  | never {hds : List ExceptHandler} : Hds X hds [none]
  | as_ {x n : Str} {c : Value} {i : Nat} {ts : Addr → Value → Option Addr → TS} {b₀ : Stmt} {suite : List Stmt} {np pos' : Pos} {hds : List ExceptHandler} {l : List (Option Cl)} (hi : X.N[i]? = some n) (hln : X.env.kindOf n = some .local) (hc : Names X x c)
      (hsu : ∀ (a : Addr) (oe : Obj) (cls : Value) (d : Option Addr) (pn : List (Addr × Obj)), Zc cls d oe → (∃ vs, oe.data = .fields vs) → PSs (X.suite a ((a, oe) :: pn)) (b₀ :: suite) (ts a cls d)) (r : Hds X hds l) :
      Hds X (.ExceptHandler (some (.Name x np)) (some n) (b₀ :: suite) pos' :: hds) (some ⟨c, some i, ts⟩ :: l)
  | plain {x : Str} {c : Value} {ts : Addr → Value → Option Addr → TS} {b₀ : Stmt} {suite : List Stmt} {np pos' : Pos} {hds : List ExceptHandler} {l : List (Option Cl)} (hc : Names X x c)
      (hsu : ∀ (a : Addr) (oe : Obj) (cls : Value) (d : Option Addr) (pn : List (Addr × Obj)), Zc cls d oe → (∃ vs, oe.data = .fields vs) → PSs (X.suite a ((a, oe) :: pn)) (b₀ :: suite) (ts a cls d)) (r : Hds X hds l) :
      Hds X (.ExceptHandler (some (.Name x np)) none (b₀ :: suite) pos' :: hds) (some ⟨c, none, ts⟩ :: l)
def tTryN (tb : WX → TS) (K : PySem.W.Frag) (Wout : WX) (l : List (Option Cl)) : TS := fun D σ H => tb (wN K Wout D l) D σ H
section
variable {X : Cx} {body : List Stmt} {h₀ : ExceptHandler} {hds : List ExceptHandler} {l : List (Option Cl)} {pos : Pos} {tb : WX → TS} {Wout : WX}
theorem ps_tryN (hs : X.stack = X.env :: X.outer) (hf : X.env.frame = some X.env.locals) (hN : X.N.Nodup) (tk : Takes X Wout)
    (hb : ∀ (W : WX) (pn : List (Addr × Obj)) (xe : Value → Shared → Prop), Takes (X.tr pn xe) W → PassesOwn (model X.prog X.w) X.A X.env xe → PSs (X.tr pn xe) body (tb W))
    (hh : Hds X (h₀ :: hds) l) : PS X (.Try body (h₀ :: hds) [] [] pos) (tTryN tb X.K Wout l) := by
  constructor
  intro pins s σ H D I h
  have ok := I.ok
  have hfr : X.A.frames = some (X.env :: X.outer) := by rw [ok.frames, hs]
  refine wpAny_Try_except ?_
  refine wpAny_mono ((hb (wN X.K Wout D l) (X.pn ++ pins) (fun e s₁ => wpAny (model X.prog X.w) X.A (noteFrame e X.env) (fun _ s₂ => wpAny (model X.prog X.w) X.A (setFlight e none) (fun _ s₃ =>
    wpAny (model X.prog X.w) X.A (handleBy e X.env (h₀ :: hds)) (SP X pins D) X.xe s₃) X.xe s₂) X.xe s₁) ?_ PassesOwn.looking).run [] s σ H D (I.toTry _) h) ?_ fun e s1 he => he
  · rintro u s' ⟨a, B, sI, pins', σ', H', cls, d, rfl, J', nb, up, sky, na, os, ag, w⟩
    have J : Inv X pins σ' H' sI := J'.ofTry ok
    show wpAny (model X.prog X.w) X.A (noteFrame (.ref a) X.env) _ _ _
    refine Sky.land Zc.steady hfr hf (by rw [← hs]; exact sky) fun h3 fl3 up3 => ?_
    have J3 : Inv X pins σ' H' { s' with heap := h3 } := J.landed nb fl3.1 (up.trans up3) os ag
    obtain ⟨oe3, vs3, he3, hz3, hd3⟩ := fl3.there
    have nfr : a ∉ frs (X.env :: X.outer) := fun hm => by
      obtain ⟨_, o', e', hnf⟩ := fl3.2.2.1.mem hm
      rw [he3] at e'
      cases e'
      exact hnf _ hd3
    have nL : a ≠ X.env.locals := fun z => nfr (List.mem_filterMap.mpr ⟨X.env, List.mem_cons_self, by rw [hf, z]⟩)
    have nF : a ∉ X.fs := fun hm => by
      obtain ⟨e, he, q⟩ := List.mem_filterMap.mp hm
      exact nfr (List.mem_filterMap.mpr ⟨e, List.mem_cons_of_mem _ he, q⟩)
    have S3 := J3.suite he3 hd3 na nL nF
    have LT : PySem.W.Looks (model X.prog X.w) h3 (typeOf (.ref a)) cls := fun A Q E s k q => wpAny_typeOf_ref (k _ _ he3) (by rw [hz3.1]; exact q)
    have test : ∀ {x : Str} {c : Value} {np : Pos} {Q : Value → Shared → Prop} {E : Value → Shared → Prop}, Names X x c → Q c { s' with heap := h3 } → wpAny (model X.prog X.w) (X.A.mark (some (.ref a))) (eval (.Name x np) X.env) Q E { s' with heap := h3 } := by
      intro x c np Q E hc q
      obtain ⟨hg, hdbg, hm | ⟨hm, hv, hnn⟩⟩ := hc
      · exact ld_glob (X := X.suite a ((a, oe3) :: (X.pn ++ pins))) S3 hg hm q hdbg
      · exact ld_blt (X := X.suite a ((a, oe3) :: (X.pn ++ pins))) S3 hg hm hv q hnn hdbg
    have go : ∀ {hds' : List ExceptHandler} {l' : List (Option Cl)}, Hds X hds' l' → wN X.K Wout D l' cls d σ' H' → wpAny (model X.prog X.w) X.A (handleBy (.ref a) X.env hds') (SP X pins D) X.xe { s' with heap := h3 } := by
      intro hds' l' hk
      induction hk with
      | never => exact fun w => w.elim
      | nil =>
        intro w
        refine wpAny_handleBy_nil ?_
        obtain ⟨k1, k2, k3, oe, vs, T, oT, ts', he, hz, hd, h1, hr⟩ := id fl3
        unfold PySem.passOn
        refine wpAny_bind (wpAny_field he hd h1 ?_)
        rw [if_neg (show ¬ ((Value.ref T == Value.none) = true) from by simp)]
        have fin : wpAny (model X.prog X.w) X.A (setFlight (.ref a) X.env.frame) (fun _ s4 => wpAny (model X.prog X.w) X.A (throw (.ref a) : Sem Flow) (SP X pins D) X.xe s4) X.xe { s' with heap := h3 } := by
          rw [hf]
          refine HandSPX.setFlight_upZ fl3 fun h4 hh4 up4 => wpAny_throw (tk _ _ ?_)
          exact ⟨a, B, sI, pins, σ', H', cls, d, rfl, J, nb, (up.trans up3).trans up4, .inr (.inr (by rw [hs]; exact hh4)), na, os, ag, w⟩
        first
          | exact wpAny_bind (wpAny_pure (wpAny_bind fin))
          | exact wpAny_bind fin
      | @as_ x n c i ts b₀ suite np pos' hds2 l2 hi hln hc hsu r ih =>
        intro w
        obtain ⟨b, hb1, hyes, hno⟩ := w
        refine wpAny_handleBy_cons (codeAny_handlers_test (test hc ((PySem.W.exm_one (M := model X.prog X.w) J3.kIn LT hb1).here ?_))) (by intro q; cases q)
        cases b with
        | false =>
          show wpAny _ X.A (handleBy (.ref a) X.env hds2) _ _ _
          exact ih (hno rfl)
        | true =>
          refine codeAny_handlers_suite_as ?_
          refine HandSPX.lands_againZ fl3 fun h4 fl4 up4 => ?_
          have J4 : Inv X pins σ' H' { s' with heap := h4 } := J.landed nb fl4.1 ((up.trans up3).trans up4) os ag
          obtain ⟨oe4, vs4, he4, hz4, hd4⟩ := fl4.there
          have S4 := J4.suite he4 hd4 na nL nF
          refine store_ok (X := X.suite a ((a, oe4) :: (X.pn ++ pins))) (v := .ref a) S4 hN hi (.inl hln) rfl (fun s5 S5 => ?_) (.inr hln)
          refine wpAny_mono ((hsu a oe4 cls d (X.pn ++ pins) hz4 ⟨_, hd4⟩).run [] s5 _ H' _ S5 (hyes rfl a na)) (fun f s6 hsp => ?_) (fun _ _ z => False.elim z)
          have end_ : ∀ {σ6 : L2.St} {H6 : Hp} {Q : Shared → Prop}, Inv (X.suite a ((a, oe4) :: (X.pn ++ pins))) [] σ6 H6 s6 → (∀ s7, Inv X pins (σ6.set i none) H6 s7 → Q s7) →
              wpAny (model X.prog X.w) X.A (do bindName X.env n .none; unbindBehindTheSuite X.env n pos') (fun _ s7 => Q s7) X.xe s6 := fun {σ6 H6 Q} S6 hq => gone_ok (S6.unsuite ok) hN hi hln hq
          cases f with
          | next =>
            obtain ⟨σ6, H6, S6, q6⟩ := hsp
            exact end_ S6 fun s7 J7 => ⟨_, _, J7, q6⟩
          | brk =>
            obtain ⟨σ6, H6, S6, q6⟩ := hsp
            exact end_ S6 fun s7 J7 => ⟨_, _, J7, q6⟩
          | cont =>
            obtain ⟨σ6, H6, S6, q6⟩ := hsp
            exact end_ S6 fun s7 J7 => ⟨_, _, J7, q6⟩
          | ret u =>
            obtain ⟨v6, σ6, H6, S6, r6, q6⟩ := hsp
            exact end_ S6 fun s7 J7 => ⟨_, _, _, J7, r6, q6⟩
      | @plain x c ts b₀ suite np pos' hds2 l2 hc hsu r ih =>
        intro w
        obtain ⟨b, hb1, hyes, hno⟩ := w
        refine wpAny_handleBy_cons (codeAny_handlers_test (test hc ((PySem.W.exm_one (M := model X.prog X.w) J3.kIn LT hb1).here ?_))) (by intro q; cases q)
        cases b with
        | false =>
          show wpAny _ X.A (handleBy (.ref a) X.env hds2) _ _ _
          exact ih (hno rfl)
        | true =>
          refine codeAny_handlers_suite ?_
          refine HandSPX.lands_againZ fl3 fun h4 fl4 up4 => ?_
          have J4 : Inv X pins σ' H' { s' with heap := h4 } := J.landed nb fl4.1 ((up.trans up3).trans up4) os ag
          obtain ⟨oe4, vs4, he4, hz4, hd4⟩ := fl4.there
          have S4 := J4.suite he4 hd4 na nL nF
          refine wpAny_mono ((hsu a oe4 cls d (X.pn ++ pins) hz4 ⟨_, hd4⟩).run [] _ _ H' _ S4 (hyes rfl a na)) (fun f s6 hsp => ?_) (fun _ _ z => False.elim z)
          cases f with
          | next =>
            obtain ⟨σ6, H6, S6, q6⟩ := hsp
            exact ⟨_, _, S6.unsuite ok, q6⟩
          | brk =>
            obtain ⟨σ6, H6, S6, q6⟩ := hsp
            exact ⟨_, _, S6.unsuite ok, q6⟩
          | cont =>
            obtain ⟨σ6, H6, S6, q6⟩ := hsp
            exact ⟨_, _, S6.unsuite ok, q6⟩
          | ret u =>
            obtain ⟨v6, σ6, H6, S6, r6, q6⟩ := hsp
            exact ⟨_, _, _, S6.unsuite ok, r6, q6⟩
    exact go hh w
  · intro f s1 hsp
    cases f with
    | next =>
      obtain ⟨σ', H', J', q⟩ := hsp
      exact wpAny_execs_nil ⟨σ', H', J'.ofTry ok, q⟩
    | brk =>
      obtain ⟨σ', H', J', q⟩ := hsp
      exact ⟨σ', H', J'.ofTry ok, q⟩
    | cont =>
      obtain ⟨σ', H', J', q⟩ := hsp
      exact ⟨σ', H', J'.ofTry ok, q⟩
    | ret u =>
      obtain ⟨v, σ', H', J', r, q⟩ := hsp
      exact ⟨v, σ', H', J'.ofTry ok, r, q⟩
end
theorem w_try {tb : WX → TS} {K : PySem.W.Frag} {Wout : WX} {l : List (Option Cl)} {D : Ends} {σ : L2.St} {H : Hp} (k : tb (wN K Wout D l) D σ H) : tTryN tb K Wout l D σ H := k
theorem w_cbs {r : L2.St → List V → Hp → VK → Prop} {t : TA} {σ : L2.St} {H : Hp} {Q : VK} (k : t σ H fun vs H1 => r σ vs H1 Q) : tCBS r t σ H Q := k
theorem w_cks {n m : Nat} {r : L2.St → List V → List V → Hp → VK → Prop} {t tk : TA} {σ : L2.St} {H : Hp} {Q : VK} (k : t σ H fun vs H1 => tk σ H1 fun zs H2 => vs.length = n ∧ zs.length = m ∧ r σ vs zs H2 Q) : tCKS n m r t tk σ H Q := k
theorem w_sfld {K : PySem.W.Frag} {ta tv : TE} {f : Str} {nx : L2.St → Hp → Prop} {rt : VK} {bk ct : L2.St → Hp → Prop} {σ : L2.St} {H : Hp} (k : tv σ H fun y H1 => ta σ H1 fun x H2 => ∃ a C dx fs, x = .ref a ∧ H2 a = some (.ins C dx fs) ∧ Cls K C ∧ NoAttr K C f ∧ fs.length < 1000 ∧ nx σ (upd H2 a (.ins C dx (putF f y fs)))) : sFld K ta tv f ⟨nx, rt, bk, ct⟩ σ H := k
theorem w_fld {K : PySem.W.Frag} {ta : TE} {f : Str} {σ : L2.St} {H : Hp} {Q : VK} (k : ta σ H fun x H1 => ∃ a C dx fs v, x = .ref a ∧ H1 a = some (.ins C dx fs) ∧ Cls K C ∧ NoAttr K C f ∧ fs.lookup f = some v ∧ Q v H1) : tFld K ta f σ H Q := k
theorem w_mth {C : Addr} {m : Str} {r : List V → Hp → VK → Prop} {ta : TE} {t : TA} {σ : L2.St} {H : Hp} {Q : VK} (k : ta σ H fun x H1 => ∃ a dx fs, x = .ref a ∧ H1 a = some (.ins C dx fs) ∧ fs.lookup m = none ∧ t σ H1 fun vs H2 => r (x :: vs) H2 Q) : tMth C m r ta t σ H Q := k
theorem w_xf {a : Addr} {cls : Value} {d : Option Addr} {C : Addr} {f : Str} {te : TE} {σ : L2.St} {H : Hp} {Q : VK} (k : te σ H fun x H1 => x = .ref a ∧ cls = .ref C ∧ ∃ (dd : Addr) (fs : List (Str × V)) (v : V), d = some dd ∧ H1 dd = some (.xd fs) ∧ fs.lookup f = some v ∧ Q v H1) : tXf a cls d C f te σ H Q := k
/-- the fields of such an error can be read -/
theorem Er.xf {K : PySem.W.Frag} {mg : Str → Option Value} {x f : Str} {C fI : Addr} (T : Er K mg x f C fI) : XfC K C := by
  obtain ⟨nm, qn, N, bs, bm, sn, sub, ab, col, dd, k0, k1, k2, k3, k5, hC, hbm⟩ := T.oex.cls
  refine ⟨T.ei.hga, T.ei.hgt, T.oex.exC, ?_⟩
  unfold PySem.W.hasDictIn PySem.W.clsIn
  rw [hC]
  rfl
/-- which clause takes it -/
theorem exm_of {K : PySem.W.Frag} {C D : Addr} {b : Bool} (hD : PySem.W.subIn K (.ref D) (.type "BaseException") = some true) (i : (PySem.W.clsIn K D).isSome = true) (ty : PySem.W.typeIn K (.ref D) = some (.type "type")) (h : PySem.W.subIn K (.ref C) (.ref D) = some b) : PySem.W.exmOne K (.ref C) (.ref D) = some b := by
  unfold PySem.W.exmOne
  rw [hD]
  show PySem.W.kitCls K (.ref C) (.ref D) = some b
  unfold PySem.W.kitCls
  show (if ((PySem.W.clsIn K D).isSome && PySem.W.typeIn K (.ref D) == some (.type "type")) = true then PySem.W.subIn K (.ref C) (.ref D) else none) = some b
  rw [i, ty, h]
  rfl
theorem Er.exm {K : PySem.W.Frag} {mg : Str → Option Value} {x f : Str} {C fI B : Addr} {b : Bool} (T : Er K mg x f C fI) (h : PySem.W.subIn K (.ref B) (.ref C) = some b) : PySem.W.exmOne K (.ref B) (.ref C) = some b := exm_of T.oex.exC T.ei.hcl T.oex.tyC h
/-! ### new lists, not where the modules' table may stand -/
def NewL4 (xs : List V) (H : Hp) (Q : VK) : Prop := ∀ p, H p = none → p ≠ sysModules → Q (.ref p) (upd H p (.lst xs))
theorem size4 {X : Cx} {pins : List (Addr × Obj)} {σ : L2.St} {H : Hp} {s : Shared} (I : Inv X pins σ H s) : s.heap.objs.size ≠ sysModules := by
  obtain ⟨o, es, ep, e, _⟩ := I.mod.glob
  have := Heap.lt_size (I.bk _ _ e)
  intro z
  rw [z] at this
  revert this
  decide
/-- an index of a list, within a try's body (the reading names no part of that context) -/
theorem ix_listT {X : Cx} {K : PySem.W.Frag} (e : X.K = K) : IxR X (rIxL K) := by
  subst e
  exact ix_list
/-- never reached -/
theorem ps_never {X : Cx} {st : Stmt} : PS X st (fun _ _ _ => False) := ⟨fun _ _ _ _ _ _ h => h.elim⟩
theorem pe_never {X : Cx} {e : Expr} : PE X e (fun _ _ _ => False) := ⟨fun _ _ _ _ _ _ h => h.elim⟩
end Dz

set_option Elab.async false
set_option linter.all false
set_option maxRecDepth 100000
set_option maxHeartbeats 2000000
/-! repr of data with empty dicts in it. -/
namespace Dz
open PySem PySem.Spec PyProof.Rows L2
mutual
inductive Dq (K : PySem.W.Frag) (H : Hp) : V → PyData → Prop
  | non : Dq K H .non .none
  | bl (b : Bool) : Dq K H (.bl b) (.bool b)
  | int (i : Int) : Dq K H (.int i) (.int i)
  | str (x : Str) : Dq K H (.str x) (.str x)
  | lst {a : Addr} {xs : List V} {ds : List PyData} : a ≠ sysModules → SqL K H a xs → DqAll K H xs ds → Dq K H (.ref a) (.list ds)
  | tup {a : Addr} {xs : List V} {ds : List PyData} : SqT K H a xs → DqAll K H xs ds → Dq K H (.ref a) (.tuple ds)
  | dct {a : Addr} : H a = some (.dK []) → Dq K H (.ref a) (.dict [])
inductive DqAll (K : PySem.W.Frag) (H : Hp) : List V → List PyData → Prop
  | nil : DqAll K H [] []
  | cons {v : V} {vs : List V} {d : PyData} {ds : List PyData} : Dq K H v d → DqAll K H vs ds → DqAll K H (v :: vs) (d :: ds)
end
section
variable {X : Cx} {pins : List (Addr × Obj)} {σ : L2.St} {H : Hp} {s : Shared}
mutual
theorem Dq.reads (I : Inv X pins σ H s) : ∀ (d : PyData) (v : V) (u : Value), Dq X.K H v d → RelV v u → ∃ as, Reads s.heap u d as ∧ sysModules ∉ as
  | .none, _, _, h, r => by cases h; cases r; exact ⟨_, Reads.none, fun z => nomatch z⟩
  | .bool b, _, _, h, r => by cases h; cases r; exact ⟨_, Reads.bool b, fun z => nomatch z⟩
  | .int i, _, _, h, r => by
    cases h
    obtain ⟨t, rfl⟩ := r
    exact ⟨_, Reads.int i t, fun z => nomatch z⟩
  | .str x, _, _, h, r => by
    cases h
    obtain ⟨t, rfl⟩ := r
    exact ⟨_, Reads.str x t, fun z => nomatch z⟩
  | .list ds, _, _, h, r => by
    cases h with
    | lst na hs ha =>
      cases r
      obtain ⟨its, rv, ⟨o, n, ho, hc, _, hd⟩, _⟩ := I.list hs
      obtain ⟨as, hr, hn⟩ := Dq.readsAll I ds _ its ha rv
      exact ⟨_, Reads.list ho hc hd hr, fun z => by
        rcases List.mem_cons.mp z with e | z
        · exact na e.symm
        · exact hn z⟩
  | .tuple ds, _, _, h, r => by
    cases h with
    | tup hs ha =>
      cases r
      obtain ⟨its, rv, ⟨o, ho, hc, n, hd⟩, _⟩ := I.tuple hs
      obtain ⟨as, hr, hn⟩ := Dq.readsAll I ds _ its ha rv
      exact ⟨_, Reads.tuple ho hc hd hr, hn⟩
  | .dict kvs, _, _, h, r => by
    cases h with
    | dct hs =>
      cases r
      obtain ⟨_, na, vs, kv, o, es, ep, ho, hx, hd, _, pr, _⟩ := dk_of I.hok hs
      cases kv
      cases pr' : es.toList with
      | nil =>
        refine ⟨_, Reads.dict (kvs := []) ho hx.1 hd (by rw [pr']; exact .nil) (by rw [pr']; exact .nil), fun z => ?_⟩
        have z' : sysModules = _ := List.mem_singleton.mp z
        rw [← z'] at na
        exact absurd na (by decide)
      | cons e l =>
        rw [pr'] at pr
        exact absurd pr.length (by simp)
theorem Dq.readsAll (I : Inv X pins σ H s) : ∀ (ds : List PyData) (vs : List V) (us : List Value), DqAll X.K H vs ds → Vals vs us → ∃ as, ReadsAll s.heap us ds as ∧ sysModules ∉ as
  | [], _, _, h, r => by cases h; cases r; exact ⟨_, ReadsAll.nil, fun z => nomatch z⟩
  | d :: ds, _, _, h, r => by
    cases h with
    | cons h1 h2 =>
      cases r with
      | cons r1 r2 =>
        obtain ⟨as, q1, n1⟩ := Dq.reads I d _ _ h1 r1
        obtain ⟨bs, q2, n2⟩ := Dq.readsAll I ds _ _ h2 r2
        exact ⟨_, ReadsAll.cons q1 q2, fun z => by
          rcases List.mem_append.mp z with z | z
          · exact n1 z
          · exact n2 z⟩
end
end
/-- repr(x) -/
def rShowQ (K : PySem.W.Frag) : List V → Hp → VK → Prop := fun xs H Q => ∃ v d, xs = [v] ∧ Dq K H v d ∧ d.showable = true ∧ d.depth ≤ 60 ∧ d.shown.length ≤ sizeLine ∧ Q (.str d.shown) H
theorem call_showQ {X : Cx} {k : Nat} (hg : Calm X.A) (hr : Room k X.A) : CallR X (.builtin "repr") (rShowQ X.K) := by
  intro pins s σ H xs us Q I r h
  obtain ⟨v, d, rfl, hd, hs, hp, hz, q⟩ := h
  cases r with
  | @cons _ u _ _ rv rn =>
  cases rn
  have hu := hr.units
  obtain ⟨as, rd, nas⟩ := Dq.reads I _ _ _ hd rv
  cases hd with
  | non => cases rv; exact PySem.P.repr_of_none ⟨.str _, H, I.tok _, ⟨_, rfl⟩, q⟩
  | bl b => cases rv; exact PySem.P.repr_of_bool ⟨.str _, H, I.tok _, ⟨_, rfl⟩, q⟩
  | int i =>
    obtain ⟨t, rfl⟩ := rv
    exact PySem.P.repr_of_int (of_decide_eq_true hs) ⟨.str _, H, I.tok _, ⟨_, rfl⟩, q⟩
  | str x =>
    obtain ⟨t, rfl⟩ := rv
    exact PySem.P.repr_of_str ⟨.str _, H, I.tok _, ⟨_, rfl⟩, q⟩ hz
  | lst h0 h1 h2 =>
    cases rv
    exact repr_of_reads' rd hs (fun _ => nas) hg (by omega) (fun _ _ e => e) (fun h' u tk hk => ⟨.str _, H, I.kept hk, ⟨_, rfl⟩, q⟩) hz
  | tup h1 h2 =>
    cases rv
    exact repr_of_reads' rd hs (fun _ => nas) hg (by omega) (fun _ _ e => e) (fun h' u tk hk => ⟨.str _, H, I.kept hk, ⟨_, rfl⟩, q⟩) hz
  | dct h1 =>
    cases rv
    exact repr_of_reads' rd hs (fun _ => nas) hg (by omega) (fun _ _ e => e) (fun h' u tk hk => ⟨.str _, H, I.kept hk, ⟨_, rfl⟩, q⟩) hz
/-- data that repr shows: at most B signs, at most k deep -/
structure Sq (d : PyData) (B k : Nat) : Prop where
  ok : d.showable = true
  dp : d.depth ≤ k
  ln : d.shown.length ≤ B
theorem Sq.more {d : PyData} {B k B' k' : Nat} (h : Sq d B k) (e : B ≤ B' := by omega) (f : k ≤ k' := by omega) : Sq d B' k' := ⟨h.ok, Nat.le_trans h.dp f, Nat.le_trans h.ln e⟩
theorem Sh.q {d : PyData} {B k : Nat} (h : Sh d B k) : Sq d B k := ⟨h.ok, h.dp, h.ln⟩
theorem Sq.dct : Sq (.dict []) 2 1 := ⟨rfl, Nat.le_refl 1, by decide +kernel⟩
theorem sq_all {ds : List PyData} {B k : Nat} (h : ∀ d ∈ ds, Sq d B k) : PyData.showableAll ds = true ∧ PyData.depthAll ds ≤ k := by
  induction ds with
  | nil => exact ⟨rfl, Nat.zero_le _⟩
  | cons d ds ih =>
    have a := h d List.mem_cons_self
    obtain ⟨b1, b3⟩ := ih fun e he => h e (List.mem_cons_of_mem _ he)
    refine ⟨?_, ?_⟩
    · show (d.showable && PyData.showableAll ds) = true
      rw [a.ok, b1]; rfl
    · show max d.depth (PyData.depthAll ds) ≤ k
      have := a.dp
      omega
theorem Sq.list {ds : List PyData} {B k : Nat} (h : ∀ d ∈ ds, Sq d B k) : Sq (.list ds) ((B + 2) * ds.length + 3) (k + 1) := by
  obtain ⟨b1, b3⟩ := sq_all h
  exact ⟨b1, Nat.succ_le_succ b3, sh_list fun d hd => (h d hd).ln⟩
theorem Sq.tup {ds : List PyData} {B k : Nat} (h : ∀ d ∈ ds, Sq d B k) : Sq (.tuple ds) ((B + 2) * ds.length + 3) (k + 1) := by
  obtain ⟨b1, b3⟩ := sq_all h
  exact ⟨b1, Nat.succ_le_succ b3, sh_tup fun d hd => (h d hd).ln⟩
theorem w_showQ {K : PySem.W.Frag} {H : Hp} {Q : VK} {v : V} {d : PyData} {B k : Nat} (dp : Dq K H v d) (s : Sq d B k) (q : Q (.str d.shown) H) (hk : k ≤ 60 := by decide) (hB : B ≤ 16777216 := by decide) : rShowQ K [v] H Q :=
  ⟨v, d, rfl, dp, s.ok, Nat.le_trans s.dp hk, Nat.le_trans s.ln (Nat.le_trans hB (by decide)), q⟩
/-! ### the lists that are shown -/
def tLst4 (t : TA) : TE := fun σ H Q => t σ H fun xs H1 => xs.length ≤ sizeLine ∧ NewL4 xs H1 Q
theorem pe_lst4 {X : Cx} {es : List Expr} {t : TA} {pos : Pos} (h : PA X es t) : PE X (.List es pos) (tLst4 t) := by
  refine ⟨fun pins s σ H Q I hq => ?_⟩
  refine wpAny_List_spliced (thn (h.run pos pins s σ H _ I hq) ?_)
  rintro us s1 ⟨xs, H1, I1, r, z, q⟩
  refine ⟨by rw [← r.length]; exact z, ?_⟩
  exact ⟨.ref s1.heap.objs.size, upd H1 s1.heap.objs.size (.lst xs), I1.laid (t' := s1.toks) (fun b u e => Heap.get?_push_of_some _ e) (Nat.le_refl _) ⟨z, us, 0, r, Heap.get?_push_size _ rfl⟩, rfl, q _ (I1.hok.fresh (Nat.le_refl _)) (size4 I1)⟩
def rCat4 : R2 := fun x y H Q => ∃ l b xs ys, x = .ref l ∧ y = .ref b ∧ H l = some (.lst xs) ∧ H b = some (.lst ys) ∧ xs.length + ys.length ≤ sizeLine ∧ NewL4 (xs ++ ys) H Q
theorem op_cat4 {X : Cx} : OpR X (binaryOp .Add) rCat4 := by
  intro pins s σ H x y v u Q I rx ry h
  obtain ⟨l, b, xs, zs, rfl, rfl, hH, hB, hz, q⟩ := h
  cases rx
  cases ry
  obtain ⟨z, its, n, r, hl, e⟩ := I.lstM hH
  obtain ⟨z2, its2, n2, r2, hl2, e2⟩ := I.lstM hB
  refine PySem.P.add_list e e2 ?_ (by rw [List.size_toArray, List.size_toArray]; omega)
  have ea : its.toArray ++ its2.toArray = (its ++ its2).toArray := by simp
  rw [ea]
  exact ⟨.ref _, _, I.lnew (t' := s.toks) (r.append r2) (by rw [List.length_append]; omega), rfl, q _ I.fresh (size4 I)⟩
section
variable {σ : L2.St} {H : Hp} {Q : VK} {t : TA} {xs ys : List V}
theorem w_lst4 (k : t σ H fun xs H1 => xs.length ≤ sizeLine ∧ NewL4 xs H1 Q) : tLst4 t σ H Q := k
theorem w_cat4 {l b : Addr} (h1 : H l = some (.lst xs)) (h2 : H b = some (.lst ys)) (hz : xs.length + ys.length ≤ sizeLine) (k : NewL4 (xs ++ ys) H Q) : rCat4 (.ref l) (.ref b) H Q := ⟨l, b, xs, ys, rfl, rfl, h1, h2, hz, k⟩
theorem newL4_mk (k : ∀ p G, H p = none → p ≠ sysModules → Same H G → G p = some (.lst xs) → Q (.ref p) G) : NewL4 xs H Q := fun p np n1 => k p _ np n1 (same_new np) upd_same
end
end Dz

set_option Elab.async false
set_option linter.all false
set_option maxRecDepth 100000
set_option maxHeartbeats 2000000
/-! A text's own ==. -/
namespace Dz
open PySem PySem.Spec PyProof.Rows L2
section
variable {X : Cx} {C f : Addr} {r : List V → Hp → VK → Prop}
/-- things whose type is known -/
inductive Ty5 (H : Hp) : V → Value → Prop
  | non : Ty5 H .non (.type "NoneType")
  | bl (x : Bool) : Ty5 H (.bl x) (.type "bool")
  | int (i : Int) : Ty5 H (.int i) (.type "int")
  | str (x : Str) : Ty5 H (.str x) (.type "str")
  | lst {a : Addr} {xs : List V} (e : H a = some (.lst xs)) : Ty5 H (.ref a) (.type "list")
  | tup {a : Addr} {xs : List V} (e : H a = some (.tup xs)) : Ty5 H (.ref a) (.type "tuple")
  | dK {a : Addr} {kvs : List (Key × V)} (e : H a = some (.dK kvs)) : Ty5 H (.ref a) (.type "dict")
  | ins {a D dx : Addr} {fs : List (Str × V)} (e : H a = some (.ins D dx fs)) : Ty5 H (.ref a) (.ref D)
theorem looks_ty {pins : List (Addr × Obj)} {σ : L2.St} {H : Hp} {s : Shared} {y : V} {u t : Value} (I : Inv X pins σ H s) (ry : RelV y u) (ty : Ty5 H y t) : PySem.W.Looks (model X.prog X.w) s.heap (typeOf u) t := by
  cases ty with
  | non => cases ry; exact PySem.W.Looks.of_pure rfl
  | bl b => cases ry; exact PySem.W.Looks.of_pure rfl
  | int i =>
    obtain ⟨t, rfl⟩ := ry
    exact PySem.W.Looks.of_pure rfl
  | str x =>
    obtain ⟨t, rfl⟩ := ry
    exact PySem.W.Looks.of_pure rfl
  | lst e =>
    cases ry
    obtain ⟨z, its, n, rr, hl, e2⟩ := I.lstM e
    exact fun A Q E s k q => wpAny_typeOf_ref (k _ _ e2) q
  | tup e =>
    cases ry
    obtain ⟨its, rr, ⟨o, ho, hc, n, hd⟩, _⟩ := I.tuple (.of e)
    exact fun A Q E s k q => wpAny_typeOf_ref (k _ _ ho) (by rw [hc]; exact q)
  | dK e =>
    cases ry
    obtain ⟨_, _, vs, kv, o, es, ep, ho, hx, _⟩ := dk_of I.hok e
    exact fun A Q E s k q => wpAny_typeOf_ref (k _ _ ho) (by rw [hx.1]; exact q)
  | ins e =>
    cases ry
    obtain ⟨mA, J, _⟩ := ins_get I.hok e
    obtain ⟨od, J, _⟩ := J.look
    exact J.type
/-- x == y, x an instance of the class at C that has its own ==, which tells a truth -/
def rEqI (K : PySem.W.Frag) (C : Addr) (r : List V → Hp → VK → Prop) : R2 := fun x y H Q => ∃ a dx fs t, x = .ref a ∧ H a = some (.ins C dx fs) ∧ Ty5 H y t ∧ PySem.W.notFirst K C t = true ∧ r [x, y] H fun v H' => (∃ b, v = .bl b) ∧ Q v H'
theorem op_eqI (hs : PySem.W.findIn X.K (.ref C) "__eq__" = some (some (.ref f))) (hf : PySem.W.isFn X.K (.ref f) = true) (hc : CallR X (.ref f) r) (hu : X.A.units < cLine) : OpR X (compareOp .Eq) (rEqI X.K C r) := by
  intro pins s σ H x y v u Q I rx ry h
  obtain ⟨a, dx, fs, t, rfl, ha, ty, nf, q⟩ := h
  obtain ⟨mA, J, _⟩ := ins_get I.hok ha
  obtain ⟨od, J, _⟩ := J.look
  obtain ⟨m, hF⟩ := I.fr
  have L := looks_ty I ry ty
  cases rx
  show wpAny (model X.prog X.w) X.A (richCompare .Eq (.ref a) u) (EP X pins σ Q) X.xe s
  refine PySem.W.cmp_K (op := .Eq) (tb := t) hu hF I.ok.mod.kin J L nf hs hf ?_
  refine wpAny_mono (hc pins s σ H [.ref a, y] [.ref a, u] _ I (.cons rfl (.cons ry .nil)) q) ?_ fun _ _ e => e
  rintro w s' ⟨z, H', I', rz, ⟨b, rfl⟩, q'⟩
  cases rz
  exact ⟨.bl b, H', I', rfl, q'⟩
end
end Dz

set_option Elab.async false
set_option linter.all false
set_option maxRecDepth 100000
set_option maxHeartbeats 2000000
namespace Dz
open PySem PySem.Spec PyProof.Rows L2 PySem.SeqAt
open AutoSeq1 (wpAny_loadPart')
open MeetsSeq MeetsSeq2 MeetsSeq3 SeqRoads2
theorem int_eq_ins (b : Int) (u : Tok) (x C dx : Addr) :
    Meets (Builtin.«int.__eq__» ⟨[.int b u, .ref x], []⟩) (fun _ R s => s.heap.get? x = some (PySem.W.instObj C dx) ∧ R (.ok (.ret .notImplemented)) s) :=
  .of_wp fun prog w A R s h => by obtain ⟨hp, g, d, tk, os⟩ := s; obtain ⟨hl, h⟩ := h; unfold PySem.W.instObj at hl; wp_walk using wpAny_loadPart' hl, wpAny_load hl; exact ⟨_, rfl, h⟩
theorem bool_eq_ins (b : Bool) (x C dx : Addr) :
    Meets (Builtin.«int.__eq__» ⟨[.bool b, .ref x], []⟩) (fun _ R s => s.heap.get? x = some (PySem.W.instObj C dx) ∧ R (.ok (.ret .notImplemented)) s) :=
  .of_wp fun prog w A R s h => by obtain ⟨hp, g, d, tk, os⟩ := s; obtain ⟨hl, h⟩ := h; unfold PySem.W.instObj at hl; wp_walk using wpAny_loadPart' hl, wpAny_load hl; exact ⟨_, rfl, h⟩
theorem str_eq_ins (b : Str) (u : Tok) (x C dx : Addr) :
    Meets (Builtin.«str.__eq__» ⟨[.str b u, .ref x], []⟩) (fun _ R s => s.heap.get? x = some (PySem.W.instObj C dx) ∧ R (.ok (.ret .notImplemented)) s) :=
  .of_wp fun prog w A R s h => by obtain ⟨hp, g, d, tk, os⟩ := s; obtain ⟨hl, h⟩ := h; unfold PySem.W.instObj at hl; wp_walk using wpAny_loadPart' hl, wpAny_load hl; exact ⟨_, rfl, h⟩
theorem list_eq_ins {K : PySem.W.Frag} (l : Addr) (items : Array Value) (n : Nat) (dd : Option Addr) (sl : Array (Option Value)) (x C dx : Addr) (hsub : PySem.W.subIn K (.ref C) (.type "list") = some false) :
    Meets (Builtin.«list.__eq__» ⟨[.ref l, .ref x], []⟩) (fun _ R s => K.In s.heap ∧ s.heap.get? l = some { cls := .type "list", dict := dd, data := .seq items n, slots := sl } ∧ s.heap.get? x = some (PySem.W.instObj C dx) ∧ R (.ok (.ret .notImplemented)) s) :=
  .of_wp fun prog w A R s h => by
    obtain ⟨hp, g, d, tk, os⟩ := s
    obtain ⟨X, hl, hx, h⟩ := h
    unfold PySem.W.instObj at hx
    have f1 := fun M => PySem.W.looks_subIn (M := M) X hsub
    wp_walk using wpAny_loadPart' hl, wpAny_load hx
    refine (f1 _).here ?_
    wp_walk
    exact ⟨_, rfl, h⟩
theorem tuple_eq_ins {K : PySem.W.Frag} (l : Addr) (items : Array Value) (n : Nat) (dd : Option Addr) (sl : Array (Option Value)) (x C dx : Addr) (hsub : PySem.W.subIn K (.ref C) (.type "tuple") = some false) :
    Meets (Builtin.«tuple.__eq__» ⟨[.ref l, .ref x], []⟩) (fun _ R s => K.In s.heap ∧ s.heap.get? l = some { cls := .type "tuple", dict := dd, data := .seq items n, slots := sl } ∧ s.heap.get? x = some (PySem.W.instObj C dx) ∧ R (.ok (.ret .notImplemented)) s) :=
  .of_wp fun prog w A R s h => by
    obtain ⟨hp, g, d, tk, os⟩ := s
    obtain ⟨X, hl, hx, h⟩ := h
    unfold PySem.W.instObj at hx
    have f1 := fun M => PySem.W.looks_subIn (M := M) X hsub
    wp_walk using wpAny_loadPart' hl, wpAny_load hx
    refine (f1 _).here ?_
    wp_walk
    exact ⟨_, rfl, h⟩
theorem dict_eq_ins {K : PySem.W.Frag} (l : Addr) (es : Array DictEntry) (ep : Nat) (x C dx : Addr) (hsub : PySem.W.subIn K (.ref C) (.type "dict") = some false) :
    Meets (Builtin.«dict.__eq__» ⟨[.ref l, .ref x], []⟩) (fun _ R s => K.In s.heap ∧ s.heap.get? l = some { cls := .type "dict", data := .dict es ep } ∧ s.heap.get? x = some (PySem.W.instObj C dx) ∧ R (.ok (.ret .notImplemented)) s) :=
  .of_wp fun prog w A R s h => by
    obtain ⟨hp, g, d, tk, os⟩ := s
    obtain ⟨X, hl, hx, h⟩ := h
    unfold PySem.W.instObj at hx
    have f1 := fun M => PySem.W.looks_subIn (M := M) X hsub
    wp_walk using wpAny_loadPart' hl, wpAny_load hx
    refine (f1 _).here ?_
    wp_walk
    exact ⟨_, rfl, h⟩
section
variable {prog : Program} {w : World} {A : Around} {E : Value → Shared → Prop} {s : Shared} {K : PySem.W.Frag}
theorem rc_refl {T id : String} {u : Value} {x C f : Addr} {ox : Obj} {od : Option Obj} {Q : Value → Shared → Prop} (hu : A.units < cLine) (X : K.In s.heap) (hT : s.TypeIs u T) (h1 : Slot T (cmpInfo .Eq).2.1 id)
    (hc : wpAny (model prog w) A (call (.builtin id) [u, .ref x]) (fun v s' => v = .notImplemented ∧ s' = s) E s) (I : PySem.W.InstAt s.heap x ox C od) (hs : PySem.W.findIn K (.ref C) "__eq__" = some (some (.ref f))) (hf : PySem.W.isFn K (.ref f) = true)
    (hsub : PySem.W.subIn K (.ref C) (.type T) = some false) (h : wpAny (model prog w) A (call (.ref f) [.ref x, u]) (PySem.W.CmpBack Q) E s) : wpAny (model prog w) A (richCompare .Eq u (.ref x)) Q E s := by
  have one : wpAny (model prog w) A (tryCompare u (cmpInfo .Eq).2.1 (.ref x)) (fun r s' => r = none ∧ s' = s) E s :=
    wpAny_tryCompare_declines hT h1 (wpAny_mono hc (fun v s' z => ⟨z.1, rfl, z.2⟩) fun _ _ e => e)
  have two : wpAny (model prog w) A (tryCompare (.ref x) (cmpInfo .Eq).2.2 u) (fun r s' => ∃ v, r = some v ∧ Q v s') E s := by
    unfold tryCompare
    refine wpAny_bind (PySem.W.ifBound_K X I hs hf (wpAny_mono h (fun v s' hv => ?_) fun _ _ e => e))
    cases v <;> first | exact hv.elim | exact wpAny_pure ⟨_, rfl, hv⟩
  rcases hi : cmpInfo .Eq with ⟨sym, n1, n2⟩
  rw [hi] at one two
  simp only [richCompare, hi, hT.oneThing_none]
  refine wpAny_holding (wpAny_bind (wpAny_cRoomFor hu ?_))
  refine wpAny_bind (wpAny_typeOf hT (wpAny_bind (I.type.here ?_)))
  have ne : (Value.type T != Value.ref C) = true := by simp
  simp only [ne, if_true]
  refine wpAny_bind ((PySem.W.looks_subIn X hsub).here ?_)
  simp only [Bool.false_eq_true, if_false, Bool.not_false, if_true]
  refine wpAny_bind (m := tryCompare u _ (.ref x)) (wpAny_mono one (fun r s1 z => ?_) fun _ _ e => e)
  obtain ⟨rfl, rfl⟩ := z
  refine wpAny_bind (m := tryCompare (.ref x) _ u) (wpAny_mono two (fun r s2 z => ?_) fun _ _ e => e)
  obtain ⟨v, rfl, q⟩ := z
  exact wpAny_pure q
end
/-- what the written part says of such a class against the built-in ones -/
structure NoSub (K : PySem.W.Frag) (C : Addr) : Prop where
  n : PySem.W.subIn K (.ref C) (.type "NoneType") = some false
  i : PySem.W.subIn K (.ref C) (.type "int") = some false
  b : PySem.W.subIn K (.ref C) (.type "bool") = some false
  s : PySem.W.subIn K (.ref C) (.type "str") = some false
  l : PySem.W.subIn K (.ref C) (.type "list") = some false
  t : PySem.W.subIn K (.ref C) (.type "tuple") = some false
  d : PySem.W.subIn K (.ref C) (.type "dict") = some false
section
variable {X : Cx} {C f : Addr} {r : List V → Hp → VK → Prop}
/-- y == x, x such an instance, y a built-in thing -/
def rEqR (K : PySem.W.Frag) (C : Addr) (r : List V → Hp → VK → Prop) : R2 := fun y x H Q => ∃ a dx fs T, x = .ref a ∧ H a = some (.ins C dx fs) ∧ Ty5 H y (.type T) ∧ r [x, y] H fun v H' => (∃ b, v = .bl b) ∧ Q v H'
theorem op_eqR (ns : NoSub X.K C) (hs : PySem.W.findIn X.K (.ref C) "__eq__" = some (some (.ref f))) (hf : PySem.W.isFn X.K (.ref f) = true) (hc : CallR X (.ref f) r) (hu : X.A.units < cLine) : OpR X (compareOp .Eq) (rEqR X.K C r) := by
  intro pins s σ H y x v u Q I ry rx h
  obtain ⟨a, dx, fs, T, rfl, ha, ty, q⟩ := h
  obtain ⟨mA, J0, _⟩ := ins_get I.hok ha
  obtain ⟨od, J, _⟩ := J0.look
  have hx : s.heap.get? a = some (PySem.W.instObj C dx) := J.1
  cases rx
  show wpAny (model X.prog X.w) X.A (richCompare .Eq v (.ref a)) (EP X pins σ Q) X.xe s
  have back : wpAny (model X.prog X.w) X.A (call (.ref f) [.ref a, v]) (PySem.W.CmpBack (EP X pins σ Q)) X.xe s := by
    refine wpAny_mono (hc pins s σ H [.ref a, y] [.ref a, v] _ I (.cons rfl (.cons ry .nil)) q) ?_ fun _ _ e => e
    rintro w s' ⟨z, H', I', rz, ⟨b, rfl⟩, q'⟩
    cases rz
    exact ⟨.bl b, H', I', rfl, q'⟩
  generalize hT : Value.type T = t at ty
  cases ty with
  | non =>
    cases ry
    cases hT
    exact rc_refl hu I.kIn (show s.TypeIs .none "NoneType" from rfl) PySem.F.slot_NoneType_eq (call_gives PySem.F.slot_NoneType_eq rfl PySem.F.entry_NoneType_eq (PySem.F.args_NoneType_eq_2 _ _) (NoneType___eq___none_ref_0 a) ⟨rfl, rfl⟩) J hs hf ns.n back
  | bl b =>
    cases ry
    cases hT
    exact rc_refl hu I.kIn (show s.TypeIs (.bool b) "bool" from rfl) PySem.F.slot_bool_eq (call_meets PySem.F.slot_bool_eq rfl PySem.F.entry_int_eq (PySem.F.args_int_eq_2 _ _) (bool_eq_ins b a C dx) ⟨hx, rfl, rfl⟩) J hs hf ns.b back
  | int i =>
    obtain ⟨tk, rfl⟩ := ry
    cases hT
    exact rc_refl hu I.kIn (show s.TypeIs (.int i tk) "int" from rfl) PySem.F.slot_int_eq (call_meets PySem.F.slot_int_eq rfl PySem.F.entry_int_eq (PySem.F.args_int_eq_2 _ _) (int_eq_ins i tk a C dx) ⟨hx, rfl, rfl⟩) J hs hf ns.i back
  | str z =>
    obtain ⟨tk, rfl⟩ := ry
    cases hT
    exact rc_refl hu I.kIn (show s.TypeIs (.str z tk) "str" from rfl) PySem.F.slot_str_eq (call_meets PySem.F.slot_str_eq rfl PySem.F.entry_str_eq (PySem.F.args_str_eq_2 _ _) (str_eq_ins z tk a C dx) ⟨hx, rfl, rfl⟩) J hs hf ns.s back
  | lst e =>
    cases ry
    cases hT
    obtain ⟨z, its, n, rr, hl, e2⟩ := I.lstM e
    have ti : s.TypeIs (.ref _) "list" := ⟨_, e2, rfl⟩
    exact rc_refl hu I.kIn ti PySem.F.slot_list_eq (call_meets PySem.F.slot_list_eq ti PySem.F.entry_list_eq (PySem.F.args_list_eq_2 _ _) (list_eq_ins _ _ _ _ _ a C dx ns.l) ⟨I.kIn, e2, hx, rfl, rfl⟩) J hs hf ns.l back
  | tup e =>
    cases ry
    cases hT
    obtain ⟨its, rr, ⟨o, ho, hcl, n, hd⟩, _⟩ := I.tuple (.of e)
    obtain ⟨oc, odd, odt, osl⟩ := o
    cases hcl
    cases hd
    have ti : s.TypeIs (.ref _) "tuple" := ⟨_, ho, rfl⟩
    exact rc_refl hu I.kIn ti PySem.F.slot_tuple_eq (call_meets PySem.F.slot_tuple_eq ti PySem.F.entry_tuple_eq (PySem.F.args_tuple_eq_2 _ _) (tuple_eq_ins _ _ _ _ _ a C dx ns.t) ⟨I.kIn, ho, hx, rfl, rfl⟩) J hs hf ns.t back
  | dK e =>
    cases ry
    cases hT
    obtain ⟨_, _, vs, kv, o, es, ep, ho, hxd, hd, _⟩ := dk_of I.hok e
    obtain ⟨oc, odd, odt, osl⟩ := o
    obtain ⟨h1, h2, h3⟩ := hxd
    cases h1
    cases h2
    cases h3
    cases hd
    have ti : s.TypeIs (.ref _) "dict" := ⟨_, ho, rfl⟩
    exact rc_refl hu I.kIn ti PySem.F.slot_dict_eq (call_meets PySem.F.slot_dict_eq ti PySem.F.entry_dict_eq (PySem.F.args_dict_eq_2 _ _) (dict_eq_ins _ _ _ a C dx ns.d) ⟨I.kIn, ho, hx, rfl, rfl⟩) J hs hf ns.d back
  | ins e => cases hT
end
end Dz

set_option Elab.async false
set_option linter.all false
set_option maxRecDepth 100000
set_option maxHeartbeats 2000000
/-! str(o) of a text's own class. -/
namespace Dz
open PySem PySem.Spec PyProof.Rows L2
theorem Calm.in1 {A : Around} (h : Calm A) : Calm A.in1 := h
/-- str(o), o an instance of the class at C whose own __str__ stands at f -/
theorem call_strO {X : Cx} {C f : Addr} {k : Nat} {sp : Sp} (hs : PySem.W.findIn X.K (.ref C) "__str__" = some (some (.ref f))) (hf : PySem.W.isFn X.K (.ref f) = true) (F : Kp X.prog X.w X.K X.mg X.base CX0 k f ["self"] [] sp) (hcl : Calm X.A) (hr : Room (k + 2) X.A) :
    CallR X (.type "str") (fun xs H Q => ∃ a dx fs, xs = [.ref a] ∧ H a = some (.ins C dx fs) ∧ sp [.ref a] H (fun v H' => (∃ z, v = .str z) ∧ Q v H') E0) := by
  intro pins s σ H xs us Q I r h
  obtain ⟨a, dx, fs, rfl, ha, q⟩ := h
  cases r with
  | @cons _ u _ _ rv rn =>
  cases rn
  cases (show u = Value.ref a from rv)
  obtain ⟨mA, J, _⟩ := ins_get I.hok ha
  obtain ⟨od, J, _⟩ := J.look
  obtain ⟨fd, G, b⟩ := F.ex
  have r2 := hr.in1.in1
  refine PySem.W.kso_call r2.units0 I.kIn J hs hf ?_
  have bb := b s [.ref a] I.kIn rfl
  refine wpAny_call (codeAny_mono (G.go X.A.in1.in1 X.stack s H ⟨[.ref a], []⟩ [.ref a] [.ref a] _ E0 hcl.in1.in1 r2 I.env0.in1.in1 bb (.cons rfl .nil) q) ?_)
  intro rs s' hq
  match rs, hq with
  | .error e, hq => exact pass0 pins σ H s e s' I hq
  | .ok (.ret u), hq =>
    obtain ⟨v, H', I', rw', ⟨z, rfl⟩, q'⟩ := I.after hq
    obtain ⟨t, rfl⟩ := rw'
    exact ⟨.str z, H', I', ⟨t, rfl⟩, q'⟩
end Dz

set_option Elab.async false
set_option linter.all false
set_option maxRecDepth 100000
set_option maxHeartbeats 2000000
/-! Data: what a value shows, cells that may change, and the state of both. -/
namespace Ed
open PySem PySem.Spec PyProof.Rows L2 Dz
/-- data, as the proofs speak of it; ref: a cell, or whatever stands there -/
inductive D where
  | non | bl (b : Bool) | int (i : Int) | str (x : Str) | ty (n : String)
  | lst (ds : List D) | tup (ds : List D) | dK (kvs : List (Key × D)) | dT (kvs : List (List Key × D))
  | ins (C : Addr) (fs : List (Str × D)) | err (C : Addr) (fs : List (Str × D)) | exo (a dd C : Addr) (fs : List (Str × D))
  | ctup (ds : List D) | scr (ns : List Int) | ref (a : Addr)
inductive Cell where
  | lst (ds : List D) | dK (kvs : List (Key × D)) | dT (kvs : List (List Key × D)) | ins (C : Addr) (fs : List (Str × D))
abbrev Lc := Addr → Option Cell
def updL (L : Lc) (a : Addr) (c : Cell) : Lc := fun b => if b = a then some c else L b
def delL (L : Lc) (a : Addr) : Lc := fun b => if b = a then none else L b
theorem updL_same {L : Lc} {a : Addr} {c : Cell} : updL L a c a = some c := by unfold updL; rw [if_pos rfl]
theorem updL_ne {L : Lc} {a b : Addr} {c : Cell} (h : b ≠ a) : updL L a c b = L b := by unfold updL; rw [if_neg h]
theorem delL_same {L : Lc} {a : Addr} : delL L a a = none := by unfold delL; rw [if_pos rfl]
theorem delL_ne {L : Lc} {a b : Addr} (h : b ≠ a) : delL L a b = L b := by unfold delL; rw [if_neg h]
theorem updL_updL {L : Lc} {a : Addr} {c d : Cell} : updL (updL L a c) a d = updL L a d := by
  funext b; unfold updL; split <;> rfl
theorem updL_swap {L : Lc} {a b : Addr} {c d : Cell} (h : a ≠ b) : updL (updL L a c) b d = updL (updL L b d) a c := by
  funext z; unfold updL
  by_cases h1 : z = b
  · subst h1; rw [if_pos rfl, if_neg (fun e => h e.symm), if_pos rfl]
  · rw [if_neg h1]
    by_cases h2 : z = a
    · rw [if_pos h2, if_pos h2]
    · rw [if_neg h2, if_neg h2, if_neg h1]
theorem delL_updL {L : Lc} {a : Addr} {c : Cell} (h : L a = none) : delL (updL L a c) a = L := by
  funext b; unfold delL updL
  by_cases e : b = a
  · rw [if_pos e, e, h]
  · rw [if_neg e, if_neg e]
/-- a tuple of the written part -/
def KTup (K : PySem.W.Frag) (a : Addr) (xs : List V) : Prop :=
  ∃ (o : Obj) (its : Array Value) (n : Nat), K.lookup a = some o ∧ o.cls = .type "tuple" ∧ o.data = .seq its n ∧ its.size ≤ sizeLine ∧ Vals xs its.toList
theorem KTup.sq {K : PySem.W.Frag} {H : Hp} {a : Addr} {xs : List V} (h : KTup K a xs) : SqT K H a xs := .inr h
def ScrOk (K : PySem.W.Frag) (H : Hp) (Λ : Addr → Prop) (a : Addr) (xs : List V) : Prop := (¬ Λ a ∧ Rd H a (.lst xs)) ∨
  ∃ (o : Obj) (its : Array Value) (n : Nat), K.lookup a = some o ∧ o.cls = .type "list" ∧ o.dict = none ∧ o.data = .seq its n ∧ its.size ≤ sizeLine ∧ Vals xs its.toList
theorem ScrOk.sq {K : PySem.W.Frag} {H : Hp} {Λ : Addr → Prop} {a : Addr} {xs : List V} (h : ScrOk K H Λ a xs) : SqL K H a xs := by
  rcases h with h | h
  · exact .inl h.2
  · exact .inr h
mutual
/-- what a value shows; nothing of it stands in Λ -/
inductive Rp (K : PySem.W.Frag) (H : Hp) (Λ : Addr → Prop) : V → D → Prop
  | non : Rp K H Λ .non .non
  | bl (b : Bool) : Rp K H Λ (.bl b) (.bl b)
  | int (i : Int) : Rp K H Λ (.int i) (.int i)
  | str (x : Str) : Rp K H Λ (.str x) (.str x)
  | ty (n : String) : Rp K H Λ (.ty n) (.ty n)
  | lst {a : Addr} {xs : List V} {ds : List D} : ¬ Λ a → H a = some (.lst xs) → RpL K H Λ xs ds → Rp K H Λ (.ref a) (.lst ds)
  | tup {a : Addr} {xs : List V} {ds : List D} : ¬ Λ a → H a = some (.tup xs) → RpL K H Λ xs ds → Rp K H Λ (.ref a) (.tup ds)
  | ctup {a : Addr} {xs : List V} {ds : List D} : KTup K a xs → RpL K H Λ xs ds → Rp K H Λ (.ref a) (.ctup ds)
  | dK {a : Addr} {ks : List (Key × V)} {es : List (Key × D)} : ¬ Λ a → Rd H a (.dK ks) → ks.map (·.1) = es.map (·.1) → RpL K H Λ (ks.map (·.2)) (es.map (·.2)) → Rp K H Λ (.ref a) (.dK es)
  | dT {a : Addr} {ks : List (List Key × V)} {es : List (List Key × D)} : ¬ Λ a → Rd H a (.dT ks) → ks.map (·.1) = es.map (·.1) → RpL K H Λ (ks.map (·.2)) (es.map (·.2)) → Rp K H Λ (.ref a) (.dT es)
  | ins {a C dx : Addr} {ks : List (Str × V)} {es : List (Str × D)} : ¬ Λ a → H a = some (.ins C dx ks) → ks.map (·.1) = es.map (·.1) → RpL K H Λ (ks.map (·.2)) (es.map (·.2)) → Rp K H Λ (.ref a) (.ins C es)
  | err {a C d : Addr} {ks : List (Str × V)} {es : List (Str × D)} : ¬ Λ a → ¬ Λ d → Rd H a (exo a C (some d)) → Rd H d (exd d ks) → ks.map (·.1) = es.map (·.1) → RpL K H Λ (ks.map (·.2)) (es.map (·.2)) → Rp K H Λ (.ref a) (.err C es)
  | exo {a d C : Addr} {ks : List (Str × V)} {es : List (Str × D)} : ¬ Λ d → H d = some (.xd ks) → ks.map (·.1) = es.map (·.1) → RpL K H Λ (ks.map (·.2)) (es.map (·.2)) → Rp K H Λ (.ref a) (.exo a d C es)
  | scr {a : Addr} {ns : List Int} : ScrOk K H Λ a (ns.map V.int) → ns.length ≤ 63 → Rp K H Λ (.ref a) (.scr ns)
  | ref (a : Addr) : Rp K H Λ (.ref a) (.ref a)
inductive RpL (K : PySem.W.Frag) (H : Hp) (Λ : Addr → Prop) : List V → List D → Prop
  | nil : RpL K H Λ [] []
  | cons {v : V} {vs : List V} {d : D} {ds : List D} : Rp K H Λ v d → RpL K H Λ vs ds → RpL K H Λ (v :: vs) (d :: ds)
end
/-- a dict -/
def Dct : HO → Prop
  | .dK _ => True
  | .dT _ => True
  | _ => False
/-- the same thing, but that a dict may be locked by then -/
def Go (u u' : HO) : Prop := u' = u ∨ ∃ o, Dct u ∧ u' = .frz o u
theorem Go.refl (u : HO) : Go u u := .inl rfl
theorem Go.trans {u v w : HO} (a : Go u v) (b : Go v w) : Go u w := by
  rcases a with rfl | ⟨o, du, rfl⟩
  · exact b
  · rcases b with rfl | ⟨p, dv, _⟩
    · exact .inr ⟨o, du, rfl⟩
    · exact dv.elim
/-- a state: the heap, the cells that are known, all cells -/
structure Sta where
  H : Hp
  L : Lc
  Λ : Addr → Prop
/-- how it goes on: what is no cell stays; a cell that isn't known stays -/
structure Ev (S S' : Sta) : Prop where
  stay : ∀ a u, S.H a = some u → ¬ S.Λ a → ¬ S'.Λ a ∧ ∃ u', S'.H a = some u' ∧ Go u u'
  hid : ∀ a, S.Λ a → S.L a = none → S'.H a = S.H a ∧ S'.Λ a ∧ S'.L a = none
theorem Ev.refl (S : Sta) : Ev S S := ⟨fun _ u h n => ⟨n, u, h, .refl u⟩, fun _ h n => ⟨rfl, h, n⟩⟩
theorem Ev.trans {S T U : Sta} (a : Ev S T) (b : Ev T U) : Ev S U := by
  refine ⟨fun x u h n => ?_, fun x h n => ?_⟩
  · obtain ⟨n1, v, h1, g1⟩ := a.stay x u h n
    obtain ⟨n2, w, h2, g2⟩ := b.stay x v h1 n1
    exact ⟨n2, w, h2, g1.trans g2⟩
  · obtain ⟨e1, h1, n1⟩ := a.hid x h n
    obtain ⟨e2, h2, n2⟩ := b.hid x h1 n1
    exact ⟨e2.trans e1, h2, n2⟩
/-- the same thing, but that a dict may be locked or not -/
def Gw (u u' : HO) : Prop := u' = u ∨ ∃ w, Dct w ∧ (u = w ∨ ∃ o, u = .frz o w) ∧ (u' = w ∨ ∃ o, u' = .frz o w)
/-- what is no cell stays, locked or not -/
def Ew (S S' : Sta) : Prop := ∀ a u, S.H a = some u → ¬ S.Λ a → ¬ S'.Λ a ∧ ∃ u', S'.H a = some u' ∧ Gw u u'
theorem Ev.w {S S' : Sta} (e : Ev S S') : Ew S S' := fun a u h n => by
  obtain ⟨n1, v, h1, g⟩ := e.stay a u h n
  refine ⟨n1, v, h1, ?_⟩
  rcases g with rfl | ⟨o, du, rfl⟩
  · exact .inl rfl
  · exact .inr ⟨u, du, .inl rfl, .inr ⟨o, rfl⟩⟩
section
variable {K : PySem.W.Frag} {S S' : Sta} {a : Addr} {xs : List V}
theorem Ev.one {u : HO} (e : Ev S S') (h : S.H a = some u) (n : ¬ S.Λ a) (nd : ¬ Dct u) (nf : ∀ o w, u ≠ .frz o w) : ¬ S'.Λ a ∧ S'.H a = some u := by
  obtain ⟨n1, v, h1, g⟩ := e.stay a u h n
  rcases g with rfl | ⟨o, dw, _⟩
  · exact ⟨n1, h1⟩
  · exact absurd dw nd
theorem Ev.lk {o : Obj} {u : HO} (e : Ev S S') (h : S.H a = some (.frz o u)) (n : ¬ S.Λ a) : ¬ S'.Λ a ∧ S'.H a = some (.frz o u) := by
  obtain ⟨n1, v, h1, g⟩ := e.stay a _ h n
  rcases g with rfl | ⟨o, dw, _⟩
  · exact ⟨n1, h1⟩
  · exact dw.elim
theorem Ev.rd {u : HO} (e : Ev S S') (h : Rd S.H a u) (n : ¬ S.Λ a) (nf : ∀ o w, u ≠ .frz o w) : ¬ S'.Λ a ∧ Rd S'.H a u := by
  rcases h with h | ⟨o, h⟩
  · obtain ⟨n1, v, h1, g⟩ := e.stay a u h n
    refine ⟨n1, ?_⟩
    rcases g with rfl | ⟨o, _, rfl⟩
    · exact .inl h1
    · exact .inr ⟨o, h1⟩
  · obtain ⟨n1, h1⟩ := e.lk h n
    exact ⟨n1, .inr ⟨o, h1⟩⟩
theorem Ew.one {u : HO} (e : Ew S S') (h : S.H a = some u) (n : ¬ S.Λ a) (nd : ¬ Dct u) (nf : ∀ o w, u ≠ .frz o w) : ¬ S'.Λ a ∧ S'.H a = some u := by
  obtain ⟨n1, v, h1, g⟩ := e a u h n
  rcases g with rfl | ⟨w, dw, g1, _⟩
  · exact ⟨n1, h1⟩
  · rcases g1 with rfl | ⟨o, rfl⟩
    · exact absurd dw nd
    · exact absurd rfl (nf o w)
theorem Ew.rd {u : HO} (e : Ew S S') (h : Rd S.H a u) (n : ¬ S.Λ a) (nf : ∀ o w, u ≠ .frz o w) : ¬ S'.Λ a ∧ Rd S'.H a u := by
  rcases h with h | ⟨o, h⟩
  · obtain ⟨n1, v, h1, g⟩ := e a u h n
    refine ⟨n1, ?_⟩
    rcases g with rfl | ⟨w, dw, g1, g2⟩
    · exact .inl h1
    · rcases g1 with rfl | ⟨o, rfl⟩
      · rcases g2 with rfl | ⟨o, rfl⟩
        · exact .inl h1
        · exact .inr ⟨o, h1⟩
      · exact absurd rfl (nf o w)
  · obtain ⟨n1, v, h1, g⟩ := e a _ h n
    refine ⟨n1, ?_⟩
    rcases g with rfl | ⟨w, dw, g1, g2⟩
    · exact .inr ⟨o, h1⟩
    · rcases g1 with rfl | ⟨o', e1⟩
      · exact dw.elim
      · injection e1 with _ e2
        subst e2
        rcases g2 with rfl | ⟨o, rfl⟩
        · exact .inl h1
        · exact .inr ⟨o, h1⟩
theorem ScrOk.ew (h : ScrOk K S.H S.Λ a xs) (e : Ew S S') : ScrOk K S'.H S'.Λ a xs := by
  rcases h with ⟨n, r⟩ | h
  · exact .inl (e.rd r n (by intro o w z; cases z))
  · exact .inr h
mutual
theorem Rp.ew (e : Ew S S') : ∀ {v : V} {d : D}, Rp K S.H S.Λ v d → Rp K S'.H S'.Λ v d
  | _, _, .non => .non
  | _, _, .bl b => .bl b
  | _, _, .int i => .int i
  | _, _, .str x => .str x
  | _, _, .ty n => .ty n
  | _, _, .ref a => .ref a
  | _, _, .lst n h r =>
    have z := e.one h n (fun z => z) (by intro o w z; cases z)
    .lst z.1 z.2 (RpL.ew e r)
  | _, _, .tup n h r =>
    have z := e.one h n (fun z => z) (by intro o w z; cases z)
    .tup z.1 z.2 (RpL.ew e r)
  | _, _, .ctup h r => .ctup h (RpL.ew e r)
  | _, _, .dK n h k r =>
    have z := e.rd h n (by intro o w z; cases z)
    .dK z.1 z.2 k (RpL.ew e r)
  | _, _, .dT n h k r =>
    have z := e.rd h n (by intro o w z; cases z)
    .dT z.1 z.2 k (RpL.ew e r)
  | _, _, .ins n h k r =>
    have z := e.one h n (fun z => z) (by intro o w z; cases z)
    .ins z.1 z.2 k (RpL.ew e r)
  | _, _, .err n m h g k r =>
    have z := e.rd h n (by intro o w z; cases z)
    have y := e.rd g m (by intro o w z; cases z)
    .err z.1 y.1 z.2 y.2 k (RpL.ew e r)
  | _, _, .exo n h k r =>
    have z := e.one h n (fun z => z) (by intro o w z; cases z)
    .exo z.1 z.2 k (RpL.ew e r)
  | _, _, .scr h l => .scr (h.ew e) l
theorem RpL.ew (e : Ew S S') : ∀ {vs : List V} {ds : List D}, RpL K S.H S.Λ vs ds → RpL K S'.H S'.Λ vs ds
  | _, _, .nil => .nil
  | _, _, .cons h r => .cons (Rp.ew e h) (RpL.ew e r)
end
theorem ScrOk.ev (h : ScrOk K S.H S.Λ a xs) (e : Ev S S') : ScrOk K S'.H S'.Λ a xs := h.ew e.w
theorem Rp.ev (e : Ev S S') {v : V} {d : D} (h : Rp K S.H S.Λ v d) : Rp K S'.H S'.Λ v d := Rp.ew e.w h
theorem RpL.ev (e : Ev S S') {v : List V} {d : List D} (h : RpL K S.H S.Λ v d) : RpL K S'.H S'.Λ v d := RpL.ew e.w h
theorem RpL.length : ∀ {vs : List V} {ds : List D}, RpL K S.H S.Λ vs ds → vs.length = ds.length
  | _, _, .nil => rfl
  | _, _, .cons _ r => by rw [List.length_cons, List.length_cons, RpL.length r]
theorem RpL.get : ∀ {vs : List V} {ds : List D} {i : Nat} {d : D}, RpL K S.H S.Λ vs ds → ds[i]? = some d → ∃ v, vs[i]? = some v ∧ Rp K S.H S.Λ v d
  | _, _, _, _, .nil, h => by simp at h
  | _, _, 0, _, .cons h _, e => by simp at e; subst e; exact ⟨_, rfl, h⟩
  | _, _, i + 1, _, .cons _ r, e => by
    obtain ⟨v, h1, h2⟩ := RpL.get (i := i) r (by simpa using e)
    exact ⟨v, by simpa using h1, h2⟩
theorem RpL.append : ∀ {vs ws : List V} {ds es : List D}, RpL K S.H S.Λ vs ds → RpL K S.H S.Λ ws es → RpL K S.H S.Λ (vs ++ ws) (ds ++ es)
  | _, _, _, _, .nil, s => s
  | _, _, _, _, .cons h r, s => .cons h (RpL.append r s)
theorem RpL.take : ∀ {vs : List V} {ds : List D} (n : Nat), RpL K S.H S.Λ vs ds → RpL K S.H S.Λ (vs.take n) (ds.take n)
  | _, _, 0, _ => .nil
  | _, _, _ + 1, .nil => .nil
  | _, _, n + 1, .cons h r => .cons h (RpL.take n r)
theorem RpL.drop : ∀ {vs : List V} {ds : List D} (n : Nat), RpL K S.H S.Λ vs ds → RpL K S.H S.Λ (vs.drop n) (ds.drop n)
  | _, _, 0, r => r
  | _, _, _ + 1, .nil => .nil
  | _, _, n + 1, .cons _ r => RpL.drop n r
theorem RpL.set {v : V} {d : D} (h : Rp K S.H S.Λ v d) : ∀ {vs : List V} {ds : List D} (n : Nat), RpL K S.H S.Λ vs ds → RpL K S.H S.Λ (vs.set n v) (ds.set n d)
  | _, _, _, .nil => .nil
  | _, _, 0, .cons _ r => .cons h r
  | _, _, n + 1, .cons g r => .cons g (RpL.set h n r)
theorem RpL.reverse : ∀ {vs : List V} {ds : List D}, RpL K S.H S.Λ vs ds → RpL K S.H S.Λ vs.reverse ds.reverse
  | _, _, .nil => .nil
  | _, _, .cons h r => by rw [List.reverse_cons, List.reverse_cons]; exact RpL.append (RpL.reverse r) (.cons h .nil)
theorem RpL.eraseIdx : ∀ {vs : List V} {ds : List D} (n : Nat), RpL K S.H S.Λ vs ds → RpL K S.H S.Λ (vs.eraseIdx n) (ds.eraseIdx n)
  | _, _, _, .nil => .nil
  | _, _, 0, .cons _ r => r
  | _, _, n + 1, .cons h r => .cons h (RpL.eraseIdx n r)
theorem RpL.ints : ∀ ns : List Int, RpL K S.H S.Λ (ns.map V.int) (ns.map D.int)
  | [] => .nil
  | n :: ns => .cons (.int n) (RpL.ints ns)
theorem RpL.strs : ∀ ns : List Str, RpL K S.H S.Λ (ns.map V.str) (ns.map D.str)
  | [] => .nil
  | n :: ns => .cons (.str n) (RpL.strs ns)
theorem RpL.int_of : ∀ {vs : List V} {ns : List Int}, RpL K S.H S.Λ vs (ns.map D.int) → vs = ns.map V.int
  | _, [], h => by cases h; rfl
  | _, n :: ns, h => by
    cases h with
    | cons h r => cases h; rw [List.map_cons, RpL.int_of r]
theorem RpL.str_of : ∀ {vs : List V} {ns : List Str}, RpL K S.H S.Λ vs (ns.map D.str) → vs = ns.map V.str
  | _, [], h => by cases h; rfl
  | _, n :: ns, h => by
    cases h with
    | cons h r => cases h; rw [List.map_cons, RpL.str_of r]
theorem RpL.bl_of : ∀ {vs : List V} {ns : List Bool}, RpL K S.H S.Λ vs (ns.map D.bl) → vs = ns.map V.bl
  | _, [], h => by cases h; rfl
  | _, n :: ns, h => by
    cases h with
    | cons h r => cases h; rw [List.map_cons, RpL.bl_of r]
end
/-- what stands in a cell -/
def CellOk (K : PySem.W.Frag) (H : Hp) (Λ : Addr → Prop) (a : Addr) : Cell → Prop
  | .lst ds => ∃ xs, H a = some (.lst xs) ∧ RpL K H Λ xs ds
  | .dK es => ∃ ks : List (Key × V), H a = some (.dK ks) ∧ ks.map (·.1) = es.map (·.1) ∧ RpL K H Λ (ks.map (·.2)) (es.map (·.2))
  | .dT es => ∃ ks : List (List Key × V), H a = some (.dT ks) ∧ ks.map (·.1) = es.map (·.1) ∧ RpL K H Λ (ks.map (·.2)) (es.map (·.2))
  | .ins C es => ∃ (dx : Addr) (ks : List (Str × V)), H a = some (.ins C dx ks) ∧ ks.map (·.1) = es.map (·.1) ∧ RpL K H Λ (ks.map (·.2)) (es.map (·.2))
/-- no tuple -/
def NT (u : HO) : Prop := ∀ xs, u ≠ .tup xs
structure Ok (K : PySem.W.Frag) (S : Sta) : Prop where
  cell : ∀ a c, S.L a = some c → S.Λ a ∧ CellOk K S.H S.Λ a c
  there : ∀ a, S.Λ a → ∃ u, S.H a = some u ∧ NT u
section
variable {K : PySem.W.Frag} {S S' : Sta} {a p : Addr} {c : Cell} {o : HO}
theorem CellOk.ev (h : CellOk K S.H S.Λ a c) (e : Ev S S') (q : S'.H a = S.H a) : CellOk K S'.H S'.Λ a c := by
  cases c with
  | lst ds =>
    obtain ⟨xs, h1, r⟩ := h
    exact ⟨xs, q.trans h1, r.ev e⟩
  | dK es =>
    obtain ⟨ks, h1, k, r⟩ := h
    exact ⟨ks, q.trans h1, k, r.ev e⟩
  | dT es =>
    obtain ⟨ks, h1, k, r⟩ := h
    exact ⟨ks, q.trans h1, k, r.ev e⟩
  | ins C es =>
    obtain ⟨dx, ks, h1, k, r⟩ := h
    exact ⟨dx, ks, q.trans h1, k, r.ev e⟩
theorem CellOk.nt {H : Hp} {Λ : Addr → Prop} {u : HO} (h : CellOk K H Λ a c) (e : H a = some u) : NT u := by
  intro xs z
  subst z
  cases c with
  | lst ds => obtain ⟨_, h1, _⟩ := h; rw [e] at h1; cases h1
  | dK es => obtain ⟨_, h1, _⟩ := h; rw [e] at h1; cases h1
  | dT es => obtain ⟨_, h1, _⟩ := h; rw [e] at h1; cases h1
  | ins C es => obtain ⟨_, _, h1, _⟩ := h; rw [e] at h1; cases h1
theorem Ok.lam (h : Ok K S) (n : S.H p = none) : ¬ S.Λ p := fun z => by
  obtain ⟨u, h1, _⟩ := h.there p z
  rw [n] at h1; cases h1
theorem Ok.ntup {xs : List V} (h : Ok K S) (e : S.H p = some (.tup xs)) : ¬ S.Λ p := fun z => by
  obtain ⟨u, h1, h2⟩ := h.there p z
  rw [e] at h1; cases h1; exact h2 xs rfl
theorem Ok.lno (h : Ok K S) (n : S.H p = none) : S.L p = none := by
  cases e : S.L p with
  | none => rfl
  | some c => exact absurd (h.cell p c e).1 (h.lam n)
/-! what a step does -/
/-- a new thing that is no cell -/
def Sta.new (S : Sta) (p : Addr) (o : HO) : Sta := ⟨upd S.H p o, S.L, S.Λ⟩
theorem ev_new (n : S.H p = none) (_ : Ok K S) : Ev S (S.new p o) :=
  ⟨fun b u h m => ⟨m, u, (by show upd S.H p o b = some u; rw [upd_ne (ne_of_none h n)]; exact h), .refl u⟩, fun b h m => ⟨upd_ne (fun z => by rw [z] at h; exact (‹Ok K S›).lam n h), h, m⟩⟩
theorem ok_new (n : S.H p = none) (k : Ok K S) : Ok K (S.new p o) := by
  refine ⟨fun b c h => ?_, fun b h => ?_⟩
  · obtain ⟨h1, h2⟩ := k.cell b c h
    exact ⟨h1, h2.ev (S := S) (S' := S.new p o) (ev_new n k) (upd_ne fun z => by rw [z] at h1; exact k.lam n h1)⟩
  · show ∃ u, upd S.H p o b = some u ∧ NT u
    rw [upd_ne (fun z => by rw [z] at h; exact k.lam n h)]
    exact k.there b h
/-- a new cell -/
def Sta.newc (S : Sta) (p : Addr) (o : HO) (c : Cell) : Sta := ⟨upd S.H p o, updL S.L p c, fun b => b = p ∨ S.Λ b⟩
theorem ev_newc (n : S.H p = none) (k : Ok K S) : Ev S (S.newc p o c) :=
  ⟨fun b u h m => have ne := ne_of_none h n; ⟨(fun z => z.elim ne m), u, (by show upd S.H p o b = some u; rw [upd_ne ne]; exact h), .refl u⟩,
    fun b h m => have ne : b ≠ p := fun z => by rw [z] at h; exact k.lam n h
      ⟨upd_ne ne, .inr h, (updL_ne ne).trans m⟩⟩
theorem ok_newc (n : S.H p = none) (k : Ok K S) (h : CellOk K (S.newc p o c).H (S.newc p o c).Λ p c) : Ok K (S.newc p o c) := by
  refine ⟨fun b d hb => ?_, fun b hb => ?_⟩
  · by_cases e : b = p
    · subst e
      rw [show (S.newc b o c).L b = some c from updL_same] at hb
      cases hb
      exact ⟨.inl rfl, h⟩
    · rw [show (S.newc p o c).L b = S.L b from updL_ne e] at hb
      obtain ⟨h1, h2⟩ := k.cell b d hb
      exact ⟨.inr h1, h2.ev (S := S) (S' := S.newc p o c) (ev_newc n k) (upd_ne e)⟩
  · show ∃ u, upd S.H p o b = some u ∧ NT u
    by_cases e : b = p
    · rw [e, upd_same]; exact ⟨_, rfl, h.nt upd_same⟩
    · rw [upd_ne e]
      exact k.there b (hb.elim (fun z => absurd z e) id)
/-- a cell is changed -/
def Sta.put (S : Sta) (p : Addr) (o : HO) (c : Cell) : Sta := ⟨upd S.H p o, updL S.L p c, S.Λ⟩
theorem ev_put {c₀ : Cell} (h0 : S.L p = some c₀) (k : Ok K S) : Ev S (S.put p o c) :=
  ⟨fun b u h m => have ne : b ≠ p := fun z => by rw [z] at m; exact m (k.cell p _ h0).1
    ⟨m, u, (upd_ne ne).trans h, .refl u⟩,
    fun b h m => have ne : b ≠ p := fun z => by rw [z, h0] at m; cases m
      ⟨upd_ne ne, h, (updL_ne ne).trans m⟩⟩
theorem ok_put {c₀ : Cell} (h0 : S.L p = some c₀) (k : Ok K S) (h : CellOk K (S.put p o c).H (S.put p o c).Λ p c) : Ok K (S.put p o c) := by
  refine ⟨fun b d hb => ?_, fun b hb => ?_⟩
  · by_cases e : b = p
    · subst e
      rw [show (S.put b o c).L b = some c from updL_same] at hb
      cases hb
      exact ⟨(k.cell b _ h0).1, h⟩
    · rw [show (S.put p o c).L b = S.L b from updL_ne e] at hb
      obtain ⟨h1, h2⟩ := k.cell b d hb
      exact ⟨h1, h2.ev (S := S) (S' := S.put p o c) (ev_put h0 k) (upd_ne e)⟩
  · show ∃ u, upd S.H p o b = some u ∧ NT u
    by_cases e : b = p
    · rw [e, upd_same]; exact ⟨_, rfl, h.nt upd_same⟩
    · rw [upd_ne e]
      exact k.there b hb
/-- a cell becomes data that stays -/
def Sta.fz (S : Sta) (p : Addr) : Sta := ⟨S.H, delL S.L p, fun b => S.Λ b ∧ b ≠ p⟩
theorem ev_fz {c₀ : Cell} (h0 : S.L p = some c₀) : Ev S (S.fz p) :=
  ⟨fun b u h m => ⟨fun z => m z.1, u, h, .refl u⟩, fun b h m => have ne : b ≠ p := fun z => by rw [z, h0] at m; cases m
    ⟨rfl, ⟨h, ne⟩, (delL_ne ne).trans m⟩⟩
theorem ok_fz {c₀ : Cell} (h0 : S.L p = some c₀) (k : Ok K S) : Ok K (S.fz p) := by
  refine ⟨fun b d hb => ?_, fun b hb => k.there b hb.1⟩
  by_cases e : b = p
  · subst e
    rw [show (S.fz b).L b = none from delL_same] at hb
    cases hb
  · rw [show (S.fz p).L b = S.L b from delL_ne e] at hb
    obtain ⟨h1, h2⟩ := k.cell b d hb
    exact ⟨⟨h1, e⟩, h2.ev (S := S) (S' := S.fz p) (ev_fz h0) rfl⟩
/-- a cell is known no more -/
def Sta.gone (S : Sta) (L' : Lc) : Sta := ⟨S.H, L', S.Λ⟩
theorem ev_gone {L' : Lc} (h : ∀ a c, L' a = some c → S.L a = some c) : Ev S (S.gone L') :=
  ⟨fun b u h m => ⟨m, u, h, .refl u⟩, fun b h1 m => ⟨rfl, h1, by
    cases e : L' b with
    | none => exact e
    | some c => rw [h b c e] at m; cases m⟩⟩
theorem ok_gone {L' : Lc} (h : ∀ a c, L' a = some c → S.L a = some c) (k : Ok K S) : Ok K (S.gone L') := by
  refine ⟨fun b d hb => ?_, k.there⟩
  obtain ⟨h1, h2⟩ := k.cell b d (h b d hb)
  exact ⟨h1, h2.ev (S := S) (S' := S.gone L') (ev_gone h) rfl⟩
end
end Ed

set_option Elab.async false
set_option linter.all false
set_option maxRecDepth 100000
set_option maxHeartbeats 2000000
/-! Judgements at the level of data; expressions. -/
namespace Ed
open PySem PySem.Spec PyProof.Rows L2 Dz
abbrev Dv := List (Option D)
abbrev DQ := D → Lc → Prop
/-- an error that leaves: its class, its fields -/
abbrev EW := Addr → List (Str × D) → Dv → Lc → Prop
abbrev DTE := EW → Dv → Lc → DQ → Prop
abbrev DTA := EW → Dv → Lc → (List D → Lc → Prop) → Prop
abbrev DTT := EW → Dv → Lc → (Bool → Lc → Prop) → Prop
structure DEnds where
  nx : Dv → Lc → Prop
  rt : DQ
  bk : Dv → Lc → Prop := fun _ _ => False
  ct : Dv → Lc → Prop := fun _ _ => False
abbrev DTS := EW → DEnds → Dv → Lc → Prop
abbrev DTG := EW → D → Dv → Lc → (Dv → Lc → Prop) → Prop
/-- the slots -/
structure RelS (K : PySem.W.Frag) (S : Sta) (σ : L2.St) (ρ : Dv) : Prop where
  len : σ.length = ρ.length
  at_ : ∀ (i : Nat) (d : D), ρ[i]? = some (some d) → ∃ v, σ[i]? = some (some v) ∧ Rp K S.H S.Λ v d
def RelQ (K : PySem.W.Frag) (S : Sta) (Q : VK) (q : DQ) : Prop := ∀ S' v d, Ev S S' → Ok K S' → Rp K S'.H S'.Λ v d → q d S'.L → Q v S'.H
def RelA (K : PySem.W.Frag) (S : Sta) (Q : List V → Hp → Prop) (q : List D → Lc → Prop) : Prop := ∀ S' vs ds, Ev S S' → Ok K S' → RpL K S'.H S'.Λ vs ds → q ds S'.L → Q vs S'.H
def RelT (K : PySem.W.Frag) (S : Sta) (Q : Bool → Hp → Prop) (q : Bool → Lc → Prop) : Prop := ∀ S' b, Ev S S' → Ok K S' → q b S'.L → Q b S'.H
def RelN (K : PySem.W.Frag) (S : Sta) (N : L2.St → Hp → Prop) (n : Dv → Lc → Prop) : Prop := ∀ S' σ ρ, Ev S S' → Ok K S' → RelS K S' σ ρ → n ρ S'.L → N σ S'.H
def RelW (K : PySem.W.Frag) (S : Sta) (W : WX) (ew : EW) : Prop := ∀ S' C dd (fs : List (Str × V)) (gs : List (Str × D)) σ ρ, Ev S S' → Ok K S' → RelS K S' σ ρ → ¬ S'.Λ dd → S'.H dd = some (.xd fs) → fs.map (·.1) = gs.map (·.1) → RpL K S'.H S'.Λ (fs.map (·.2)) (gs.map (·.2)) →
  ew C gs ρ S'.L → W (.ref C) (some dd) σ S'.H
structure RelD (K : PySem.W.Frag) (S : Sta) (D : Ends) (d : DEnds) : Prop where
  nx : RelN K S D.nx d.nx
  rt : RelQ K S D.rt d.rt
  bk : RelN K S D.bk d.bk
  ct : RelN K S D.ct d.ct
/-- slots forgotten -/
def dwipe (ρ : Dv) : List Nat → Dv
  | [] => ρ
  | v :: vs => (dwipe ρ vs).set v none
/-- where one stands -/
structure In (K : PySem.W.Frag) (W : WX) (ew : EW) (S : Sta) (σ : L2.St) (ρ : Dv) : Prop where
  ok : Ok K S
  sl : RelS K S σ ρ
  wi : RelW K S W ew
section
variable {K : PySem.W.Frag} {S S' : Sta} {σ : L2.St} {ρ : Dv} {W : WX} {ew : EW}
theorem RelS.ev (h : RelS K S σ ρ) (e : Ev S S') : RelS K S' σ ρ := ⟨h.len, fun i d q => let ⟨v, h1, h2⟩ := h.at_ i d q; ⟨v, h1, h2.ev e⟩⟩
theorem RelS.set {i : Nat} {v : V} {d : D} (h : RelS K S σ ρ) (r : Rp K S.H S.Λ v d) : RelS K S (σ.set i (some v)) (ρ.set i (some d)) := by
  refine ⟨by rw [List.length_set, List.length_set]; exact h.len, fun j e q => ?_⟩
  by_cases hj : j = i
  · subst hj
    by_cases hl : j < ρ.length
    · rw [List.getElem?_set_self hl] at q
      cases q
      exact ⟨v, by rw [List.getElem?_set_self (by rw [h.len]; exact hl)], r⟩
    · rw [List.getElem?_eq_none (by rw [List.length_set]; omega)] at q
      cases q
  · rw [List.getElem?_set_ne (Ne.symm hj)] at q
    obtain ⟨w, h1, h2⟩ := h.at_ j e q
    exact ⟨w, by rw [List.getElem?_set_ne (Ne.symm hj)]; exact h1, h2⟩
theorem RelS.unset {i : Nat} {x : Option V} (h : RelS K S σ ρ) : RelS K S (σ.set i x) (ρ.set i none) := by
  refine ⟨by rw [List.length_set, List.length_set]; exact h.len, fun j e q => ?_⟩
  by_cases hj : j = i
  · subst hj
    by_cases hl : j < ρ.length
    · rw [List.getElem?_set_self hl] at q; cases q
    · rw [List.getElem?_eq_none (by rw [List.length_set]; omega)] at q; cases q
  · rw [List.getElem?_set_ne (Ne.symm hj)] at q
    obtain ⟨w, h1, h2⟩ := h.at_ j e q
    exact ⟨w, by rw [List.getElem?_set_ne (Ne.symm hj)]; exact h1, h2⟩
theorem RelS.wipe : ∀ {vs : List Nat} {σ : L2.St} {ρ : Dv}, RelS K S σ ρ → RelS K S (L2.wipe σ vs) (dwipe ρ vs)
  | [], _, _, h => h
  | i :: vs, _, _, h => (RelS.wipe (vs := vs) h).unset
theorem RelQ.ev {Q : VK} {q : DQ} (h : RelQ K S Q q) (e : Ev S S') : RelQ K S' Q q := fun T v d f => h T v d (e.trans f)
theorem RelN.ev {N : L2.St → Hp → Prop} {n : Dv → Lc → Prop} (h : RelN K S N n) (e : Ev S S') : RelN K S' N n := fun T v d f => h T v d (e.trans f)
theorem RelW.ev (h : RelW K S W ew) (e : Ev S S') : RelW K S' W ew := fun T C dd fs gs σ ρ f => h T C dd fs gs σ ρ (e.trans f)
theorem RelD.ev {D : Ends} {d : DEnds} (h : RelD K S D d) (e : Ev S S') : RelD K S' D d := ⟨h.nx.ev e, h.rt.ev e, h.bk.ev e, h.ct.ev e⟩
theorem In.ev (h : In K W ew S σ ρ) (e : Ev S S') (k : Ok K S') : In K W ew S' σ ρ := ⟨k, h.sl.ev e, h.wi.ev e⟩
end
def SimE (K : PySem.W.Frag) (te : WX → TE) (de : DTE) : Prop := ∀ (W : WX) (ew : EW) (S : Sta) (σ : L2.St) (ρ : Dv) (Q : VK) (q : DQ), In K W ew S σ ρ → RelQ K S Q q → de ew ρ S.L q → te W σ S.H Q
def SimA (K : PySem.W.Frag) (ta : WX → TA) (da : DTA) : Prop := ∀ (W : WX) (ew : EW) (S : Sta) (σ : L2.St) (ρ : Dv) (Q : List V → Hp → Prop) (q : List D → Lc → Prop), In K W ew S σ ρ → RelA K S Q q → da ew ρ S.L q → ta W σ S.H Q
def SimT (K : PySem.W.Frag) (tt : WX → TT) (dt : DTT) : Prop := ∀ (W : WX) (ew : EW) (S : Sta) (σ : L2.St) (ρ : Dv) (Q : Bool → Hp → Prop) (q : Bool → Lc → Prop), In K W ew S σ ρ → RelT K S Q q → dt ew ρ S.L q → tt W σ S.H Q
def SimS (K : PySem.W.Frag) (ts : WX → TS) (ds : DTS) : Prop := ∀ (W : WX) (ew : EW) (S : Sta) (σ : L2.St) (ρ : Dv) (D : Ends) (d : DEnds), In K W ew S σ ρ → RelD K S D d → ds ew d ρ S.L → ts W D σ S.H
def SimG (K : PySem.W.Frag) (tg : WX → TG) (dg : DTG) : Prop := ∀ (W : WX) (ew : EW) (S : Sta) (σ : L2.St) (ρ : Dv) (v : V) (x : D) (N : L2.St → Hp → Prop) (n : Dv → Lc → Prop), In K W ew S σ ρ → Rp K S.H S.Λ v x → RelN K S N n → dg ew x ρ S.L n → tg W v σ S.H N
/-- an expression, its reading, what it comes to at the level of data -/
structure DE (X : Cx) (K : PySem.W.Frag) (te : WX → TE) (e : Expr) (de : DTE) : Prop where
  pe : ∀ W, Takes X W → PE X e (te W)
  sim : SimE K te de
structure DA (X : Cx) (K : PySem.W.Frag) (ta : WX → TA) (es : List Expr) (da : DTA) : Prop where
  pa : ∀ W, Takes X W → PA X es (ta W)
  sim : SimA K ta da
structure DT (X : Cx) (K : PySem.W.Frag) (tt : WX → TT) (e : Expr) (dt : DTT) : Prop where
  pt : ∀ W, Takes X W → PT X e (tt W)
  sim : SimT K tt dt
structure DS (X : Cx) (K : PySem.W.Frag) (ts : WX → TS) (st : Stmt) (ds : DTS) : Prop where
  ps : ∀ W, Takes X W → PS X st (ts W)
  sim : SimS K ts ds
structure DSs (X : Cx) (K : PySem.W.Frag) (ts : WX → TS) (st : List Stmt) (ds : DTS) : Prop where
  ps : ∀ W, Takes X W → PSs X st (ts W)
  sim : SimS K ts ds
structure DG (X : Cx) (K : PySem.W.Frag) (tg : WX → TG) (e : Expr) (dg : DTG) : Prop where
  pg : ∀ W, Takes X W → PG X e (tg W)
  sim : SimG K tg dg
/-! ### by values -/
abbrev DR1 := D → Lc → DQ → Prop
abbrev DR2 := D → D → Lc → DQ → Prop
abbrev DRL := List D → Lc → DQ → Prop
def SimR2 (K : PySem.W.Frag) (r : R2) (f : DR2) : Prop := ∀ (S : Sta) (x y : V) (a b : D) (Q : VK) (q : DQ), Ok K S → Rp K S.H S.Λ x a → Rp K S.H S.Λ y b → RelQ K S Q q → f a b S.L q → r x y S.H Q
def SimR1 (K : PySem.W.Frag) (r : V → Hp → VK → Prop) (f : DR1) : Prop := ∀ (S : Sta) (x : V) (a : D) (Q : VK) (q : DQ), Ok K S → Rp K S.H S.Λ x a → RelQ K S Q q → f a S.L q → r x S.H Q
def SimRL (K : PySem.W.Frag) (r : List V → Hp → VK → Prop) (f : DRL) : Prop := ∀ (S : Sta) (xs : List V) (as : List D) (Q : VK) (q : DQ), Ok K S → RpL K S.H S.Λ xs as → RelQ K S Q q → f as S.L q → r xs S.H Q
/-! ### expressions -/
def dVar (i : Nat) : DTE := fun _ ρ L q => ∃ d, ρ[i]? = some (some d) ∧ q d L
def dC (d : D) : DTE := fun _ _ L q => q d L
def dOp (f : DR2) (a b : DTE) : DTE := fun w ρ L q => a w ρ L fun x L1 => b w ρ L1 fun y L2 => f x y L2 q
def dUn (f : DR1) (a : DTE) : DTE := fun w ρ L q => a w ρ L fun x L1 => f x L1 q
def dNil : DTA := fun _ _ L q => q [] L
def dCons (a : DTE) (r : DTA) : DTA := fun w ρ L q => a w ρ L fun x L1 => r w ρ L1 fun xs L2 => q (x :: xs) L2
def dCB (f : DRL) (a : DTA) : DTE := fun w ρ L q => a w ρ L fun xs L1 => f xs L1 q
def dNot (a : DTE) : DTE := fun w ρ L q => a w ρ L fun x L1 => ∃ c, x = .bl c ∧ q (.bl (!c)) L1
def dAnd (a b : DTE) : DTE := fun w ρ L q => a w ρ L fun x L1 => ∃ c, x = .bl c ∧ if c = true then b w ρ L1 q else q (.bl false) L1
def dOr (a b : DTE) : DTE := fun w ρ L q => a w ρ L fun x L1 => ∃ c, x = .bl c ∧ if c = true then q (.bl true) L1 else b w ρ L1 q
def dTest (a : DTE) : DTT := fun w ρ L q => a w ρ L fun x L1 => ∃ c, x = .bl c ∧ q c L1
def dtNot (t : DTT) : DTT := fun w ρ L q => t w ρ L fun c L1 => q (!c) L1
def dtAnd (t u : DTT) : DTT := fun w ρ L q => t w ρ L fun c L1 => if c = true then u w ρ L1 q else q false L1
def dtOr (t u : DTT) : DTT := fun w ρ L q => t w ρ L fun c L1 => if c = true then q true L1 else u w ρ L1 q
def dIfE (c : DTT) (a b : DTE) : DTE := fun w ρ L q => c w ρ L fun k L1 => if k = true then a w ρ L1 q else b w ρ L1 q
def dChain (f g : DR2) (a b c : DTE) : DTE := fun w ρ L q => a w ρ L fun x L1 => b w ρ L1 fun y L2 => f x y L2 fun z L3 => ∃ k, z = .bl k ∧ if k = true then c w ρ L3 fun u L4 => g y u L4 q else q (.bl false) L3
def dTup (a : DTA) : DTE := fun w ρ L q => a w ρ L fun xs L1 => xs.length ≤ sizeLine ∧ q (.tup xs) L1
def dLst (a : DTA) : DTE := fun w ρ L q => a w ρ L fun xs L1 => xs.length ≤ sizeLine ∧ q (.lst xs) L1
/-- a new list that may change -/
def dLstC (a : DTA) : DTE := fun w ρ L q => a w ρ L fun xs L1 => xs.length ≤ sizeLine ∧ ∀ p, L1 p = none → q (.ref p) (updL L1 p (.lst xs))
section
variable {X : Cx} {K : PySem.W.Frag} {e a b c : Expr} {es : List Expr} {te ta tb tc : WX → TE} {tr : WX → TA} {de da db dc : DTE} {dr : DTA} {pos p : Pos}
theorem d_var {i : Nat} {x : Str} (hN : X.N[i]? = some x) (hv : Vis X.env.scope x) (hd : (x == ("__debug__" : Str)) = false := by decide) (hcd : (x == ("__classdict__" : Str)) = false := by decide) : DE X K (fun _ => tVar i) (.Name x pos) (dVar i) := by
  refine ⟨fun W _ => pe_var hN hv hd hcd, fun W ew S σ ρ Q q I R h => ?_⟩
  obtain ⟨d, h1, h2⟩ := h
  obtain ⟨v, h3, h4⟩ := I.sl.at_ i d h1
  exact ⟨v, h3, R S v d (.refl S) I.ok h4 h2⟩
/-- a constant, whatever it is -/
theorem d_c {v : V} {d : D} (he : PE X e (tC v)) (r : ∀ H Λ, Rp K H Λ v d) : DE X K (fun _ => tC v) e (dC d) :=
  ⟨fun _ _ => he, fun W ew S σ ρ Q q I R h => R S v d (.refl S) I.ok (r _ _) h⟩
theorem d_int {i j} : DE X K (fun _ => tC (.int i)) (.Constant (.int i) j pos) (dC (.int i)) := d_c pe_int fun _ _ => .int i
theorem d_bl {b j} : DE X K (fun _ => tC (.bl b)) (.Constant (.bool b) j pos) (dC (.bl b)) := d_c pe_bl fun _ _ => .bl b
theorem d_non {j} : DE X K (fun _ => tC .non) (.Constant .none j pos) (dC .non) := d_c pe_non fun _ _ => .non
theorem d_str {x j} : DE X K (fun _ => tC (.str x)) (.Constant (.str x) j pos) (dC (.str x)) := d_c pe_str fun _ _ => .str x
theorem d_op {op : Operator} {r : R2} {f : DR2} (ho : OpR X (binaryOp op) r) (hs : SimR2 K r f) (ha : DE X K ta a da) (hb : DE X K tb b db) : DE X K (fun W => tOp r (ta W) (tb W)) (.BinOp a op b pos) (dOp f da db) := by
  refine ⟨fun W t => pe_op ho (ha.pe W t) (hb.pe W t), fun W ew S σ ρ Q q I R h => ?_⟩
  refine ha.sim W ew S σ ρ _ _ I (fun S1 v x e1 k1 r1 h1 => ?_) h
  refine hb.sim W ew S1 σ ρ _ _ (I.ev e1 k1) (fun S2 u y e2 k2 r2 h2 => ?_) h1
  exact hs S2 v u x y Q q k2 (r1.ev e2) r2 (R.ev (e1.trans e2)) h2
theorem d_cmp {op : CmpOp} {r : R2} {f : DR2} (ho : OpR X (compareOp op) r) (hs : SimR2 K r f) (ha : DE X K ta a da) (hb : DE X K tb b db) (hm : behindInMarks op b = false) : DE X K (fun W => tOp r (ta W) (tb W)) (.Compare a [op] [b] pos) (dOp f da db) := by
  refine ⟨fun W t => pe_cmpR ho (ha.pe W t) (hb.pe W t) hm, fun W ew S σ ρ Q q I R h => ?_⟩
  refine ha.sim W ew S σ ρ _ _ I (fun S1 v x e1 k1 r1 h1 => ?_) h
  refine hb.sim W ew S1 σ ρ _ _ (I.ev e1 k1) (fun S2 u y e2 k2 r2 h2 => ?_) h1
  exact hs S2 v u x y Q q k2 (r1.ev e2) r2 (R.ev (e1.trans e2)) h2
theorem d_un {op : UnaryOp} {r : V → Hp → VK → Prop} {f : DR1} (ho : UnR X (unaryOp op) r) (hs : SimR1 K r f) (ha : DE X K ta a da) : DE X K (fun W => tUn r (ta W)) (.UnaryOp op a pos) (dUn f da) := by
  refine ⟨fun W t => pe_un ho (ha.pe W t), fun W ew S σ ρ Q q I R h => ?_⟩
  refine ha.sim W ew S σ ρ _ _ I (fun S1 v x e1 k1 r1 h1 => ?_) h
  exact hs S1 v x Q q k1 r1 (R.ev e1) h1
theorem d_ix {r : R2} {f : DR2} (ho : IxR X r) (hs : SimR2 K r f) (ha : DE X K ta a da) (hb : DE X K tb b db) (hm : PlainIx b) : DE X K (fun W => tOp r (ta W) (tb W)) (.Subscript a b pos) (dOp f da db) := by
  refine ⟨fun W t => pe_ix ho (ha.pe W t) (hb.pe W t) hm, fun W ew S σ ρ Q q I R h => ?_⟩
  refine ha.sim W ew S σ ρ _ _ I (fun S1 v x e1 k1 r1 h1 => ?_) h
  refine hb.sim W ew S1 σ ρ _ _ (I.ev e1 k1) (fun S2 u y e2 k2 r2 h2 => ?_) h1
  exact hs S2 v u x y Q q k2 (r1.ev e2) r2 (R.ev (e1.trans e2)) h2
theorem d_not (ha : DE X K ta a da) : DE X K (fun W => tNotV (ta W)) (.UnaryOp .Not a pos) (dNot da) := by
  refine ⟨fun W t => pe_not (ha.pe W t), fun W ew S σ ρ Q q I R h => ?_⟩
  refine ha.sim W ew S σ ρ _ _ I (fun S1 v x e1 k1 r1 h1 => ?_) h
  obtain ⟨c, rfl, h1⟩ := h1
  cases r1
  exact ⟨c, rfl, R S1 _ _ e1 k1 (.bl _) h1⟩
theorem d_and {rest : List Expr} (ha : DE X K ta a da) (hb : DE X K tb (.BoolOp .And (b :: rest) pos) db) : DE X K (fun W => tAndV (ta W) (tb W)) (.BoolOp .And (a :: b :: rest) pos) (dAnd da db) := by
  refine ⟨fun W t => pe_and (ha.pe W t) (hb.pe W t), fun W ew S σ ρ Q q I R h => ?_⟩
  refine ha.sim W ew S σ ρ _ _ I (fun S1 v x e1 k1 r1 h1 => ?_) h
  obtain ⟨c, rfl, h1⟩ := h1
  cases r1
  refine ⟨c, rfl, ?_⟩
  cases c with
  | true => exact hb.sim W ew S1 σ ρ Q q (I.ev e1 k1) (R.ev e1) h1
  | false => exact R S1 _ _ e1 k1 (.bl _) h1
theorem d_or {rest : List Expr} (ha : DE X K ta a da) (hb : DE X K tb (.BoolOp .Or (b :: rest) pos) db) : DE X K (fun W => tOrV (ta W) (tb W)) (.BoolOp .Or (a :: b :: rest) pos) (dOr da db) := by
  refine ⟨fun W t => pe_or (ha.pe W t) (hb.pe W t), fun W ew S σ ρ Q q I R h => ?_⟩
  refine ha.sim W ew S σ ρ _ _ I (fun S1 v x e1 k1 r1 h1 => ?_) h
  obtain ⟨c, rfl, h1⟩ := h1
  cases r1
  refine ⟨c, rfl, ?_⟩
  cases c with
  | true => exact R S1 _ _ e1 k1 (.bl _) h1
  | false => exact hb.sim W ew S1 σ ρ Q q (I.ev e1 k1) (R.ev e1) h1
theorem d_one {op : BoolOp} (ha : DE X K ta a da) : DE X K ta (.BoolOp op [a] pos) da := ⟨fun W t => pe_one (ha.pe W t), ha.sim⟩
theorem d_test (ha : DE X K ta a da) (he : ∀ whole, isTrue a X.env whole = (do let v ← whole; standAt a.pos; holding [v] (truthy v)) := by intro _; rfl) : DT X K (fun W => L2.tB (ta W)) a (dTest da) := by
  refine ⟨fun W t => pt_val (ha.pe W t) he, fun W ew S σ ρ Q q I R h => ?_⟩
  refine ha.sim W ew S σ ρ _ _ I (fun S1 v x e1 k1 r1 h1 => ?_) h
  obtain ⟨c, rfl, h1⟩ := h1
  cases r1
  exact ⟨c, rfl, R S1 c e1 k1 h1⟩
theorem d_tcmp {op : CmpOp} {r : R2} {f : DR2} (ho : OpR X (compareOp op) r) (hs : SimR2 K r f) (ha : DE X K ta a da) (hb : DE X K tb b db) (hm : behindInMarks op b = false) : DT X K (fun W => tTest (tOp r (ta W) (tb W))) (.Compare a [op] [b] pos) (dTest (dOp f da db)) := by
  refine ⟨fun W t => pt_cmpR ho (ha.pe W t) (hb.pe W t) hm, fun W ew S σ ρ Q q I R h => ?_⟩
  refine (d_cmp ho hs ha hb hm (pos := pos)).sim W ew S σ ρ _ _ I (fun S1 v x e1 k1 r1 h1 => ?_) h
  obtain ⟨c, rfl, h1⟩ := h1
  cases r1
  exact ⟨c, rfl, R S1 c e1 k1 h1⟩
theorem d_tnot {tt : WX → TT} {dt : DTT} (ha : DT X K tt a dt) : DT X K (fun W => tNot (tt W)) (.UnaryOp .Not a pos) (dtNot dt) := by
  refine ⟨fun W t => pt_not (ha.pt W t), fun W ew S σ ρ Q q I R h => ?_⟩
  exact ha.sim W ew S σ ρ _ _ I (fun S1 c e1 k1 h1 => R S1 (!c) e1 k1 h1) h
/-- a test whatever its whole is -/
structure DW (X : Cx) (K : PySem.W.Frag) (tt : WX → TT) (e : Expr) (dt : DTT) : Prop where
  pw : ∀ W, Takes X W → PW X e (tt W)
  sim : SimT K tt dt
theorem DW.dt {tt : WX → TT} {dt : DTT} (h : DW X K tt e dt) : DT X K tt e dt := ⟨fun W t => (h.pw W t).pt, h.sim⟩
theorem dw_and1 {tt : WX → TT} {dt : DTT} (ha : DT X K tt a dt) : DW X K tt (.BoolOp .And [a] pos) dt := ⟨fun W t => pw_and1 (ha.pt W t), ha.sim⟩
theorem dw_or1 {tt : WX → TT} {dt : DTT} (ha : DT X K tt a dt) : DW X K tt (.BoolOp .Or [a] pos) dt := ⟨fun W t => pw_or1 (ha.pt W t), ha.sim⟩
theorem dw_and {tt tu : WX → TT} {dt du : DTT} {rest : List Expr} (ha : DT X K tt a dt) (hb : DW X K tu (.BoolOp .And (b :: rest) pos) du) : DW X K (fun W => tAnd (tt W) (tu W)) (.BoolOp .And (a :: b :: rest) pos) (dtAnd dt du) := by
  refine ⟨fun W t => pw_and (ha.pt W t) (hb.pw W t), fun W ew S σ ρ Q q I R h => ?_⟩
  refine ha.sim W ew S σ ρ _ _ I (fun S1 c e1 k1 h1 => ?_) h
  cases c with
  | true => exact hb.sim W ew S1 σ ρ Q q (I.ev e1 k1) (fun T b f => R T b (e1.trans f)) h1
  | false => exact R S1 false e1 k1 h1
theorem dw_or {tt tu : WX → TT} {dt du : DTT} {rest : List Expr} (ha : DT X K tt a dt) (hb : DW X K tu (.BoolOp .Or (b :: rest) pos) du) : DW X K (fun W => tOr (tt W) (tu W)) (.BoolOp .Or (a :: b :: rest) pos) (dtOr dt du) := by
  refine ⟨fun W t => pw_or (ha.pt W t) (hb.pw W t), fun W ew S σ ρ Q q I R h => ?_⟩
  refine ha.sim W ew S σ ρ _ _ I (fun S1 c e1 k1 h1 => ?_) h
  cases c with
  | true => exact R S1 true e1 k1 h1
  | false => exact hb.sim W ew S1 σ ρ Q q (I.ev e1 k1) (fun T b f => R T b (e1.trans f)) h1
theorem d_ifE {tt : WX → TT} {dt : DTT} (hc : DT X K tt c dt) (ha : DE X K ta a da) (hb : DE X K tb b db) : DE X K (fun W => tIf (tt W) (ta W) (tb W)) (.IfExp c a b pos) (dIfE dt da db) := by
  refine ⟨fun W t => pe_ifExp (hc.pt W t) (ha.pe W t) (hb.pe W t), fun W ew S σ ρ Q q I R h => ?_⟩
  refine hc.sim W ew S σ ρ _ _ I (fun S1 k e1 k1 h1 => ?_) h
  cases k with
  | true => exact ha.sim W ew S1 σ ρ Q q (I.ev e1 k1) (R.ev e1) h1
  | false => exact hb.sim W ew S1 σ ρ Q q (I.ev e1 k1) (R.ev e1) h1
theorem d_chain {op op' : CmpOp} {r r' : R2} {f g : DR2} (ho : OpR X (compareOp op) r) (hs : SimR2 K r f) (ho' : OpR X (compareOp op') r') (hs' : SimR2 K r' g) (ha : DE X K ta a da) (hb : DE X K tb b db) (hc : DE X K tc c dc)
    (hm : lastMarks [op, op'] [b, c] = false := by with_unfolding_all rfl) : DE X K (fun W => tChain r r' (ta W) (tb W) (tc W)) (.Compare a [op, op'] [b, c] pos) (dChain f g da db dc) := by
  refine ⟨fun W t => pe_chain ho ho' (ha.pe W t) (hb.pe W t) (hc.pe W t) hm, fun W ew S σ ρ Q q I R h => ?_⟩
  refine ha.sim W ew S σ ρ _ _ I (fun S1 v x e1 k1 r1 h1 => ?_) h
  refine hb.sim W ew S1 σ ρ _ _ (I.ev e1 k1) (fun S2 u y e2 k2 r2 h2 => ?_) h1
  refine hs S2 v u x y _ _ k2 (r1.ev e2) r2 (fun S3 z z' e3 k3 r3 h3 => ?_) h2
  obtain ⟨k, rfl, h3⟩ := h3
  cases r3
  refine ⟨k, rfl, ?_⟩
  have e23 := (e1.trans e2).trans e3
  cases k with
  | false => exact R S3 _ _ e23 k3 (.bl _) h3
  | true =>
    refine hc.sim W ew S3 σ ρ _ _ (I.ev e23 k3) (fun S4 t t' e4 k4 r4 h4 => ?_) h3
    exact hs' S4 u t y t' Q q k4 ((r2.ev e3).ev e4) r4 (R.ev (e23.trans e4)) h4
/-! arguments -/
theorem da_nil : DA X K (fun _ => tNil) [] dNil := ⟨fun _ _ => pa_nil, fun W ew S σ ρ Q q I R h => R S [] [] (.refl S) I.ok .nil h⟩
theorem da_cons (ha : DE X K ta a da) (hr : DA X K tr es dr) (hst : starEach (a :: es) X.env = (false, eval a X.env) :: starEach es X.env := by rfl) : DA X K (fun W => tCons (ta W) (tr W)) (a :: es) (dCons da dr) := by
  refine ⟨fun W t => pa_cons (ha.pe W t) (hr.pa W t) hst, fun W ew S σ ρ Q q I R h => ?_⟩
  refine ha.sim W ew S σ ρ _ _ I (fun S1 v x e1 k1 r1 h1 => ?_) h
  refine hr.sim W ew S1 σ ρ _ _ (I.ev e1 k1) (fun S2 vs xs e2 k2 r2 h2 => ?_) h1
  exact R S2 _ _ (e1.trans e2) k2 (.cons (r1.ev e2) r2) h2
/-! tuples and lists -/
theorem d_tup {k : Nat} (h : DA X K tr es dr) : DE X K (fun W => tTup (tr W)) (.Tuple es k pos) (dTup dr) := by
  refine ⟨fun W t => pe_tup (h.pa W t), fun W ew S σ ρ Q q I R hh => ?_⟩
  refine h.sim W ew S σ ρ _ _ I (fun S1 vs xs e1 k1 r1 h1 => ?_) hh
  refine ⟨by rw [r1.length]; exact h1.1, fun p np => ?_⟩
  have e2 := ev_new (o := .tup vs) np k1
  exact R (S1.new p (.tup vs)) _ _ (e1.trans e2) (ok_new np k1) (.tup (k1.lam np) upd_same (r1.ev e2)) h1.2
theorem d_lst (h : DA X K tr es dr) : DE X K (fun W => tLst (tr W)) (.List es pos) (dLst dr) := by
  refine ⟨fun W t => pe_lst (h.pa W t), fun W ew S σ ρ Q q I R hh => ?_⟩
  refine h.sim W ew S σ ρ _ _ I (fun S1 vs xs e1 k1 r1 h1 => ?_) hh
  refine ⟨by rw [r1.length]; exact h1.1, fun p np => ?_⟩
  have e2 := ev_new (o := .lst vs) np k1
  exact R (S1.new p (.lst vs)) _ _ (e1.trans e2) (ok_new np k1) (.lst (k1.lam np) upd_same (r1.ev e2)) h1.2
theorem d_lstC (h : DA X K tr es dr) : DE X K (fun W => tLst (tr W)) (.List es pos) (dLstC dr) := by
  refine ⟨fun W t => pe_lst (h.pa W t), fun W ew S σ ρ Q q I R hh => ?_⟩
  refine h.sim W ew S σ ρ _ _ I (fun S1 vs xs e1 k1 r1 h1 => ?_) hh
  refine ⟨by rw [r1.length]; exact h1.1, fun p np => ?_⟩
  have e2 := ev_newc (o := .lst vs) (c := .lst xs) np k1
  exact R (S1.newc p (.lst vs) (.lst xs)) _ _ (e1.trans e2) (ok_newc np k1 ⟨vs, upd_same, r1.ev e2⟩) (.ref p) (h1.2 p (k1.lno np))
/-- a call of what is known by values -/
theorem d_cb {f : Value} {r : List V → Hp → VK → Prop} {g : DRL} {t : WX → TE} (hp : ∀ W, Takes X W → PE X e (tCB r (tr W))) (hs : SimRL K r g) (h : SimA K tr dr) : DE X K (fun W => tCB r (tr W)) e (dCB g dr) := by
  refine ⟨hp, fun W ew S σ ρ Q q I R hh => ?_⟩
  refine h W ew S σ ρ _ _ I (fun S1 vs xs e1 k1 r1 h1 => ?_) hh
  exact hs S1 vs xs Q q k1 r1 (R.ev e1) h1
end
end Ed

set_option Elab.async false
set_option linter.all false
set_option maxRecDepth 100000
set_option maxHeartbeats 2000000
/-! Operations by values, at the level of data. -/
namespace Ed
open PySem PySem.Spec PyProof.Rows L2 Dz
/-! ### views -/
def vLst (L : Lc) : D → Option (List D)
  | .lst ds => some ds
  | .ref a => match L a with
    | some (.lst ds) => some ds
    | _ => none
  | _ => none
def vSeq (L : Lc) : D → Option (List D)
  | .tup ds => some ds
  | .ctup ds => some ds
  | .scr ns => some (ns.map .int)
  | d => vLst L d
/-- scalars -/
def sc : D → Option V
  | .non => some .non
  | .bl b => some (.bl b)
  | .int i => some (.int i)
  | .str x => some (.str x)
  | _ => none
def scA : List D → Option (List V)
  | [] => some []
  | d :: ds => match sc d, scA ds with
    | some v, some vs => some (v :: vs)
    | _, _ => none
section
variable {K : PySem.W.Frag} {S : Sta} {v : V} {d : D} {ds : List D}
theorem vLst_ok (k : Ok K S) (r : Rp K S.H S.Λ v d) (h : vLst S.L d = some ds) : ∃ a xs, v = .ref a ∧ S.H a = some (.lst xs) ∧ RpL K S.H S.Λ xs ds := by
  cases r with
  | lst n h1 h2 => cases h; exact ⟨_, _, rfl, h1, h2⟩
  | ref a =>
    unfold vLst at h
    cases e : S.L a with
    | none => simp [e] at h
    | some c =>
      cases c with
      | lst ds' =>
        simp [e] at h
        subst h
        obtain ⟨_, xs, h1, h2⟩ := k.cell a _ e
        exact ⟨a, xs, rfl, h1, h2⟩
      | _ => simp [e] at h
  | _ => cases h
theorem vSeq_ok (k : Ok K S) (r : Rp K S.H S.Λ v d) (h : vSeq S.L d = some ds) : ∃ a xs, v = .ref a ∧ (SqL K S.H a xs ∨ SqT K S.H a xs) ∧ RpL K S.H S.Λ xs ds := by
  have lst : vLst S.L d = some ds → ∃ a xs, v = .ref a ∧ (SqL K S.H a xs ∨ SqT K S.H a xs) ∧ RpL K S.H S.Λ xs ds := fun h => by
    obtain ⟨a, xs, h1, h2, h3⟩ := vLst_ok k r h
    exact ⟨a, xs, h1, .inl (.of h2), h3⟩
  cases r with
  | tup _ h1 h2 => cases h; exact ⟨_, _, rfl, .inr (.of h1), h2⟩
  | ctup h1 h2 => cases h; exact ⟨_, _, rfl, .inr h1.sq, h2⟩
  | scr h1 _ => cases h; exact ⟨_, _, rfl, .inl h1.sq, RpL.ints _⟩
  | lst n h1 h2 => exact lst h
  | ref a => exact lst h
  | _ => cases h
theorem sc_ok {u : V} (r : Rp K S.H S.Λ v d) (h : sc d = some u) : v = u ∧ flatV u = true := by
  cases r <;> cases h <;> exact ⟨rfl, rfl⟩
theorem scA_ok : ∀ {vs : List V} {ds : List D} {us : List V}, RpL K S.H S.Λ vs ds → scA ds = some us → vs = us ∧ us.all flatV = true
  | _, _, _, .nil, h => by cases h; exact ⟨rfl, rfl⟩
  | _, _, us, .cons (d := d) (ds := ds) r rr, h => by
    unfold scA at h
    cases e1 : sc d with
    | none => simp [e1] at h
    | some u =>
      cases e2 : scA ds with
      | none => simp [e1, e2] at h
      | some us' =>
        simp [e1, e2] at h
        subst h
        obtain ⟨h1, f1⟩ := sc_ok r e1
        obtain ⟨h2, f2⟩ := scA_ok rr e2
        exact ⟨by rw [h1, h2], by rw [List.all_cons, f1, f2]; rfl⟩
theorem RpL.atI {vs : List V} {i : Int} (r : RpL K S.H S.Λ vs ds) (h : L2.atI ds i = some d) : ∃ v, L2.atI vs i = some v ∧ Rp K S.H S.Λ v d := by
  unfold L2.atI at h ⊢
  rw [r.length]
  cases e : ixN ds.length i with
  | none => rw [e] at h; cases h
  | some j =>
    rw [e] at h
    obtain ⟨v, h1, h2⟩ := r.get h
    exact ⟨v, h1, h2⟩
end
/-! ### arithmetic -/
def addD : DR2 := fun x y L q => (∃ i j, x = .int i ∧ y = .int j ∧ q (.int (i + j)) L) ∨ (∃ a b, x = .str a ∧ y = .str b ∧ a.length + b.length ≤ sizeLine ∧ q (.str (a ++ b)) L) ∨
  (∃ xs ys, vLst L x = some xs ∧ vLst L y = some ys ∧ xs.length + ys.length ≤ sizeLine ∧ q (.lst (xs ++ ys)) L) ∨ (∃ xs ys, x = .tup xs ∧ y = .tup ys ∧ xs.length + ys.length ≤ sizeLine ∧ q (.tup (xs ++ ys)) L)
def iopD (C : Int → Int → Prop) (g : Int → Int → Int) : DR2 := fun x y L q => ∃ i j, x = .int i ∧ y = .int j ∧ C i j ∧ q (.int (g i j)) L
def icmpD (g : Int → Int → Bool) : DR2 := fun x y L q => ∃ i j, x = .int i ∧ y = .int j ∧ q (.bl (g i j)) L
def negD : DR1 := fun x L q => ∃ i, x = .int i ∧ q (.int (-i)) L
def mulD : DR2 := fun x y L q => (∃ i j, x = .int i ∧ y = .int j ∧ CMulW i j ∧ q (.int (i * j)) L) ∨ (∃ xs k, vLst L x = some xs ∧ y = .int k ∧ -(2 ^ 63) ≤ k ∧ k < 2 ^ 63 ∧ xs.length * k.toNat ≤ sizeLine ∧ q (.lst (List.replicate k.toNat xs).flatten) L) ∨
  (∃ xs k, x = .tup xs ∧ y = .int k ∧ xs ≠ [] ∧ 2 ≤ k ∧ k ≤ 1000 ∧ xs.length ≤ 1000 ∧ q (.tup (List.replicate k.toNat xs).flatten) L)
section
variable {K : PySem.W.Frag} {X : Cx}
def rAddA (K : PySem.W.Frag) : R2 := fun x y H Q => (∃ i j, x = .int i ∧ y = .int j ∧ Q (.int (i + j)) H) ∨ (∃ i j, x = .str i ∧ y = .str j ∧ i.length + j.length ≤ sizeLine ∧ Q (.str (i ++ j)) H) ∨ rCat x y H Q ∨ rCatA K x y H Q
theorem op_addA (hK : X.K = K) : OpR X (binaryOp .Add) (rAddA K) := by subst hK; exact op_add.or (op_add_str.or (op_cat.or op_catA))
theorem sim_add : SimR2 K (rAddA K) addD := by
  rintro S x y a b Q q k rx ry R (⟨i, j, rfl, rfl, h⟩ | ⟨i, j, rfl, rfl, hz, h⟩ | ⟨xs, ys, h1, h2, hz, h⟩ | ⟨xs, ys, rfl, rfl, hz, h⟩)
  · cases rx; cases ry
    exact .inl ⟨i, j, rfl, rfl, R S _ _ (.refl S) k (.int _) h⟩
  · cases rx; cases ry
    exact .inr (.inl ⟨i, j, rfl, rfl, hz, R S _ _ (.refl S) k (.str _) h⟩)
  · obtain ⟨l, us, rfl, e1, r1⟩ := vLst_ok k rx h1
    obtain ⟨m, ws, rfl, e2, r2⟩ := vLst_ok k ry h2
    refine .inr (.inr (.inl ⟨l, m, us, ws, rfl, rfl, e1, e2, by rw [r1.length, r2.length]; exact hz, fun p np => ?_⟩))
    have e := ev_new (o := .lst (us ++ ws)) np k
    exact R _ _ _ e (ok_new np k) (.lst (k.lam np) upd_same ((r1.append r2).ev e)) h
  · cases rx with
    | @tup l us _ n1 t1 r1 =>
    cases ry with
    | @tup m ws _ n2 t2 r2 =>
    refine .inr (.inr (.inr ⟨l, m, us, ws, rfl, rfl, .of t1, .of t2, by rw [r1.length, r2.length]; exact hz, fun z => ?_, fun _ z => ?_, fun _ _ p np => ?_⟩))
    · subst z
      cases r1
      exact R S _ _ (.refl S) k (.tup n2 t2 r2) h
    · subst z
      cases r2
      rw [List.append_nil] at h
      exact R S _ _ (.refl S) k (.tup n1 t1 r1) h
    · have e := ev_new (o := .tup (us ++ ws)) np k
      exact R _ _ _ e (ok_new np k) (.tup (k.lam np) upd_same ((r1.append r2).ev e)) h
theorem sim_iop {C : Int → Int → Prop} {g : Int → Int → Int} : SimR2 K (rI C fun i j => .int (g i j)) (iopD C g) := by
  rintro S x y a b Q q k rx ry R ⟨i, j, rfl, rfl, hc, h⟩
  cases rx; cases ry
  exact ⟨i, j, rfl, rfl, hc, R S _ _ (.refl S) k (.int _) h⟩
theorem sim_iop0 {g : Int → Int → Int} : SimR2 K (rI0 fun i j => .int (g i j)) (iopD (fun _ _ => True) g) := by
  rintro S x y a b Q q k rx ry R ⟨i, j, rfl, rfl, hc, h⟩
  cases rx; cases ry
  exact ⟨i, j, rfl, rfl, R S _ _ (.refl S) k (.int _) h⟩
theorem sim_icmp {g : Int → Int → Bool} : SimR2 K (rI0 fun i j => .bl (g i j)) (icmpD g) := by
  rintro S x y a b Q q k rx ry R ⟨i, j, rfl, rfl, h⟩
  cases rx; cases ry
  exact ⟨i, j, rfl, rfl, R S _ _ (.refl S) k (.bl _) h⟩
theorem sim_neg : SimR1 K (rU fun i => .int (-i)) negD := by
  rintro S x a Q q k rx R ⟨i, rfl, h⟩
  cases rx
  exact ⟨i, rfl, R S _ _ (.refl S) k (.int _) h⟩
def rMulA (K : PySem.W.Frag) : R2 := fun x y H Q => rI CMulW (fun i j => .int (i * j)) x y H Q ∨ rRep x y H Q ∨ rRepT K x y H Q
theorem op_mulA (hK : X.K = K) : OpR X (binaryOp .Mult) (rMulA K) := by subst hK; exact op_mulW.or (op_rep.or op_repT)
theorem RpL.rep {S : Sta} {vs : List V} {ds : List D} (r : RpL K S.H S.Λ vs ds) : ∀ n : Nat, RpL K S.H S.Λ (List.replicate n vs).flatten (List.replicate n ds).flatten
  | 0 => .nil
  | n + 1 => by rw [List.replicate_succ, List.replicate_succ, List.flatten_cons, List.flatten_cons]; exact r.append (RpL.rep r n)
theorem sim_mul : SimR2 K (rMulA K) mulD := by
  rintro S x y a b Q q k rx ry R (⟨i, j, rfl, rfl, hc, h⟩ | ⟨xs, i, h1, rfl, c1, c2, c3, h⟩ | ⟨xs, i, rfl, rfl, c1, c2, c3, c4, h⟩)
  · cases rx; cases ry
    exact .inl ⟨i, j, rfl, rfl, hc, R S _ _ (.refl S) k (.int _) h⟩
  · obtain ⟨l, us, rfl, e1, r1⟩ := vLst_ok k rx h1
    cases ry
    refine .inr (.inl ⟨l, i, us, rfl, rfl, e1, c1, c2, by rw [r1.length]; exact c3, fun p np => ?_⟩)
    have e := ev_new (o := .lst (List.replicate i.toNat us).flatten) np k
    exact R _ _ _ e (ok_new np k) (.lst (k.lam np) upd_same ((r1.rep _).ev e)) h
  · cases ry
    cases rx with
    | @tup l us _ n1 t1 r1 =>
    refine .inr (.inr ⟨l, i, us, rfl, rfl, .of t1, fun z => ?_, c2, c3, by rw [r1.length]; exact c4, fun p np => ?_⟩)
    · subst z
      cases r1
      exact c1 rfl
    · have e := ev_new (o := .tup (List.replicate i.toNat us).flatten) np k
      exact R _ _ _ e (ok_new np k) (.tup (k.lam np) upd_same ((r1.rep _).ev e)) h
end
/-! ### == -/
mutual
/-- data without dicts, as the model compares and shows it -/
inductive PyR (L : Lc) : D → PyData → Prop
  | non : PyR L .non .none
  | bl (b : Bool) : PyR L (.bl b) (.bool b)
  | int (i : Int) : PyR L (.int i) (.int i)
  | str (x : Str) : PyR L (.str x) (.str x)
  | lst {ds : List D} {ps : List PyData} : PyRL L ds ps → PyR L (.lst ds) (.list ps)
  | tup {ds : List D} {ps : List PyData} : PyRL L ds ps → PyR L (.tup ds) (.tuple ps)
  | ctup {ds : List D} {ps : List PyData} : PyRL L ds ps → PyR L (.ctup ds) (.tuple ps)
  | ref {a : Addr} {ds : List D} {ps : List PyData} : L a = some (.lst ds) → PyRL L ds ps → PyR L (.ref a) (.list ps)
inductive PyRL (L : Lc) : List D → List PyData → Prop
  | nil : PyRL L [] []
  | cons {d : D} {ds : List D} {p : PyData} {ps : List PyData} : PyR L d p → PyRL L ds ps → PyRL L (d :: ds) (p :: ps)
end
mutual
theorem PyR.dp {K : PySem.W.Frag} {S : Sta} (k : Ok K S) : ∀ {d : D} {p : PyData} {v : V}, PyR S.L d p → Rp K S.H S.Λ v d → Dp K S.H v p
  | _, _, _, .non, r => by cases r; exact .non
  | _, _, _, .bl b, r => by cases r; exact .bl b
  | _, _, _, .int i, r => by cases r; exact .int i
  | _, _, _, .str x, r => by cases r; exact .str x
  | _, _, _, .lst hp, r => by
    cases r with
    | lst n h1 h2 => exact .lst (.of h1) (PyRL.dp k hp h2)
  | _, _, _, .tup hp, r => by
    cases r with
    | tup _ h1 h2 => exact .tup (.of h1) (PyRL.dp k hp h2)
  | _, _, _, .ctup hp, r => by
    cases r with
    | ctup h1 h2 => exact .tup h1.sq (PyRL.dp k hp h2)
  | _, _, _, .ref e hp, r => by
    cases r with
    | ref a =>
      obtain ⟨_, xs, h1, h2⟩ := k.cell _ _ e
      exact .lst (.of h1) (PyRL.dp k hp h2)
theorem PyRL.dp {K : PySem.W.Frag} {S : Sta} (k : Ok K S) : ∀ {ds : List D} {ps : List PyData} {vs : List V}, PyRL S.L ds ps → RpL K S.H S.Λ vs ds → DpAll K S.H vs ps
  | _, _, _, .nil, r => by cases r; exact .nil
  | _, _, _, .cons h t, r => by
    cases r with
    | cons r1 r2 => exact .cons (PyR.dp k h r1) (PyRL.dp k t r2)
end
def eqD : DR2 := fun x y L q => (∃ u w, sc x = some u ∧ sc y = some w ∧ scal u w = true ∧ q (.bl (decide (u = w))) L) ∨ ∃ d e, PyR L x d ∧ PyR L y e ∧ SeqAt.shaped d = true ∧ SeqAt.shaped e = true ∧ q (.bl (PyData.eqv d e)) L
def neD : DR2 := fun x y L q => (∃ u w, sc x = some u ∧ sc y = some w ∧ scal u w = true ∧ q (.bl (!decide (u = w))) L) ∨ ∃ d e, PyR L x d ∧ PyR L y e ∧ SeqAt.shaped d = true ∧ SeqAt.shaped e = true ∧ q (.bl (!PyData.eqv d e)) L
def rEqA (K : PySem.W.Frag) : R2 := fun x y H Q => rEq x y H Q ∨ rEqD K x y H Q
def rNeA (K : PySem.W.Frag) : R2 := fun x y H Q => rNe x y H Q ∨ rNeD K x y H Q
section
variable {K : PySem.W.Frag} {X : Cx}
theorem op_eqA (hK : X.K = K) (hu : X.A.units + 64 < cLine) : OpR X (compareOp .Eq) (rEqA K) := by subst hK; exact op_eq.or (op_eqD hu)
theorem op_neA (hK : X.K = K) (hu : X.A.units + 64 < cLine) : OpR X (compareOp .NotEq) (rNeA K) := by subst hK; exact op_ne.or (op_neD hu)
theorem sim_eq : SimR2 K (rEqA K) eqD := by
  rintro S x y a b Q q k rx ry R (⟨u, w, h1, h2, h3, h⟩ | ⟨d, e, h1, h2, h3, h4, h⟩)
  · obtain ⟨rfl, _⟩ := sc_ok rx h1
    obtain ⟨rfl, _⟩ := sc_ok ry h2
    exact .inl ⟨h3, R S _ _ (.refl S) k (.bl _) h⟩
  · exact .inr ⟨d, e, h1.dp k rx, h2.dp k ry, h3, h4, R S _ _ (.refl S) k (.bl _) h⟩
theorem sim_ne : SimR2 K (rNeA K) neD := by
  rintro S x y a b Q q k rx ry R (⟨u, w, h1, h2, h3, h⟩ | ⟨d, e, h1, h2, h3, h4, h⟩)
  · obtain ⟨rfl, _⟩ := sc_ok rx h1
    obtain ⟨rfl, _⟩ := sc_ok ry h2
    exact .inl ⟨h3, R S _ _ (.refl S) k (.bl _) h⟩
  · exact .inr ⟨d, e, h1.dp k rx, h2.dp k ry, h3, h4, R S _ _ (.refl S) k (.bl _) h⟩
end
/-! ### is -/
def isND : DR2 := fun x y L q => y = .non ∧ ((x = .non ∧ q (.bl true) L) ∨ (x ≠ .non ∧ q (.bl false) L))
def notND : DR2 := fun x y L q => y = .non ∧ ((x = .non ∧ q (.bl false) L) ∨ (x ≠ .non ∧ q (.bl true) L))
def isBD : DR2 := fun x y L q => ∃ a b, x = .bl a ∧ y = .bl b ∧ q (.bl (decide (a = b))) L
def notBD : DR2 := fun x y L q => ∃ a b, x = .bl a ∧ y = .bl b ∧ q (.bl (!decide (a = b))) L
section
variable {K : PySem.W.Frag} {X : Cx}
theorem non_of {S : Sta} {x : V} {a : D} (r : Rp K S.H S.Λ x a) (n : a ≠ .non) : x ≠ .non := by
  cases r <;> first | exact absurd rfl n | (intro z; cases z)
theorem sim_isN : SimR2 K (fun x y H Q => y = .non ∧ Q (.bl (decide (x = .non))) H) isND := by
  rintro S x y a b Q q k rx ry R ⟨rfl, h⟩
  cases ry
  rcases h with ⟨rfl, h⟩ | ⟨n, h⟩
  · cases rx
    exact ⟨rfl, R S _ _ (.refl S) k (.bl _) (by simpa using h)⟩
  · exact ⟨rfl, R S _ _ (.refl S) k (.bl _) (by rw [decide_eq_false (non_of rx n)]; exact h)⟩
theorem sim_notN : SimR2 K (fun x y H Q => y = .non ∧ Q (.bl (!decide (x = .non))) H) notND := by
  rintro S x y a b Q q k rx ry R ⟨rfl, h⟩
  cases ry
  rcases h with ⟨rfl, h⟩ | ⟨n, h⟩
  · cases rx
    exact ⟨rfl, R S _ _ (.refl S) k (.bl _) (by simpa using h)⟩
  · exact ⟨rfl, R S _ _ (.refl S) k (.bl _) (by rw [decide_eq_false (non_of rx n)]; exact h)⟩
theorem sim_isB : SimR2 K rIsB isBD := by
  rintro S x y a b Q q k rx ry R ⟨i, j, rfl, rfl, h⟩
  cases rx; cases ry
  exact ⟨i, j, rfl, rfl, R S _ _ (.refl S) k (.bl _) h⟩
theorem sim_notB : SimR2 K rNotB notBD := by
  rintro S x y a b Q q k rx ry R ⟨i, j, rfl, rfl, h⟩
  cases rx; cases ry
  exact ⟨i, j, rfl, rfl, R S _ _ (.refl S) k (.bl _) h⟩
end
end Ed

set_option Elab.async false
set_option linter.all false
set_option maxRecDepth 100000
set_option maxHeartbeats 2000000
/-! Dicts; in; what is indexed and cut; built-in calls. -/
namespace Ed
open PySem PySem.Spec PyProof.Rows L2 Dz
section
variable {κ : Type} [DecidableEq κ]
def valD (es : List (κ × D)) (k : κ) : Option D := (es.find? fun e => decide (e.1 = k)).map (·.2)
def putD (es : List (κ × D)) (k : κ) (d : D) : List (κ × D) :=
  if (es.any fun e => decide (e.1 = k)) = true then es.map (fun e => if e.1 = k then (e.1, d) else e) else es ++ [(k, d)]
def dropD (es : List (κ × D)) (k : κ) : List (κ × D) := es.filter fun e => decide (e.1 ≠ k)
/-- a table and what it shows -/
def TabR (K : PySem.W.Frag) (H : Hp) (Λ : Addr → Prop) (ks : List (κ × V)) (es : List (κ × D)) : Prop := ks.map (·.1) = es.map (·.1) ∧ RpL K H Λ (ks.map (·.2)) (es.map (·.2))
variable {K : PySem.W.Frag} {S S' : Sta} {v : V} {d : D}
theorem TabR.cons_inv {p : κ × V} {ks : List (κ × V)} {q : κ × D} {es : List (κ × D)} (h : TabR K S.H S.Λ (p :: ks) (q :: es)) : p.1 = q.1 ∧ Rp K S.H S.Λ p.2 q.2 ∧ TabR K S.H S.Λ ks es := by
  obtain ⟨h1, h2⟩ := h
  rw [List.map_cons, List.map_cons] at h1 h2
  cases h2 with
  | cons a b => exact ⟨(List.cons.inj h1).1, a, (List.cons.inj h1).2, b⟩
theorem TabR.cons {p : κ × V} {ks : List (κ × V)} {q : κ × D} {es : List (κ × D)} (h1 : p.1 = q.1) (h2 : Rp K S.H S.Λ p.2 q.2) (h : TabR K S.H S.Λ ks es) : TabR K S.H S.Λ (p :: ks) (q :: es) := by
  refine ⟨?_, ?_⟩
  · rw [List.map_cons, List.map_cons, h1, h.1]
  · rw [List.map_cons, List.map_cons]; exact .cons h2 h.2
theorem TabR.nil : TabR K S.H S.Λ ([] : List (κ × V)) [] := ⟨rfl, .nil⟩
theorem TabR.ev {ks : List (κ × V)} {es : List (κ × D)} (h : TabR K S.H S.Λ ks es) (e : Ev S S') : TabR K S'.H S'.Λ ks es := ⟨h.1, h.2.ev e⟩
theorem TabR.len {ks : List (κ × V)} {es : List (κ × D)} (h : TabR K S.H S.Λ ks es) : ks.length = es.length := by
  have := congrArg List.length h.1
  rw [List.length_map, List.length_map] at this
  exact this
theorem TabR.get (k : κ) : ∀ {ks : List (κ × V)} {es : List (κ × D)}, TabR K S.H S.Λ ks es → (valD es k = none ∧ valV ks k = none) ∨ ∃ d v, valD es k = some d ∧ valV ks k = some v ∧ Rp K S.H S.Λ v d
  | [], [], _ => .inl ⟨rfl, rfl⟩
  | [], _ :: _, h => by have := h.len; simp at this
  | _ :: _, [], h => by have := h.len; simp at this
  | p :: ks, q :: es, h => by
    obtain ⟨h1, h2, h3⟩ := h.cons_inv
    by_cases e : q.1 = k
    · refine .inr ⟨q.2, p.2, ?_, valV_pos (h1.trans e), h2⟩
      simp [valD, List.find?_cons, e]
    · have e' : ¬ p.1 = k := fun z => e (h1.symm.trans z)
      have z : valD (q :: es) k = valD es k := by simp [valD, List.find?_cons, e]
      rw [z, valV_neg e']
      exact TabR.get k h3
theorem TabR.app {p : κ × V} {q : κ × D} (h1 : p.1 = q.1) (h2 : Rp K S.H S.Λ p.2 q.2) : ∀ {ks : List (κ × V)} {es : List (κ × D)}, TabR K S.H S.Λ ks es → TabR K S.H S.Λ (ks ++ [p]) (es ++ [q])
  | [], [], _ => .cons h1 h2 .nil
  | [], _ :: _, h => by have := h.len; simp at this
  | _ :: _, [], h => by have := h.len; simp at this
  | _ :: ks, _ :: es, h => by
    obtain ⟨a, b, c⟩ := h.cons_inv
    exact .cons a b (TabR.app h1 h2 c)
theorem TabR.any (k : κ) : ∀ {ks : List (κ × V)} {es : List (κ × D)}, TabR K S.H S.Λ ks es → (ks.any fun e => decide (e.1 = k)) = es.any fun e => decide (e.1 = k)
  | [], [], _ => rfl
  | [], _ :: _, h => by have := h.len; simp at this
  | _ :: _, [], h => by have := h.len; simp at this
  | p :: ks, q :: es, h => by
    obtain ⟨a, b, c⟩ := h.cons_inv
    rw [List.any_cons, List.any_cons, a, TabR.any k c]
theorem TabR.map (k : κ) (r : Rp K S.H S.Λ v d) : ∀ {ks : List (κ × V)} {es : List (κ × D)}, TabR K S.H S.Λ ks es → TabR K S.H S.Λ (ks.map fun e => if e.1 = k then (e.1, v) else e) (es.map fun e => if e.1 = k then (e.1, d) else e)
  | [], [], _ => .nil
  | [], _ :: _, h => by have := h.len; simp at this
  | _ :: _, [], h => by have := h.len; simp at this
  | p :: ks, q :: es, h => by
    obtain ⟨a, b, c⟩ := h.cons_inv
    rw [List.map_cons, List.map_cons]
    by_cases e : q.1 = k
    · rw [if_pos e, if_pos (a.trans e)]
      exact .cons a r (TabR.map k r c)
    · rw [if_neg e, if_neg (fun z => e (a.symm.trans z))]
      exact .cons a b (TabR.map k r c)
theorem TabR.put (k : κ) (r : Rp K S.H S.Λ v d) {ks : List (κ × V)} {es : List (κ × D)} (h : TabR K S.H S.Λ ks es) : TabR K S.H S.Λ (putK ks k v) (putD es k d) := by
  unfold putK putD
  rw [h.any k]
  split
  · exact h.map k r
  · exact h.app rfl r
theorem TabR.drop (k : κ) : ∀ {ks : List (κ × V)} {es : List (κ × D)}, TabR K S.H S.Λ ks es → TabR K S.H S.Λ (dropK ks k) (dropD es k)
  | [], [], _ => .nil
  | [], _ :: _, h => by have := h.len; simp at this
  | _ :: _, [], h => by have := h.len; simp at this
  | p :: ks, q :: es, h => by
    obtain ⟨a, b, c⟩ := h.cons_inv
    have ih := TabR.drop k c
    unfold dropK dropD at ih ⊢
    by_cases e : q.1 = k
    · rw [List.filter_cons_of_neg (by simpa using a.trans e), List.filter_cons_of_neg (by simpa using e)]
      exact ih
    · rw [List.filter_cons_of_pos (by simpa using fun z => e (a.symm.trans z)), List.filter_cons_of_pos (by simpa using e)]
      exact .cons a b ih
end
/-! ### keys -/
def kD : D → Option Key
  | .int i => some (.inl i)
  | .str x => some (.inr x)
  | _ => none
def kDs : List D → Option (List Key)
  | [] => some []
  | d :: ds => match kD d, kDs ds with
    | some k, some ks => some (k :: ks)
    | _, _ => none
def vDK (L : Lc) : D → Option (List (Key × D))
  | .dK es => some es
  | .ref a => match L a with
    | some (.dK es) => some es
    | _ => none
  | _ => none
def vDT (L : Lc) : D → Option (List (List Key × D))
  | .dT es => some es
  | .ref a => match L a with
    | some (.dT es) => some es
    | _ => none
  | _ => none
/-- what a dict has at a key -/
inductive DGetD (L : Lc) (x y : D) : Option D → Prop
  | k {es : List (Key × D)} {k : Key} : vDK L x = some es → kD y = some k → DGetD L x y (valD es k)
  | t {es : List (List Key × D)} {ds : List D} {k : List Key} : vDT L x = some es → y = .tup ds → kDs ds = some k → DGetD L x y (valD es k)
section
variable {K : PySem.W.Frag} {S : Sta} {v u : V} {x y : D}
theorem kD_ok {k : Key} (r : Rp K S.H S.Λ v y) (h : kD y = some k) : v = kV k := by
  cases r <;> cases h <;> rfl
theorem kDs_ok : ∀ {vs : List V} {ds : List D} {k : List Key}, RpL K S.H S.Λ vs ds → kDs ds = some k → vs = k.map kV
  | _, _, _, .nil, h => by cases h; rfl
  | _, _, k, .cons (d := d) (ds := ds) r rr, h => by
    unfold kDs at h
    cases e1 : kD d with
    | none => simp [e1] at h
    | some a =>
      cases e2 : kDs ds with
      | none => simp [e1, e2] at h
      | some b =>
        simp [e1, e2] at h
        subst h
        rw [List.map_cons, kD_ok r e1, kDs_ok rr e2]
theorem vDK_ok {es : List (Key × D)} (k : Ok K S) (r : Rp K S.H S.Λ v x) (h : vDK S.L x = some es) : ∃ a ks, v = .ref a ∧ Rd S.H a (.dK ks) ∧ TabR K S.H S.Λ ks es := by
  cases r with
  | dK n h1 h2 h3 => cases h; exact ⟨_, _, rfl, h1, h2, h3⟩
  | ref a =>
    unfold vDK at h
    cases e : S.L a with
    | none => simp [e] at h
    | some c =>
      cases c with
      | dK es' =>
        simp [e] at h
        subst h
        obtain ⟨_, ks, h1, h2, h3⟩ := k.cell a _ e
        exact ⟨a, ks, rfl, .inl h1, h2, h3⟩
      | _ => simp [e] at h
  | _ => cases h
theorem vDT_ok {es : List (List Key × D)} (k : Ok K S) (r : Rp K S.H S.Λ v x) (h : vDT S.L x = some es) : ∃ a ks, v = .ref a ∧ Rd S.H a (.dT ks) ∧ TabR K S.H S.Λ ks es := by
  cases r with
  | dT n h1 h2 h3 => cases h; exact ⟨_, _, rfl, h1, h2, h3⟩
  | ref a =>
    unfold vDT at h
    cases e : S.L a with
    | none => simp [e] at h
    | some c =>
      cases c with
      | dT es' =>
        simp [e] at h
        subst h
        obtain ⟨_, ks, h1, h2, h3⟩ := k.cell a _ e
        exact ⟨a, ks, rfl, .inl h1, h2, h3⟩
      | _ => simp [e] at h
  | _ => cases h
/-- tuples that may be keys are tracked ones -/
theorem DGetD.ok {o : Option D} (k : Ok K S) (r : Rp K S.H S.Λ v x) (ry : Rp K S.H S.Λ u y) (h : DGetD S.L x y o) :
    ∃ a w, v = .ref a ∧ DGet S.H a u w ∧ ((o = none ∧ w = none) ∨ ∃ d z, o = some d ∧ w = some z ∧ Rp K S.H S.Λ z d) := by
  cases h with
  | @k es kk h1 h2 =>
    obtain ⟨a, ks, rfl, h3, h4⟩ := vDK_ok k r h1
    refine ⟨a, valV ks kk, rfl, .inl ⟨ks, kk, h3, kD_ok ry h2, rfl⟩, ?_⟩
    rcases h4.get kk with ⟨e1, e2⟩ | ⟨d, z, e1, e2, e3⟩
    · exact .inl ⟨e1, e2⟩
    · exact .inr ⟨d, z, e1, e2, e3⟩
  | @t es ds kk h1 h2 h2' =>
    subst h2
    obtain ⟨a, ks, rfl, h3, h4⟩ := vDT_ok k r h1
    cases ry with
    | @tup b us _ n1 t1 r1 =>
      have eu := kDs_ok r1 h2'
      refine ⟨a, valV ks kk, rfl, .inr ⟨ks, kk, b, h3, rfl, by rw [← eu]; exact t1, rfl⟩, ?_⟩
      rcases h4.get kk with ⟨e1, e2⟩ | ⟨d, z, e1, e2, e3⟩
      · exact .inl ⟨e1, e2⟩
      · exact .inr ⟨d, z, e1, e2, e3⟩
end
end Ed

set_option Elab.async false
set_option linter.all false
set_option maxRecDepth 100000
set_option maxHeartbeats 2000000
/-! in; indices; slices; built-in calls; methods of built-in types; fields. -/
namespace Ed
open PySem PySem.Spec PyProof.Rows L2 Dz
/-- lists that are read -/
def vRd (L : Lc) : D → Option (List D)
  | .scr ns => some (ns.map .int)
  | d => vLst L d
theorem vRd_ok {K : PySem.W.Frag} {S : Sta} {v : V} {d : D} {ds : List D} (k : Ok K S) (r : Rp K S.H S.Λ v d) (h : vRd S.L d = some ds) : ∃ a xs, v = .ref a ∧ SqL K S.H a xs ∧ RpL K S.H S.Λ xs ds := by
  have lst : vLst S.L d = some ds → ∃ a xs, v = .ref a ∧ SqL K S.H a xs ∧ RpL K S.H S.Λ xs ds := fun h => by
    obtain ⟨a, xs, h1, h2, h3⟩ := vLst_ok k r h
    exact ⟨a, xs, h1, .of h2, h3⟩
  cases r with
  | scr h1 _ => cases h; exact ⟨_, _, rfl, h1.sq, RpL.ints _⟩
  | lst n h1 h2 => exact lst h
  | ref a => exact lst h
  | _ => cases h
/-! ### in -/
def inD (neg : Bool) : DR2 := fun x y L q => (∃ ds u us, vSeq L y = some ds ∧ sc x = some u ∧ scA ds = some us ∧ q (.bl (if neg then !inV u us else inV u us)) L) ∨
  (∃ (c : Nat) (z : Str), x = .str ⟨#[c]⟩ ∧ y = .str z ∧ q (.bl (if neg then !decide (c ∈ z.cps.toList) else decide (c ∈ z.cps.toList))) L) ∨ (∃ o, DGetD L y x o ∧ q (.bl (if neg then !o.isSome else o.isSome)) L) ∨
  ∃ d ds, PyR L x d ∧ PyR L y (.list ds) ∧ SeqAt.shaped d = true ∧ SeqAt.shaped (.list ds) = true ∧ q (.bl (if neg then !(ds.any fun e => PyData.eqv e d) else ds.any fun e => PyData.eqv e d)) L
def rInA (K : PySem.W.Frag) (neg : Bool) : R2 := fun x y H Q => rIn K neg x y H Q ∨ (∃ (c : Nat) (z : Str), x = .str ⟨#[c]⟩ ∧ y = .str z ∧ Q (.bl (if neg then !decide (c ∈ z.cps.toList) else decide (c ∈ z.cps.toList))) H) ∨
  (∃ a o, y = .ref a ∧ DGet H a x o ∧ Q (.bl (if neg then !o.isSome else o.isSome)) H) ∨ (if neg then rNotInD K x y H Q else rInD K x y H Q)
section
variable {K : PySem.W.Frag} {X : Cx}
theorem op_inA (hK : X.K = K) (hu : X.A.units + 65 < cLine) : OpR X (compareOp .In) (rInA K false) := by
  subst hK
  refine op_in_seq.or (OpR.or op_in_sign (OpR.or ?_ (op_inD hu)))
  intro pins s σ H x y v u Q I rx ry ⟨a, o, e, g, q⟩
  subst e
  cases ry
  exact d_in (by omega) I g rx fun s' I' => ⟨.bl o.isSome, H, I', rfl, q⟩
theorem op_ninA (hK : X.K = K) (hu : X.A.units + 65 < cLine) : OpR X (compareOp .NotIn) (rInA K true) := by
  subst hK
  refine op_notIn_seq.or (OpR.or op_notIn_sign (OpR.or ?_ (op_notInD hu)))
  intro pins s σ H x y v u Q I rx ry ⟨a, o, e, g, q⟩
  subst e
  cases ry
  exact d_notIn (by omega) I g rx fun s' I' => ⟨.bl (!o.isSome), H, I', rfl, q⟩
theorem sim_in {neg : Bool} : SimR2 K (rInA K neg) (inD neg) := by
  rintro S x y a b Q q k rx ry R (⟨ds, u, us, h1, h2, h3, h⟩ | ⟨c, z, rfl, rfl, h⟩ | ⟨o, g, h⟩ | ⟨d, ds, h1, h2, h3, h4, h⟩)
  · obtain ⟨p, xs, rfl, h4, h5⟩ := vSeq_ok k ry h1
    obtain ⟨rfl, f1⟩ := sc_ok rx h2
    obtain ⟨rfl, f2⟩ := scA_ok h5 h3
    exact .inl ⟨p, _, rfl, h4, f1, f2, R S _ _ (.refl S) k (.bl _) h⟩
  · cases rx; cases ry
    exact .inr (.inl ⟨c, z, rfl, rfl, R S _ _ (.refl S) k (.bl _) h⟩)
  · obtain ⟨p, w, rfl, g', hw⟩ := g.ok k ry rx
    refine .inr (.inr (.inl ⟨p, w, rfl, g', ?_⟩))
    have e : w.isSome = o.isSome := by
      rcases hw with ⟨rfl, rfl⟩ | ⟨d, z, rfl, rfl, _⟩ <;> rfl
    rw [e]
    exact R S _ _ (.refl S) k (.bl _) h
  · refine .inr (.inr (.inr ?_))
    cases neg with
    | true => exact ⟨d, ds, h1.dp k rx, h2.dp k ry, h3, h4, R S _ _ (.refl S) k (.bl _) h⟩
    | false => exact ⟨d, ds, h1.dp k rx, h2.dp k ry, h3, h4, R S _ _ (.refl S) k (.bl _) h⟩
end
/-! ### indices, slices -/
def ixD : DR2 := fun x i L q => (∃ ds k d, vSeq L x = some ds ∧ i = .int k ∧ atI ds k = some d ∧ q d L) ∨ (∃ z k c, x = .str z ∧ i = .int k ∧ z.length ≤ sizeLine ∧ atI z.cps.toList k = some c ∧ q (.str ⟨#[c]⟩) L) ∨ ∃ d, DGetD L x i (some d) ∧ q d L
def rIxA (K : PySem.W.Frag) : R2 := fun x y H Q => rIx K x y H Q ∨ ∃ a v, x = .ref a ∧ DGet H a y (some v) ∧ Q v H
def cutD (ds : List D) (lo hi : Option Int) : List D := (ds.drop (HT.sIx ds.length 0 lo)).take (HT.sIx ds.length ds.length hi - HT.sIx ds.length 0 lo)
def slD : D → Option Int → Option Int → Lc → DQ → Prop := fun x lo hi L q => (∃ ds, vRd L x = some ds ∧ q (.lst (cutD ds lo hi)) L) ∨ (∃ ds, x = .tup ds ∧ q (.tup (cutD ds lo hi)) L) ∨ ∃ z, x = .str z ∧ z.length ≤ sizeLine ∧ q (.str (cutS z lo hi)) L
def rSlAll (K : PySem.W.Frag) : V → Option Int → Option Int → Hp → VK → Prop := fun x lo hi H Q => rSlL K x lo hi H Q ∨ rSlA K x lo hi H Q ∨ rSlS x lo hi H Q
section
variable {K : PySem.W.Frag} {X : Cx}
theorem ix_all (hK : X.K = K) (hu : X.A.units + 1 < cLine) : IxR X (rIxA K) := by
  subst hK
  refine IxR.or ix_seq ?_
  intro value slice pins s σ H x y v u Q I rx ry ⟨a, w, e, g, q⟩ hs
  subst e
  cases rx
  exact tail_any (dict_typeIs I g) PySem.F.slot_dict_getitem.lookup (d_getItem hu I g ry fun w' s' I' r => ⟨w, H, I', r, q⟩) hs
theorem sim_ix : SimR2 K (rIxA K) ixD := by
  rintro S x y a b Q q k rx ry R (⟨ds, i, d, h1, rfl, h2, h⟩ | ⟨z, i, c, rfl, rfl, hz, h2, h⟩ | ⟨d, g, h⟩)
  · obtain ⟨p, xs, rfl, h4, h5⟩ := vSeq_ok k rx h1
    cases ry
    obtain ⟨v, h6, h7⟩ := h5.atI h2
    rcases h4 with h4 | h4
    · exact .inl (.inl ⟨p, xs, i, v, rfl, rfl, h4, h6, R S _ _ (.refl S) k h7 h⟩)
    · exact .inl (.inr (.inl ⟨p, xs, i, v, rfl, rfl, h4, h6, R S _ _ (.refl S) k h7 h⟩))
  · cases rx; cases ry
    exact .inl (.inr (.inr ⟨z, i, c, rfl, rfl, hz, h2, R S _ _ (.refl S) k (.str _) h⟩))
  · obtain ⟨p, w, rfl, g', hw⟩ := g.ok k rx ry
    rcases hw with ⟨e, _⟩ | ⟨d', z, e, rfl, r⟩
    · cases e
    · cases e
      exact .inr ⟨p, z, rfl, g', R S _ _ (.refl S) k r h⟩
theorem sl_all (hK : X.K = K) : SlR X (rSlAll K) := by subst hK; exact sl_list.or (sl_tupA.or sl_str)
theorem RpL.cut {S : Sta} {vs : List V} {ds : List D} {lo hi : Option Int} (r : RpL K S.H S.Λ vs ds) : RpL K S.H S.Λ (cutV vs lo hi) (cutD ds lo hi) := by
  unfold cutV cutD
  rw [r.length]
  exact (r.drop _).take _
def SimSl (K : PySem.W.Frag) (r : V → Option Int → Option Int → Hp → VK → Prop) (f : D → Option Int → Option Int → Lc → DQ → Prop) : Prop := ∀ (S : Sta) (x : V) (a : D) (lo hi : Option Int) (Q : VK) (q : DQ), Ok K S → Rp K S.H S.Λ x a → RelQ K S Q q → f a lo hi S.L q → r x lo hi S.H Q
theorem sim_sl : SimSl K (rSlAll K) slD := by
  rintro S x a lo hi Q q k rx R (⟨ds, h1, h⟩ | ⟨ds, rfl, h⟩ | ⟨z, rfl, hz, h⟩)
  · obtain ⟨p, xs, rfl, h4, h5⟩ := vRd_ok k rx h1
    refine .inl ⟨p, xs, rfl, h4, fun p np => ?_⟩
    have e := ev_new (o := .lst (cutV xs lo hi)) np k
    exact R _ _ _ e (ok_new np k) (.lst (k.lam np) upd_same (h5.cut.ev e)) h
  · cases rx with
    | @tup p xs _ n t r =>
    refine .inr (.inl ⟨p, xs, rfl, .of t, fun w => ?_, fun w p np => ?_⟩)
    · have e1 : cutD ds lo hi = ds := by
        unfold cutD
        rw [← r.length, w.1, w.2, r.length]
        simp
      rw [e1] at h
      exact R S _ _ (.refl S) k (.tup n t r) h
    · have e := ev_new (o := .tup (cutV xs lo hi)) np k
      exact R _ _ _ e (ok_new np k) (.tup (k.lam np) upd_same (r.cut.ev e)) h
  · cases rx
    exact .inr (.inr ⟨z, rfl, hz, R S _ _ (.refl S) k (.str _) h⟩)
/-- a slice's part -/
abbrev DTO := EW → Dv → Lc → (Option Int → Lc → Prop) → Prop
structure DO (X : Cx) (K : PySem.W.Frag) (to : WX → TO) (e : Option Expr) (d : DTO) : Prop where
  po : ∀ W, Takes X W → PO X e (to W)
  sim : ∀ (W : WX) (ew : EW) (S : Sta) (σ : L2.St) (ρ : Dv) (Q : Option Int → Hp → Prop) (q : Option Int → Lc → Prop), In K W ew S σ ρ → (∀ S' o, Ev S S' → Ok K S' → q o S'.L → Q o S'.H) → d ew ρ S.L q → to W σ S.H Q
def dNoPart : DTO := fun _ _ L q => q none L
def dPart (a : DTE) : DTO := fun w ρ L q => a w ρ L fun x L1 => ∃ i, x = .int i ∧ q (some i) L1
def dSl (f : D → Option Int → Option Int → Lc → DQ → Prop) (a : DTE) (l u : DTO) : DTE := fun w ρ L q => a w ρ L fun x L1 => l w ρ L1 fun lo L2 => u w ρ L2 fun hi L3 => f x lo hi L3 q
variable {e a b c : Expr} {es : List Expr} {te ta tb tc : WX → TE} {tr : WX → TA} {de da db dc : DTE} {dr : DTA} {pos p : Pos}
theorem do_none : DO X K (fun _ => tNoPart) none dNoPart := ⟨fun _ _ => po_none, fun W ew S σ ρ Q q I R h => R S none (.refl S) I.ok h⟩
theorem do_some (ha : DE X K ta a da) : DO X K (fun W => tPart (ta W)) (some a) (dPart da) := by
  refine ⟨fun W t => po_some (ha.pe W t), fun W ew S σ ρ Q q I R h => ?_⟩
  refine ha.sim W ew S σ ρ _ _ I (fun S1 v x e1 k1 r1 h1 => ?_) h
  obtain ⟨i, rfl, h1⟩ := h1
  cases r1
  exact ⟨i, rfl, R S1 _ e1 k1 h1⟩
theorem d_slice {lo hi : Option Expr} {tl th : WX → TO} {dl dh : DTO} {p2 : Pos} (hK : X.K = K) (ha : DE X K ta a da) (hl : DO X K tl lo dl) (hh : DO X K th hi dh) : DE X K (fun W => tSl (rSlAll K) (ta W) (tl W) (th W)) (.Subscript a (.Slice lo hi none p2) pos) (dSl slD da dl dh) := by
  refine ⟨fun W t => pe_slice (sl_all hK) (ha.pe W t) (hl.po W t) (hh.po W t), fun W ew S σ ρ Q q I R h => ?_⟩
  refine ha.sim W ew S σ ρ _ _ I (fun S1 v x e1 k1 r1 h1 => ?_) h
  refine hl.sim W ew S1 σ ρ _ _ (I.ev e1 k1) (fun S2 o e2 k2 h2 => ?_) h1
  refine hh.sim W ew S2 σ ρ _ _ (I.ev (e1.trans e2) k2) (fun S3 o' e3 k3 h3 => ?_) h2
  exact sim_sl S3 v x o o' Q q k3 ((r1.ev e2).ev e3) (R.ev ((e1.trans e2).trans e3)) h3
/-- xs[::-1] -/
def dRev (a : DTE) : DTE := fun w ρ L q => a w ρ L fun x L1 => ∃ ds, vRd L1 x = some ds ∧ q (.lst ds.reverse) L1
theorem d_rev {k : Nat} {p1 p2 p3 : Pos} (hK : X.K = K) (ha : DE X K ta a da) : DE X K (fun W => tRevL K (ta W)) (.Subscript a (.Slice none none (some (.UnaryOp .USub (.Constant (.int 1) k p1) p2)) p3) pos) (dRev da) := by
  subst hK
  refine ⟨fun W t => pe_revL (ha.pe W t), fun W ew S σ ρ Q q I R h => ?_⟩
  refine ha.sim W ew S σ ρ _ _ I (fun S1 v x e1 k1 r1 h1 => ?_) h
  obtain ⟨ds, hv, h1⟩ := h1
  obtain ⟨a, xs, rfl, h2, h3⟩ := vRd_ok k1 r1 hv
  refine ⟨a, xs, rfl, h2, fun p np => ?_⟩
  have e := ev_new (o := .lst xs.reverse) np k1
  exact R _ _ _ (e1.trans e) (ok_new np k1) (.lst (k1.lam np) upd_same (h3.reverse.ev e)) h1
/-! ### calls of built-in functions and types -/
theorem d_callB {id : String} {r : List V → Hp → VK → Prop} {f : DRL} {x : Str} (hc : CallR X (.builtin id) r) (hs : SimRL K r f) (hg : Gl X x) (hm : X.mg x = none) (hv : bootBuiltins x = some (.builtin id)) (ha : DA X K tr (e :: es) dr) (hn : x ≠ "__name__" := by decide) (hdb : (x == ("__debug__" : Str)) = false := by decide)
    (he : starEach (e :: es) X.env = (false, eval e X.env) :: starEach es X.env := by rfl) (hpl : (backTo pos (starEach es X.env)).any (·.1) = false := by rfl) : DE X K (fun W => tCB r (tr W)) (.Call (.Name x p) (e :: es) [] pos) (dCB f dr) := by
  refine ⟨fun W t => pe_callB hc hg hm hv (ha.pa W t) hn hdb he hpl, fun W ew S σ ρ Q q I R hh => ?_⟩
  refine ha.sim W ew S σ ρ _ _ I (fun S1 vs xs e1 k1 r1 h1 => ?_) hh
  exact hs S1 vs xs Q q k1 r1 (R.ev e1) h1
theorem d_callTy {T : String} {r : List V → Hp → VK → Prop} {f : DRL} {x : Str} (hc : CallR X (.type T) r) (hs : SimRL K r f) (hg : Gl X x) (hm : X.mg x = none) (hv : bootBuiltins x = some (.type T)) (ha : DA X K tr (e :: es) dr) (hn : x ≠ "__name__" := by decide) (hdb : (x == ("__debug__" : Str)) = false := by decide)
    (he : starEach (e :: es) X.env = (false, eval e X.env) :: starEach es X.env := by rfl) (hpl : (backTo pos (starEach es X.env)).any (·.1) = false := by rfl) : DE X K (fun W => tCB r (tr W)) (.Call (.Name x p) (e :: es) [] pos) (dCB f dr) := by
  refine ⟨fun W t => pe_callTy hc hg hm hv (ha.pa W t) hn hdb he hpl, fun W ew S σ ρ Q q I R hh => ?_⟩
  refine ha.sim W ew S σ ρ _ _ I (fun S1 vs xs e1 k1 r1 h1 => ?_) hh
  exact hs S1 vs xs Q q k1 r1 (R.ev e1) h1
theorem vals1R {S : Sta} {vs : List V} {d : D} (r : RpL K S.H S.Λ vs [d]) : ∃ v, vs = [v] ∧ Rp K S.H S.Λ v d := by
  cases r with
  | cons a b => cases b; exact ⟨_, rfl, a⟩
theorem vals2R {S : Sta} {vs : List V} {d e : D} (r : RpL K S.H S.Λ vs [d, e]) : ∃ v w, vs = [v, w] ∧ Rp K S.H S.Λ v d ∧ Rp K S.H S.Λ w e := by
  cases r with
  | cons a b =>
    obtain ⟨w, rfl, c⟩ := vals1R b
    exact ⟨_, _, rfl, a, c⟩
/-- len -/
def lenD : DRL := fun xs L q => (∃ x ds, xs = [x] ∧ vSeq L x = some ds ∧ q (.int ds.length) L) ∨ (∃ z, xs = [.str z] ∧ z.length ≤ sizeLine ∧ q (.int z.length) L) ∨ ∃ a es, xs = [.ref a] ∧ L a = some (.dK es) ∧ q (.int es.length) L
def rLenA (K : PySem.W.Frag) : List V → Hp → VK → Prop := fun xs H Q => (∃ p ys, xs = [.ref p] ∧ (SqL K H p ys ∨ SqT K H p ys) ∧ Q (.int ys.length) H) ∨ (∃ z, xs = [.str z] ∧ z.length ≤ sizeLine ∧ Q (.int z.length) H) ∨ ∃ a kvs, xs = [V.ref a] ∧ H a = some (.dK kvs) ∧ Q (.int kvs.length) H
theorem call_lenA (hK : X.K = K) : CallR X (.builtin "len") (rLenA K) := by subst hK; exact CallR.or call_len_seq (CallR.or call_len_str call_lenD)
theorem sim_len : SimRL K (rLenA K) lenD := by
  rintro S xs as Q q k r R (⟨x, ds, rfl, h1, h⟩ | ⟨z, rfl, hz, h⟩ | ⟨a, es, rfl, h1, h⟩)
  · obtain ⟨v, rfl, r1⟩ := vals1R r
    obtain ⟨p, ys, rfl, h2, h3⟩ := vSeq_ok k r1 h1
    exact .inl ⟨p, ys, rfl, h2, R S _ _ (.refl S) k (.int _) (by rw [h3.length]; exact h)⟩
  · obtain ⟨v, rfl, r1⟩ := vals1R r
    cases r1
    exact .inr (.inl ⟨z, rfl, hz, R S _ _ (.refl S) k (.int _) h⟩)
  · obtain ⟨v, rfl, r1⟩ := vals1R r
    cases r1
    obtain ⟨_, ks, h2, h3⟩ := k.cell a _ h1
    exact .inr (.inr ⟨a, ks, rfl, h2, R S _ _ (.refl S) k (.int _) (by rw [show ks.length = es.length from TabR.len (S := S) h3]; exact h)⟩)
/-- list(x), tuple(x) -/
def listD : DRL := fun xs L q => ∃ x ds, xs = [x] ∧ vSeq L x = some ds ∧ q (.lst ds) L
def listCD : DRL := fun xs L q => ∃ x ds, xs = [x] ∧ vSeq L x = some ds ∧ ∀ p, L p = none → q (.ref p) (updL L p (.lst ds))
def tupleD : DRL := fun xs L q => ∃ x ds, xs = [x] ∧ ((vRd L x = some ds ∧ q (.tup ds) L) ∨ (x = .tup ds ∧ q (.tup ds) L))
def rListA (K : PySem.W.Frag) : List V → Hp → VK → Prop := fun xs H Q => ∃ p ys, xs = [.ref p] ∧ (SqL K H p ys ∨ SqT K H p ys) ∧ ∀ l, H l = none → Q (.ref l) (upd H l (.lst ys))
def rTupleA (K : PySem.W.Frag) : List V → Hp → VK → Prop := fun xs H Q => ∃ p ys, xs = [.ref p] ∧ ((SqL K H p ys ∧ ∀ l, H l = none → Q (.ref l) (upd H l (.tup ys))) ∨ (SqT K H p ys ∧ Q (.ref p) H))
theorem call_listA (hK : X.K = K) : CallR X (.type "list") (rListA K) := by subst hK; exact call_list_of
theorem call_tupleA (hK : X.K = K) : CallR X (.type "tuple") (rTupleA K) := by subst hK; exact call_tuple_of
theorem sim_list : SimRL K (rListA K) listD := by
  rintro S xs as Q q k r R ⟨x, ds, rfl, h1, h⟩
  obtain ⟨v, rfl, r1⟩ := vals1R r
  obtain ⟨p, ys, rfl, h2, h3⟩ := vSeq_ok k r1 h1
  refine ⟨p, ys, rfl, h2, fun l nl => ?_⟩
  have e := ev_new (o := .lst ys) nl k
  exact R _ _ _ e (ok_new nl k) (.lst (k.lam nl) upd_same (h3.ev e)) h
theorem sim_listC : SimRL K (rListA K) listCD := by
  rintro S xs as Q q k r R ⟨x, ds, rfl, h1, h⟩
  obtain ⟨v, rfl, r1⟩ := vals1R r
  obtain ⟨p, ys, rfl, h2, h3⟩ := vSeq_ok k r1 h1
  refine ⟨p, ys, rfl, h2, fun l nl => ?_⟩
  have e := ev_newc (o := .lst ys) (c := .lst ds) nl k
  exact R _ _ _ e (ok_newc nl k ⟨ys, upd_same, h3.ev e⟩) (.ref l) (h l (k.lno nl))
theorem sim_tuple : SimRL K (rTupleA K) tupleD := by
  rintro S xs as Q q k r R ⟨x, ds, rfl, ⟨h1, h⟩ | ⟨rfl, h⟩⟩
  · obtain ⟨v, rfl, r1⟩ := vals1R r
    obtain ⟨p, ys, rfl, h2, h3⟩ := vRd_ok k r1 h1
    refine ⟨p, ys, rfl, .inl ⟨h2, fun l nl => ?_⟩⟩
    have e := ev_new (o := .tup ys) nl k
    exact R _ _ _ e (ok_new nl k) (.tup (k.lam nl) upd_same (h3.ev e)) h
  · obtain ⟨v, rfl, r1⟩ := vals1R r
    cases r1 with
    | @tup p ys _ n t rr => exact ⟨p, ys, rfl, .inr ⟨.of t, R S _ _ (.refl S) k (.tup n t rr) h⟩⟩
/-- numbers -/
def max2D : DRL := fun xs L q => ∃ i j, xs = [.int i, .int j] ∧ q (.int (if j > i then j else i)) L
def min2D : DRL := fun xs L q => ∃ i j, xs = [.int i, .int j] ∧ q (.int (if j < i then j else i)) L
def sumD : DRL := fun xs L q => ∃ (x : D) (ns : List Int), xs = [x] ∧ vRd L x = some (ns.map D.int) ∧ q (.int ns.sum) L
def allD : DRL := fun xs L q => ∃ (x : D) (bs : List Bool), xs = [x] ∧ vRd L x = some (bs.map D.bl) ∧ q (.bl (bs.all id)) L
def anyD : DRL := fun xs L q => ∃ (x : D) (bs : List Bool), xs = [x] ∧ vRd L x = some (bs.map D.bl) ∧ q (.bl (bs.any id)) L
def strD : DRL := fun xs L q => ∃ i, xs = [.int i] ∧ i.natAbs.log2 < 1920 ∧ q (.str (toString i)) L
def intD : DRL := fun xs L q => (∃ i, xs = [.int i] ∧ q (.int i) L) ∨ ∃ b, xs = [.bl b] ∧ q (.int (if b then 1 else 0)) L
theorem sim_max : SimRL K (fun xs H Q => ∃ i j, xs = [.int i, .int j] ∧ Q (.int (if j > i then j else i)) H) max2D := by
  rintro S xs as Q q k r R ⟨i, j, rfl, h⟩
  obtain ⟨v, w, rfl, r1, r2⟩ := vals2R r
  cases r1; cases r2
  exact ⟨i, j, rfl, R S _ _ (.refl S) k (.int _) h⟩
theorem sim_min : SimRL K (fun xs H Q => ∃ i j, xs = [.int i, .int j] ∧ Q (.int (if j < i then j else i)) H) min2D := by
  rintro S xs as Q q k r R ⟨i, j, rfl, h⟩
  obtain ⟨v, w, rfl, r1, r2⟩ := vals2R r
  cases r1; cases r2
  exact ⟨i, j, rfl, R S _ _ (.refl S) k (.int _) h⟩
theorem sim_sum : SimRL K (rSum K) sumD := by
  rintro S xs as Q q k r R ⟨x, ns, rfl, h1, h⟩
  obtain ⟨v, rfl, r1⟩ := vals1R r
  obtain ⟨p, ys, rfl, h2, h3⟩ := vRd_ok k r1 h1
  exact ⟨p, ns, rfl, by rw [← h3.int_of]; exact h2, R S _ _ (.refl S) k (.int _) h⟩
theorem sim_all : SimRL K (rAll K) allD := by
  rintro S xs as Q q k r R ⟨x, ns, rfl, h1, h⟩
  obtain ⟨v, rfl, r1⟩ := vals1R r
  obtain ⟨p, ys, rfl, h2, h3⟩ := vRd_ok k r1 h1
  exact ⟨p, ns, rfl, by rw [← h3.bl_of]; exact h2, R S _ _ (.refl S) k (.bl _) h⟩
theorem sim_any : SimRL K (rAny K) anyD := by
  rintro S xs as Q q k r R ⟨x, ns, rfl, h1, h⟩
  obtain ⟨v, rfl, r1⟩ := vals1R r
  obtain ⟨p, ys, rfl, h2, h3⟩ := vRd_ok k r1 h1
  exact ⟨p, ns, rfl, by rw [← h3.bl_of]; exact h2, R S _ _ (.refl S) k (.bl _) h⟩
theorem sim_str : SimRL K (fun xs H Q => ∃ i, xs = [.int i] ∧ i.natAbs.log2 < 1920 ∧ Q (.str (toString i)) H) strD := by
  rintro S xs as Q q k r R ⟨i, rfl, hz, h⟩
  obtain ⟨v, rfl, r1⟩ := vals1R r
  cases r1
  exact ⟨i, rfl, hz, R S _ _ (.refl S) k (.str _) h⟩
theorem sim_int1 : SimRL K (fun xs H Q => (∃ i, xs = [.int i] ∧ Q (.int i) H) ∨ ∃ k, xs = [.bl k] ∧ Q (.int (if k then 1 else 0)) H) intD := by
  rintro S xs as Q q k r R (⟨i, rfl, h⟩ | ⟨i, rfl, h⟩)
  · obtain ⟨v, rfl, r1⟩ := vals1R r
    cases r1
    exact .inl ⟨i, rfl, R S _ _ (.refl S) k (.int _) h⟩
  · obtain ⟨v, rfl, r1⟩ := vals1R r
    cases r1
    exact .inr ⟨i, rfl, R S _ _ (.refl S) k (.int _) h⟩
/-- repr -/
def reprD : DRL := fun xs L q => ∃ x d, xs = [x] ∧ PyR L x d ∧ d.showable = true ∧ d.hasDict = false ∧ d.depth ≤ 60 ∧ d.shown.length ≤ sizeLine ∧ q (.str d.shown) L
theorem sim_repr : SimRL K (rShow K) reprD := by
  rintro S xs as Q q k r R ⟨x, d, rfl, h1, a, b, c, e, h⟩
  obtain ⟨v, rfl, r1⟩ := vals1R r
  exact ⟨v, d, rfl, h1.dp k r1, a, b, c, e, R S _ _ (.refl S) k (.str _) h⟩
end
end Ed

set_option Elab.async false
set_option linter.all false
set_option maxRecDepth 100000
set_option maxHeartbeats 2000000
/-! Statements, targets, loops, comprehensions. -/
namespace Ed
open PySem PySem.Spec PyProof.Rows L2 Dz
/-! ### statements -/
def dNext : DTS := fun _ D ρ L => D.nx ρ L
def dSeq (t u : DTS) : DTS := fun w D ρ L => t w ⟨fun ρ1 L1 => u w D ρ1 L1, D.rt, D.bk, D.ct⟩ ρ L
def dBreak : DTS := fun _ D ρ L => D.bk ρ L
def dCont : DTS := fun _ D ρ L => D.ct ρ L
def dDrop (a : DTE) : DTS := fun w D ρ L => a w ρ L fun _ L1 => D.nx ρ L1
def dRet (a : DTE) : DTS := fun w D ρ L => a w ρ L D.rt
def dRetN : DTS := fun _ D _ L => D.rt .non L
def dIfS (c : DTT) (t u : DTS) : DTS := fun w D ρ L => c w ρ L fun b L1 => if b = true then t w D ρ L1 else u w D ρ L1
def dSet (i : Nat) (a : DTE) : DTS := fun w D ρ L => a w ρ L fun x L1 => D.nx (ρ.set i (some x)) L1
def dAsg (a : DTE) (g : DTG) : DTS := fun w D ρ L => a w ρ L fun x L1 => g w x ρ L1 D.nx
def dPar (i j : Nat) (a : DTA) : DTS := fun w D ρ L => a w ρ L fun xs L1 => ∃ x y, xs = [x, y] ∧ D.nx ((ρ.set i (some x)).set j (some y)) L1
def dgName (i : Nat) : DTG := fun _ x ρ L n => n (ρ.set i (some x)) L
abbrev DTGs := EW → List D → Dv → Lc → (Dv → Lc → Prop) → Prop
def dgNil : DTGs := fun _ xs ρ L n => xs = [] ∧ n ρ L
def dgCons (g : DTG) (r : DTGs) : DTGs := fun w xs ρ L n => ∃ x ys, xs = x :: ys ∧ g w x ρ L fun ρ1 L1 => r w ys ρ1 L1 n
def dgTup (k : Nat) (r : DTGs) : DTG := fun w x ρ L n => ∃ ds, (x = .tup ds ∨ x = .ctup ds) ∧ ds.length = k ∧ r w ds ρ L n
def SimGs (K : PySem.W.Frag) (tg : WX → TGs) (dg : DTGs) : Prop := ∀ (W : WX) (ew : EW) (S : Sta) (σ : L2.St) (ρ : Dv) (vs : List V) (xs : List D) (N : L2.St → Hp → Prop) (n : Dv → Lc → Prop), In K W ew S σ ρ → RpL K S.H S.Λ vs xs → RelN K S N n → dg ew xs ρ S.L n → tg W vs σ S.H N
structure DGs (X : Cx) (K : PySem.W.Frag) (tg : WX → TGs) (es : List Expr) (dg : DTGs) : Prop where
  pg : ∀ W, Takes X W → PGs X es (tg W)
  sim : SimGs K tg dg
section
variable {X : Cx} {K : PySem.W.Frag} {e a b c : Expr} {es : List Expr} {st : Stmt} {sts sts2 : List Stmt} {te ta tb tc : WX → TE} {tr : WX → TA} {tt : WX → TT} {ts tu : WX → TS} {tg : WX → TG} {de da db dc : DTE} {dr : DTA} {dt : DTT} {ds du : DTS} {dg : DTG} {pos p : Pos}
theorem dss_nil : DSs X K (fun _ => tNext) [] dNext := ⟨fun _ _ => pss_nil, fun W ew S σ ρ D d I R h => R.nx S σ ρ (.refl S) I.ok I.sl h⟩
theorem dss_cons (h1 : DS X K ts st ds) (h2 : DSs X K tu sts du) : DSs X K (fun W => tSeq (ts W) (tu W)) (st :: sts) (dSeq ds du) := by
  refine ⟨fun W t => pss_cons (h1.ps W t) (h2.ps W t), fun W ew S σ ρ D d I R h => ?_⟩
  refine h1.sim W ew S σ ρ _ ⟨fun ρ1 L1 => du ew d ρ1 L1, d.rt, d.bk, d.ct⟩ I ⟨fun S1 σ1 ρ1 e1 k1 r1 n1 => ?_, R.rt, R.bk, R.ct⟩ h
  exact h2.sim W ew S1 σ1 ρ1 D d ⟨k1, r1, I.wi.ev e1⟩ (R.ev e1) n1
theorem dss_one (h1 : DS X K ts st ds) : DSs X K ts [st] ds := ⟨fun W t => pss_one (h1.ps W t), h1.sim⟩
theorem ds_pass : DS X K (fun _ => tNext) (.Pass pos) dNext := ⟨fun _ _ => ps_pass, fun W ew S σ ρ D d I R h => R.nx S σ ρ (.refl S) I.ok I.sl h⟩
theorem ds_break : DS X K (fun _ => tBreak) (.Break pos) dBreak := ⟨fun _ _ => ps_break, fun W ew S σ ρ D d I R h => R.bk S σ ρ (.refl S) I.ok I.sl h⟩
theorem ds_cont : DS X K (fun _ => tCont) (.Continue pos) dCont := ⟨fun _ _ => ps_continue, fun W ew S σ ρ D d I R h => R.ct S σ ρ (.refl S) I.ok I.sl h⟩
theorem ds_doc {x j pos'} : DS X K (fun _ => tNext) (.Expr (.Constant (.str x) j pos) pos') dNext := ⟨fun _ _ => ps_doc, fun W ew S σ ρ D d I R h => R.nx S σ ρ (.refl S) I.ok I.sl h⟩
theorem ds_expr (ha : DE X K ta a da) (hs : swapsWith a none pos.line X.env = pure false := by rfl) : DS X K (fun W => tDrop (ta W)) (.Expr a pos) (dDrop da) := by
  refine ⟨fun W t => ps_expr (ha.pe W t) hs, fun W ew S σ ρ D d I R h => ?_⟩
  exact ha.sim W ew S σ ρ _ _ I (fun S1 v x e1 k1 r1 h1 => R.nx S1 σ ρ e1 k1 (I.sl.ev e1) h1) h
theorem ds_ret (ha : DE X K ta a da) : DS X K (fun W => tRet (ta W)) (.Return (some a) pos) (dRet da) := by
  refine ⟨fun W t => ps_ret (ha.pe W t), fun W ew S σ ρ D d I R h => ?_⟩
  exact ha.sim W ew S σ ρ _ _ I R.rt h
theorem ds_retN : DS X K (fun _ => tRetN) (.Return none pos) dRetN := ⟨fun _ _ => ps_retN, fun W ew S σ ρ D d I R h => R.rt S _ _ (.refl S) I.ok .non h⟩
theorem ds_if (hc : DT X K tt c dt) (h1 : DSs X K ts sts ds) (h2 : DSs X K tu sts2 du) : DS X K (fun W => tIfS (tt W) (ts W) (tu W)) (.If c sts sts2 pos) (dIfS dt ds du) := by
  refine ⟨fun W t => ps_if (hc.pt W t) (h1.ps W t) (h2.ps W t), fun W ew S σ ρ D d I R h => ?_⟩
  refine hc.sim W ew S σ ρ _ _ I (fun S1 b e1 k1 h1' => ?_) h
  cases b with
  | true => exact h1.sim W ew S1 σ ρ D d (I.ev e1 k1) (R.ev e1) h1'
  | false => exact h2.sim W ew S1 σ ρ D d (I.ev e1 k1) (R.ev e1) h1'
theorem ds_set {i : Nat} {x : Str} {pos' : Pos} (hN : X.N.Nodup) (hi : X.N[i]? = some x) (hx : Loc X.env.scope x) (ha : DE X K ta a da) (hs : swapsWith a (some (.Name x pos')) pos.line X.env = pure false := by rfl)
    (hf : X.fn x = true ∨ X.env.scope.names.lookup x = some .local := by first | exact .inl rfl | exact .inr rfl | assumption) : DS X K (fun W => tAsg (ta W) (gName i)) (.Assign [.Name x pos'] a pos) (dSet i da) := by
  refine ⟨fun W t => ps_set hN hi hx (ha.pe W t) hs hf, fun W ew S σ ρ D d I R h => ?_⟩
  exact ha.sim W ew S σ ρ _ _ I (fun S1 v x e1 k1 r1 h1 => R.nx S1 _ _ e1 k1 ((I.sl.ev e1).set r1) h1) h
theorem ds_asg {tge : Expr} (ha : DE X K ta a da) (hg : DG X K tg tge dg) (hs : swapsWithSole [tge] a pos.line X.env = pure false := by rfl) (hw : swappedStores [tge] a X.env = pure none := by rfl)
    (h1 : (assignEach [tge] X.env).map (·.2) = [assign tge X.env] := by rfl) : DS X K (fun W => tAsg (ta W) (tg W)) (.Assign [tge] a pos) (dAsg da dg) := by
  refine ⟨fun W t => ps_asg (ha.pe W t) (hg.pg W t) hs hw h1, fun W ew S σ ρ D d I R h => ?_⟩
  refine ha.sim W ew S σ ρ _ _ I (fun S1 v x e1 k1 r1 h1 => ?_) h
  exact hg.sim W ew S1 σ ρ v x _ _ (I.ev e1 k1) r1 (R.nx.ev e1) h1
theorem ds_par {i j : Nat} {x y : Str} {px py pt : Pos} {kt k2 pt2} (hc : X.calm = true) (hN : X.N.Nodup) (hi : X.N[i]? = some x) (hj : X.N[j]? = some y) (hij : i ≠ j)
    (hx : X.env.scope.names.lookup x = some .local) (hy : X.env.scope.names.lookup y = some .local) (ha : DA X K tr [a, b] dr)
    (hw : swappedStores [.Tuple [.Name x px, .Name y py] kt pt] (.Tuple [a, b] k2 pt2) X.env = pure (some [x, y]))
    (hs : swapsWithSole [.Tuple [.Name x px, .Name y py] kt pt] (.Tuple [a, b] k2 pt2) pos.line X.env = pure false := by rfl) :
    DS X K (fun W => tPar i j (tr W)) (.Assign [.Tuple [.Name x px, .Name y py] kt pt] (.Tuple [a, b] k2 pt2) pos) (dPar i j dr) := by
  refine ⟨fun W t => ps_par hc hN hi hj hij hx hy (ha.pa W t) hw hs, fun W ew S σ ρ D d I R h => ?_⟩
  refine ha.sim W ew S σ ρ _ _ I (fun S1 vs xs e1 k1 r1 h1 => ?_) h
  obtain ⟨x, y, rfl, h1⟩ := h1
  obtain ⟨v, w, rfl, rv, rw'⟩ := vals2R r1
  exact ⟨v, w, rfl, R.nx S1 _ _ e1 k1 (((I.sl.ev e1).set rv).set rw') h1⟩
/-! targets -/
theorem dg_name {i : Nat} {x : Str} (hN : X.N.Nodup) (hi : X.N[i]? = some x) (hx : Loc X.env.scope x) (hf : X.fn x = true ∨ X.env.scope.names.lookup x = some .local := by first | exact .inl rfl | exact .inr rfl | assumption) : DG X K (fun _ => gName i) (.Name x pos) (dgName i) :=
  ⟨fun _ _ => pg_name hN hi hx hf, fun W ew S σ ρ v x N n I r R h => R S _ _ (.refl S) I.ok (I.sl.set r) h⟩
theorem dgs_nil : DGs X K (fun _ => gNil) [] dgNil := by
  refine ⟨fun _ _ => pgs_nil, fun W ew S σ ρ vs xs N n I r R h => ?_⟩
  obtain ⟨rfl, h⟩ := h
  cases r
  exact ⟨rfl, R S _ _ (.refl S) I.ok I.sl h⟩
theorem dgs_cons {tgs : WX → TGs} {dgs : DTGs} (h1 : DG X K tg e dg) (h2 : DGs X K tgs es dgs) (hs : (assignEach (e :: es) X.env).map (·.2) = assign e X.env :: (assignEach es X.env).map (·.2) := by rfl) : DGs X K (fun W => gCons (tg W) (tgs W)) (e :: es) (dgCons dg dgs) := by
  refine ⟨fun W t => pgs_cons (h1.pg W t) (h2.pg W t) hs, fun W ew S σ ρ vs xs N n I r R h => ?_⟩
  obtain ⟨x, ys, rfl, h⟩ := h
  cases r with
  | @cons v vs' _ _ r rr =>
  refine ⟨v, vs', rfl, h1.sim W ew S σ ρ v x _ _ I r (fun S1 σ1 ρ1 e1 k1 s1 n1 => ?_) h⟩
  exact h2.sim W ew S1 σ1 ρ1 vs' ys N n ⟨k1, s1, I.wi.ev e1⟩ (rr.ev e1) (R.ev e1) n1
theorem dg_tup {k m : Nat} {tgs : WX → TGs} {dgs : DTGs} (hK : X.K = K) (hc : X.calm = true) (h : DGs X K tgs es dgs) (hn : (assignEach es X.env).length = m := by rfl) (hst : (assignEach es X.env).findIdx? (·.1) = none := by rfl) :
    DG X K (fun W => gTup K m (tgs W)) (.Tuple es k pos) (dgTup m dgs) := by
  subst hK
  refine ⟨fun W t => pg_tup hc (h.pg W t) hn hst, fun W ew S σ ρ v x N n I r R hh => ?_⟩
  obtain ⟨ds, hx, hl, hh⟩ := hh
  rcases hx with rfl | rfl
  · cases r with
    | @tup q us _ _ t1 r1 => exact ⟨q, us, rfl, .of t1, by rw [r1.length]; exact hl, h.sim W ew S σ ρ us ds N n I r1 R hh⟩
  · cases r with
    | @ctup q us _ t1 r1 => exact ⟨q, us, rfl, t1.sq, by rw [r1.length]; exact hl, h.sim W ew S σ ρ us ds N n I r1 R hh⟩
end
/-! ### o[i] = v -/
def setD : D → D → D → Lc → (Lc → Prop) → Prop := fun o i v L n => (∃ a ds k j, o = .ref a ∧ L a = some (.lst ds) ∧ i = .int k ∧ ixN ds.length k = some j ∧ n (updL L a (.lst (ds.set j v)))) ∨
  (∃ a es k, o = .ref a ∧ L a = some (.dK es) ∧ kD i = some k ∧ es.length < sizeLine ∧ n (updL L a (.dK (putD es k v)))) ∨
  ∃ a es ds k, o = .ref a ∧ L a = some (.dT es) ∧ i = .tup ds ∧ kDs ds = some k ∧ es.length < sizeLine ∧ n (updL L a (.dT (putD es k v)))
def rSetA : TSet := fun o i v H Q => rSetL o i v H Q ∨ ∃ a H', o = .ref a ∧ DPut H a i v H' ∧ Q H'
def SimSet (K : PySem.W.Frag) (r : TSet) (f : D → D → D → Lc → (Lc → Prop) → Prop) : Prop := ∀ (S : Sta) (o i v : V) (a b c : D) (N : Hp → Prop) (n : Lc → Prop), Ok K S → Rp K S.H S.Λ o a → Rp K S.H S.Λ i b → Rp K S.H S.Λ v c → (∀ S', Ev S S' → Ok K S' → n S'.L → N S'.H) → f a b c S.L n → r o i v S.H N
section
variable {X : Cx} {K : PySem.W.Frag}
theorem set_all (hu : X.A.units + 1 < cLine) : PSet X rSetA := by
  intro pins s σ H o i v ov iv u Q I ro ri rv h
  rcases h with h | ⟨a, H', rfl, g, q⟩
  · exact set_list pins s σ H o i v ov iv u Q I ro ri rv h
  · cases ro
    exact d_setItem hu I g ri rv fun s' I' => ⟨H', I', q⟩
theorem sim_set : SimSet K rSetA setD := by
  rintro S o i v a b c N n k ro ri rv R (⟨p, ds, j, m, rfl, h1, rfl, h2, h⟩ | ⟨p, es, kk, rfl, h1, h2, h3, h⟩ | ⟨p, es, ds, kk, rfl, h1, rfl, h2, h3, h⟩)
  · cases ro; cases ri
    obtain ⟨_, xs, h4, h5⟩ := k.cell p _ h1
    refine .inl ⟨p, xs, j, m, rfl, rfl, h4, by rw [h5.length]; exact h2, ?_⟩
    have e := ev_put (o := .lst (xs.set m v)) (c := .lst (ds.set m c)) h1 k
    exact R (S.put p (.lst (xs.set m v)) (.lst (ds.set m c))) e (ok_put h1 k ⟨_, upd_same, (RpL.set rv m h5).ev e⟩) h
  · cases ro
    obtain ⟨_, ks, h4, h5⟩ := k.cell p _ h1
    have T : TabR K S.H S.Λ ks es := h5
    refine .inr ⟨p, _, rfl, .inl ⟨ks, kk, h4, kD_ok ri h2, by rw [T.len]; exact h3, rfl⟩, ?_⟩
    have e := ev_put (o := .dK (putK ks kk v)) (c := .dK (putD es kk c)) h1 k
    exact R (S.put p (.dK (putK ks kk v)) (.dK (putD es kk c))) e (ok_put h1 k ⟨_, upd_same, ((T.put kk rv).ev e)⟩) h
  · cases ro
    obtain ⟨_, ks, h4, h5⟩ := k.cell p _ h1
    have T : TabR K S.H S.Λ ks es := h5
    cases ri with
    | @tup b us _ _ t1 r1 =>
    refine .inr ⟨p, _, rfl, .inr ⟨ks, kk, b, h4, rfl, by rw [← kDs_ok r1 h2]; exact t1, by rw [T.len]; exact h3, rfl⟩, ?_⟩
    have e := ev_put (o := .dT (putK ks kk v)) (c := .dT (putD es kk c)) h1 k
    exact R (S.put p (.dT (putK ks kk v)) (.dT (putD es kk c))) e (ok_put h1 k ⟨_, upd_same, ((T.put kk rv).ev e)⟩) h
def dgSub (f : D → D → D → Lc → (Lc → Prop) → Prop) (o i : DTE) : DTG := fun w x ρ L n => o w ρ L fun y L1 => i w ρ L1 fun z L2 => f y z x L2 fun L3 => n ρ L3
theorem dg_sub {o i : Expr} {to ti : WX → TE} {do' di : DTE} {pos : Pos} (hu : X.A.units + 1 < cLine) (ho : DE X K to o do') (hi : DE X K ti i di)
    (ha : ∀ v, assign (.Subscript o i pos) X.env v = (do
      let ov ← holding [v] (eval o X.env)
      let iv ← holding [v, ov] (eval i X.env)
      standAt pos
      holding [v, ov, iv] (setItem ov iv v)
      release [v, ov, iv] []) := by intro _; rfl) : DG X K (fun W => gSub (to W) (ti W) rSetA) (.Subscript o i pos) (dgSub setD do' di) := by
  refine ⟨fun W t => pg_sub (ho.pe W t) (hi.pe W t) (set_all hu) ha, fun W ew S σ ρ v x N n I r R h => ?_⟩
  refine ho.sim W ew S σ ρ _ _ I (fun S1 ov y e1 k1 r1 h1 => ?_) h
  refine hi.sim W ew S1 σ ρ _ _ (I.ev e1 k1) (fun S2 iv z e2 k2 r2 h2 => ?_) h1
  exact sim_set S2 ov iv v y z x _ _ k2 (r1.ev e2) r2 (r.ev (e1.trans e2)) (fun S3 e3 k3 h3 => R S3 σ ρ ((e1.trans e2).trans e3) k3 (I.sl.ev ((e1.trans e2).trans e3)) h3) h2
end
end Ed

set_option Elab.async false
set_option linter.all false
set_option maxRecDepth 100000
set_option maxHeartbeats 2000000
/-! What loops go over; for; comprehensions; while. -/
namespace Ed
open PySem PySem.Spec PyProof.Rows L2 Dz
/-- what is walked: the things that come, and what must hold of the cells at each turn -/
abbrev DTI := EW → Dv → Lc → (List D → (Lc → Prop) → Lc → Prop) → Prop
/-- a walk of ds from S0 on, while g holds -/
structure ItOk (K : PySem.W.Frag) (S0 : Sta) (J : It) (ds : List D) (g : Lc → Prop) : Prop where
  ex : ∃ (G : Hp → Prop) (Y : Nat → Hp → V → Hp → Prop), Walk J ds.length G Y ∧ (∀ S, Ev S0 S → Ok K S → g S.L → G S.H) ∧
    ∀ S i x H', Ev S0 S → Ok K S → g S.L → i < ds.length → Y i S.H x H' → ∃ S' d, S'.H = H' ∧ S'.L = S.L ∧ Ev S S' ∧ Ok K S' ∧ ds[i]? = some d ∧ Rp K S'.H S'.Λ x d
def SimI (K : PySem.W.Frag) (wi : WX → TI) (di : DTI) : Prop := ∀ (W : WX) (ew : EW) (S : Sta) (σ : L2.St) (ρ : Dv) (R : It → Hp → Prop) (k : List D → (Lc → Prop) → Lc → Prop), In K W ew S σ ρ →
  (∀ S' J ds g, Ev S S' → Ok K S' → ItOk K S' J ds g → k ds g S'.L → R J S'.H) → di ew ρ S.L k → wi W σ S.H R
structure DI (X : Cx) (K : PySem.W.Frag) (wi : WX → TI) (tg e : Expr) (di : DTI) : Prop where
  pi : ∀ W, Takes X W → PI X tg e (wi W)
  sim : SimI K wi di
def diSeq (a : DTE) : DTI := fun w ρ L k => a w ρ L fun x L1 => ∃ ds, vRd L1 x = some ds ∧ k ds (fun L' => vRd L' x = some ds) L1
def diTup (a : DTE) : DTI := fun w ρ L k => a w ρ L fun x L1 => ∃ ds, (x = .tup ds ∨ x = .ctup ds) ∧ k ds (fun _ => True) L1
def diStr (a : DTE) : DTI := fun w ρ L k => a w ρ L fun x L1 => ∃ z : Str, x = .str z ∧ k (z.cps.toList.map fun c => .str ⟨#[c]⟩) (fun _ => True) L1
def diRng1 (a : DTA) : DTI := fun w ρ L k => a w ρ L fun xs L1 => ∃ j : Int, xs = [.int j] ∧ -(2 ^ 62) ≤ j ∧ j < 2 ^ 62 ∧ k ((List.range j.toNat).map fun i => .int (i : Nat)) (fun _ => True) L1
def diRng2 (a : DTA) : DTI := fun w ρ L k => a w ρ L fun xs L1 => ∃ i j : Int, xs = [.int i, .int j] ∧ (-(2 ^ 62) ≤ i ∧ i < 2 ^ 62 ∧ -(2 ^ 62) ≤ j ∧ j < 2 ^ 62) ∧ k ((List.range (j - i).toNat).map fun m => .int (i + (m : Nat))) (fun _ => True) L1
def diRev (a : DTA) : DTI := fun w ρ L k => a w ρ L fun xs L1 => ∃ x ds, xs = [x] ∧ vRd L1 x = some ds ∧ k ds.reverse (fun L' => vRd L' x = some ds) L1
def diEnum (a : DTA) : DTI := fun w ρ L k => a w ρ L fun xs L1 => ∃ x ds, xs = [x] ∧ vRd L1 x = some ds ∧ k (ds.mapIdx fun i d => .tup [.int (i : Nat), d]) (fun L' => vRd L' x = some ds) L1
def diZip (a : DTA) : DTI := fun w ρ L k => a w ρ L fun xs L1 => ∃ x y ds es, xs = [x, y] ∧ vRd L1 x = some ds ∧ vRd L1 y = some es ∧ k (List.zipWith (fun d e => .tup [d, e]) ds es) (fun L' => vRd L' x = some ds ∧ vRd L' y = some es) L1
section
variable {X : Cx} {K : PySem.W.Frag} {tge e a b c : Expr} {es : List Expr} {te ta tb tc : WX → TE} {tr : WX → TA} {da db dc : DTE} {dr : DTA} {pos p : Pos}
/-- the list stands at each turn as at the first -/
theorem rd_at {S S' : Sta} {v : V} {x : D} {ds : List D} (k : Ok K S) (r : Rp K S.H S.Λ v x) (h : vRd S.L x = some ds) (e : Ev S S') (k' : Ok K S') (h' : vRd S'.L x = some ds) : ∃ a, v = .ref a ∧ ∃ xs, SqL K S'.H a xs ∧ RpL K S'.H S'.Λ xs ds := by
  obtain ⟨a, xs, e1, h1, h2⟩ := vRd_ok k' (r.ev e) h'
  exact ⟨a, e1, xs, h1, h2⟩
theorem di_seq (hK : X.K = K) (ha : DE X K ta a da) : DI X K (fun W => iList K (ta W)) tge a (diSeq da) := by
  subst hK
  refine ⟨fun W t => pi_list (ha.pe W t), fun W ew S σ ρ R k I RR h => ?_⟩
  refine ha.sim W ew S σ ρ _ _ I (fun S1 v x e1 k1 r1 h1 => ?_) h
  obtain ⟨ds, hv, h1⟩ := h1
  obtain ⟨a, xs, rfl, hs, hr⟩ := vRd_ok k1 r1 hv
  refine ⟨a, rfl, ⟨xs, hs⟩, RR S1 _ ds _ e1 k1 ⟨fun H => ∃ S', S'.H = H ∧ Ev S1 S' ∧ Ok X.K S' ∧ vRd S'.L x = some ds, fun i H y H' => H' = H ∧ ∀ ys, SqL X.K H a ys → ys[i]? = some y, ⟨fun i H hi g => ?_, fun H g => ?_, fun i H y H' _ _ q => q⟩, fun S' e k g => ⟨S', rfl, e, k, g⟩, fun S' i y H' e k g hi q => ?_⟩ h1⟩
  · obtain ⟨S', rfl, e, k, g⟩ := g
    obtain ⟨b, eb, ys, hs', hr'⟩ := rd_at k1 r1 hv e k g
    cases eb
    have hl := hr'.length
    exact ⟨ys, ys[i]'(by omega), hs', List.getElem?_eq_getElem (by omega)⟩
  · obtain ⟨S', rfl, e, k, g⟩ := g
    obtain ⟨b, eb, ys, hs', hr'⟩ := rd_at k1 r1 hv e k g
    cases eb
    exact ⟨ys, hs', Nat.le_of_eq hr'.length⟩
  · obtain ⟨rfl, q⟩ := q
    obtain ⟨b, eb, ys, hs', hr'⟩ := rd_at k1 r1 hv e k g
    cases eb
    obtain ⟨d, hd⟩ : ∃ d, ds[i]? = some d := ⟨ds[i], List.getElem?_eq_getElem hi⟩
    obtain ⟨z, hz, rz⟩ := hr'.get hd
    have := q ys hs'
    rw [hz] at this
    cases this
    exact ⟨S', d, rfl, rfl, .refl _, k, hd, rz⟩
theorem di_tup (hK : X.K = K) (ha : DE X K ta a da) : DI X K (fun W => iTup K (ta W)) tge a (diTup da) := by
  subst hK
  refine ⟨fun W t => pi_tup (ha.pe W t), fun W ew S σ ρ R k I RR h => ?_⟩
  refine ha.sim W ew S σ ρ _ _ I (fun S1 v x e1 k1 r1 h1 => ?_) h
  obtain ⟨ds, hx, h1⟩ := h1
  have key : ∀ {S' : Sta}, Ev S1 S' → Rp X.K S'.H S'.Λ v x → ∃ a, v = .ref a ∧ ∃ xs, SqT X.K S'.H a xs ∧ RpL X.K S'.H S'.Λ xs ds := fun {S'} _ r => by
    rcases hx with rfl | rfl
    · cases r with
      | tup _ t r => exact ⟨_, rfl, _, .of t, r⟩
    · cases r with
      | ctup t r => exact ⟨_, rfl, _, t.sq, r⟩
  obtain ⟨a, rfl, xs, hs, hr⟩ := key (.refl S1) r1
  refine ⟨a, rfl, ⟨xs, hs⟩, RR S1 _ ds _ e1 k1 ⟨fun H => ∃ S', S'.H = H ∧ Ev S1 S' ∧ Ok X.K S', fun i H y H' => H' = H ∧ ∀ ys, SqT X.K H a ys → ys[i]? = some y, ⟨fun i H hi g => ?_, fun H g => ?_, fun i H y H' _ _ q => q⟩, fun S' e k g => ⟨S', rfl, e, k⟩, fun S' i y H' e k g hi q => ?_⟩ h1⟩
  · obtain ⟨S', rfl, e, k⟩ := g
    obtain ⟨b, eb, ys, hs', hr'⟩ := key e (r1.ev e)
    cases eb
    have hl := hr'.length
    exact ⟨ys, ys[i]'(by omega), hs', List.getElem?_eq_getElem (by omega)⟩
  · obtain ⟨S', rfl, e, k⟩ := g
    obtain ⟨b, eb, ys, hs', hr'⟩ := key e (r1.ev e)
    cases eb
    exact ⟨ys, hs', Nat.le_of_eq hr'.length⟩
  · obtain ⟨rfl, q⟩ := q
    obtain ⟨b, eb, ys, hs', hr'⟩ := key e (r1.ev e)
    cases eb
    obtain ⟨d, hd⟩ : ∃ d, ds[i]? = some d := ⟨ds[i], List.getElem?_eq_getElem hi⟩
    obtain ⟨z, hz, rz⟩ := hr'.get hd
    have := q ys hs'
    rw [hz] at this
    cases this
    exact ⟨S', d, rfl, rfl, .refl _, k, hd, rz⟩
/-- a walk that reads no heap -/
theorem it_pure {S0 : Sta} {J : It} {ds : List D} {g : Lc → Prop} {f : Nat → Option V} (w : Walk J ds.length (fun _ => True) fun i H x H' => H' = H ∧ f i = some x) (hr : ∀ (S : Sta) (i : Nat) (x : V), f i = some x → ∃ d, ds[i]? = some d ∧ Rp K S.H S.Λ x d) : ItOk K S0 J ds g :=
  ⟨_, _, w, fun _ _ _ _ => trivial, fun S i x H' e k _ hi q => by
    obtain ⟨rfl, q⟩ := q
    obtain ⟨d, h1, h2⟩ := hr S i x q
    exact ⟨S, d, rfl, rfl, .refl _, k, h1, h2⟩⟩
theorem di_str (ha : DE X K ta a da) : DI X K (fun W => iStr (ta W)) tge a (diStr da) := by
  refine ⟨fun W t => pi_str (ha.pe W t), fun W ew S σ ρ R k I RR h => ?_⟩
  refine ha.sim W ew S σ ρ _ _ I (fun S1 v x e1 k1 r1 h1 => ?_) h
  obtain ⟨z, rfl, h1⟩ := h1
  cases r1
  refine ⟨z, rfl, RR S1 _ _ _ e1 k1 (it_pure (f := fun i => (z.cps[i]?).map fun c => V.str ⟨#[c]⟩) ?_ ?_) h1⟩
  · have e : (z.cps.toList.map fun c => D.str ⟨#[c]⟩).length = z.cps.size := by simp
    rw [e]
    refine walk_str.mono (fun _ h => h) fun i H x H' _ _ q => ⟨q.1, ?_⟩
    obtain ⟨c, hc, rfl⟩ := q.2
    rw [hc]; rfl
  · intro S i x hx
    cases hc : z.cps[i]? with
    | none => rw [hc] at hx; cases hx
    | some c =>
      rw [hc] at hx
      cases hx
      refine ⟨.str ⟨#[c]⟩, ?_, .str _⟩
      rw [List.getElem?_map, Array.getElem?_toList, hc]; rfl
theorem di_rng1 {q : Pos} (hg : Gl X "range") (hm : X.mg "range" = none) (ha : DA X K tr [a] dr) (hs : starEach [a] X.env = [(false, eval a X.env)] := by rfl) : DI X K (fun W => iRng1 (tr W)) tge (.Call (.Name "range" q) [a] [] pos) (diRng1 dr) := by
  refine ⟨fun W t => pi_range1 hg hm (ha.pa W t) hs, fun W ew S σ ρ R k I RR h => ?_⟩
  refine ha.sim W ew S σ ρ _ _ I (fun S1 vs xs e1 k1 r1 h1 => ?_) h
  obtain ⟨j, rfl, b1, b2, h1⟩ := h1
  obtain ⟨v, rfl, r2⟩ := vals1R r1
  cases r2
  refine ⟨j, rfl, b1, b2, RR S1 _ _ _ e1 k1 (it_pure (f := fun i => if i < j.toNat then some (V.int (i : Nat)) else none) ?_ ?_) h1⟩
  · have e : ((List.range j.toNat).map fun i => D.int (i : Nat)).length = j.toNat := by simp
    rw [e]
    refine (walk_range (lo := 0)).mono (fun _ h => h) fun i H x H' hi _ q => ⟨q.1, ?_⟩
    rw [if_pos hi, q.2]
    show some (V.int (i : Nat)) = some (V.int (0 + (i : Int)))
    rw [Int.zero_add]
  · intro S i x hx
    by_cases hi : i < j.toNat
    · rw [if_pos hi] at hx
      cases hx
      exact ⟨.int (i : Nat), by rw [List.getElem?_map, List.getElem?_range hi]; rfl, .int _⟩
    · rw [if_neg hi] at hx; cases hx
theorem di_rng2 {q : Pos} (hg : Gl X "range") (hm : X.mg "range" = none) (ha : DA X K tr [a, b] dr) (hs : starEach [a, b] X.env = [(false, eval a X.env), (false, eval b X.env)] := by rfl) (hs2 : starEach [b] X.env = [(false, eval b X.env)] := by rfl) : DI X K (fun W => iRng2 (tr W)) tge (.Call (.Name "range" q) [a, b] [] pos) (diRng2 dr) := by
  refine ⟨fun W t => pi_range2 hg hm (ha.pa W t) hs hs2, fun W ew S σ ρ R k I RR h => ?_⟩
  refine ha.sim W ew S σ ρ _ _ I (fun S1 vs xs e1 k1 r1 h1 => ?_) h
  obtain ⟨i0, j, rfl, b1, h1⟩ := h1
  obtain ⟨v, w, rfl, r3, r2⟩ := vals2R r1
  cases r3; cases r2
  refine ⟨i0, j, rfl, b1, RR S1 _ _ _ e1 k1 (it_pure (f := fun i => if i < (j - i0).toNat then some (V.int (i0 + (i : Nat))) else none) ?_ ?_) h1⟩
  · have e : ((List.range (j - i0).toNat).map fun m => D.int (i0 + (m : Nat))).length = (j - i0).toNat := by simp
    rw [e]
    refine (walk_range (lo := i0)).mono (fun _ h => h) fun i H x H' hi _ q => ⟨q.1, ?_⟩
    rw [if_pos hi, q.2]
  · intro S i x hx
    by_cases hi : i < (j - i0).toNat
    · rw [if_pos hi] at hx
      cases hx
      exact ⟨.int (i0 + (i : Nat)), by rw [List.getElem?_map, List.getElem?_range hi]; rfl, .int _⟩
    · rw [if_neg hi] at hx; cases hx
theorem di_rev {q : Pos} (hK : X.K = K) (hg : Gl X "reversed") (hm : X.mg "reversed" = none) (ha : DA X K tr [a] dr) (hs : starEach [a] X.env = [(false, eval a X.env)] := by rfl) : DI X K (fun W => iRev K (tr W)) tge (.Call (.Name "reversed" q) [a] [] pos) (diRev dr) := by
  subst hK
  refine ⟨fun W t => pi_reversed hg hm (ha.pa W t) hs, fun W ew S σ ρ R k I RR h => ?_⟩
  refine ha.sim W ew S σ ρ _ _ I (fun S1 vs xs e1 k1 r1 h1 => ?_) h
  obtain ⟨x, ds, rfl, hv, h1⟩ := h1
  obtain ⟨v, rfl, r2⟩ := vals1R r1
  obtain ⟨a, xs, rfl, hs, hr⟩ := vRd_ok k1 r2 hv
  have hl := hr.length
  refine ⟨a, xs, rfl, hs, ?_⟩
  rw [show xs.length = ds.reverse.length by rw [List.length_reverse]; exact hl]
  refine RR S1 _ ds.reverse _ e1 k1 ⟨fun H => ∃ S', S'.H = H ∧ Ev S1 S' ∧ Ok X.K S' ∧ vRd S'.L x = some ds, fun i H y H' => H' = H ∧ ∀ ys, SqL X.K H a ys → ys[ds.reverse.length - 1 - i]? = some y, ⟨fun i H hi g => ?_, fun H g => Nat.le_refl _, fun i H y H' _ _ q => q⟩, fun S' e k g => ⟨S', rfl, e, k, g⟩, fun S' i y H' e k g hi q => ?_⟩ h1
  · obtain ⟨S', rfl, e, k, g⟩ := g
    obtain ⟨b, eb, ys, hs', hr'⟩ := rd_at k1 r2 hv e k g
    cases eb
    have hl' := hr'.length
    have hi' : i < ds.length := by rw [List.length_reverse] at hi; exact hi
    exact ⟨hi, ys, ys[ds.reverse.length - 1 - i]'(by rw [List.length_reverse]; omega), hs', List.getElem?_eq_getElem (by rw [List.length_reverse]; omega)⟩
  · obtain ⟨rfl, q⟩ := q
    obtain ⟨b, eb, ys, hs', hr'⟩ := rd_at k1 r2 hv e k g
    cases eb
    have hi' : i < ds.length := by rw [List.length_reverse] at hi; exact hi
    have q' := q ys hs'
    rw [List.length_reverse] at q'
    obtain ⟨d, hd⟩ : ∃ d, ds[ds.length - 1 - i]? = some d := ⟨ds[ds.length - 1 - i]'(by omega), List.getElem?_eq_getElem (by omega)⟩
    obtain ⟨z, hz, rz⟩ := hr'.get hd
    rw [hz] at q'
    cases q'
    exact ⟨S', d, rfl, rfl, .refl _, k, by rw [List.getElem?_reverse hi']; exact hd, rz⟩
theorem di_enum {q tpos : Pos} {elts : List Expr} {kk : Nat} (hK : X.K = K) (hg : Gl X "enumerate") (hm : X.mg "enumerate" = none) (ha : DA X K tr [a] dr) (hs : starEach [a] X.env = [(false, eval a X.env)] := by rfl) :
    DI X K (fun W => iEnum K (tr W)) (.Tuple elts kk tpos) (.Call (.Name "enumerate" q) [a] [] pos) (diEnum dr) := by
  subst hK
  refine ⟨fun W t => pi_enum hg hm (ha.pa W t) hs, fun W ew S σ ρ R k I RR h => ?_⟩
  refine ha.sim W ew S σ ρ _ _ I (fun S1 vs xs e1 k1 r1 h1 => ?_) h
  obtain ⟨x, ds, rfl, hv, h1⟩ := h1
  obtain ⟨v, rfl, r2⟩ := vals1R r1
  obtain ⟨a, xs, rfl, hs, hr⟩ := vRd_ok k1 r2 hv
  have e : (ds.mapIdx fun i d => D.tup [.int (i : Nat), d]).length = ds.length := List.length_mapIdx
  refine ⟨a, xs, rfl, hs, RR S1 _ _ _ e1 k1 ⟨fun H => ∃ S', S'.H = H ∧ Ev S1 S' ∧ Ok X.K S' ∧ vRd S'.L x = some ds, (Ite X.K a).yld, ⟨fun i H hi g => ?_, fun H g => ?_, fun i H y H' _ _ q => q⟩, fun S' e k g => ⟨S', rfl, e, k, g⟩, fun S' i y H' e' k g hi q => ?_⟩ h1⟩
  · obtain ⟨S', rfl, e', k, g⟩ := g
    obtain ⟨b, eb, ys, hs', hr'⟩ := rd_at k1 r2 hv e' k g
    cases eb
    have hl := hr'.length
    rw [e] at hi
    exact ⟨ys, ys[i]'(by omega), hs', List.getElem?_eq_getElem (by omega)⟩
  · obtain ⟨S', rfl, e', k, g⟩ := g
    obtain ⟨b, eb, ys, hs', hr'⟩ := rd_at k1 r2 hv e' k g
    cases eb
    exact ⟨ys, hs', by rw [e]; exact Nat.le_of_eq hr'.length⟩
  · obtain ⟨T, z, rfl, nT, rfl, q⟩ := q
    obtain ⟨b, eb, ys, hs', hr'⟩ := rd_at k1 r2 hv e' k g
    cases eb
    rw [e] at hi
    obtain ⟨z', hz, rz⟩ := hr'.get (List.getElem?_eq_getElem hi)
    rw [q ys hs'] at hz
    cases hz
    have ev := ev_new (o := .tup [.int (i : Nat), z]) nT k
    refine ⟨S'.new T (.tup [.int (i : Nat), z]), .tup [.int (i : Nat), ds[i]], rfl, rfl, ev, ok_new nT k, ?_, .tup (k.lam nT) upd_same (.cons (.int _) (.cons (rz.ev ev) .nil))⟩
    rw [List.getElem?_mapIdx, List.getElem?_eq_getElem hi]; rfl
theorem di_zip {q tpos : Pos} {elts : List Expr} {kk : Nat} (hK : X.K = K) (hg : Gl X "zip") (hm : X.mg "zip" = none) (ha : DA X K tr [a, b] dr)
    (hs : starEach [a, b] X.env = (false, eval a X.env) :: starEach [b] X.env := by rfl) (hpl : (backTo pos (starEach [b] X.env)).any (·.1) = false := by rfl) :
    DI X K (fun W => iZip K (tr W)) (.Tuple elts kk tpos) (.Call (.Name "zip" q) [a, b] [] pos) (diZip dr) := by
  subst hK
  refine ⟨fun W t => pi_zip hg hm (ha.pa W t) hs hpl, fun W ew S σ ρ R k I RR h => ?_⟩
  refine ha.sim W ew S σ ρ _ _ I (fun S1 vs xs e1 k1 r1 h1 => ?_) h
  obtain ⟨x, y, ds, es, rfl, hv, hw, h1⟩ := h1
  obtain ⟨v, w, rfl, r2, r3⟩ := vals2R r1
  obtain ⟨a, xs, rfl, hs, hr⟩ := vRd_ok k1 r2 hv
  obtain ⟨b, ys, rfl, hs2, hr2⟩ := vRd_ok k1 r3 hw
  have e : (List.zipWith (fun d e => D.tup [d, e]) ds es).length = min ds.length es.length := List.length_zipWith
  refine ⟨a, b, xs, ys, rfl, hs, hs2, RR S1 _ _ _ e1 k1 ⟨fun H => ∃ S', S'.H = H ∧ Ev S1 S' ∧ Ok X.K S' ∧ vRd S'.L x = some ds ∧ vRd S'.L y = some es, (Itz X.K a b).yld, ⟨fun i H hi g => ?_, fun H g => ?_, fun i H y H' _ _ q => q⟩, fun S' e k g => ⟨S', rfl, e, k, g⟩, fun S' i z H' e' k g hi q => ?_⟩ h1⟩
  · obtain ⟨S', rfl, e', k, g⟩ := g
    obtain ⟨_, eb, us, hs', hr'⟩ := rd_at k1 r2 hv e' k g.1
    cases eb
    obtain ⟨_, eb, ws, hs2', hr2'⟩ := rd_at k1 r3 hw e' k g.2
    cases eb
    have l1 := hr'.length
    have l2 := hr2'.length
    rw [e] at hi
    exact ⟨us, ws, us[i]'(by omega), ws[i]'(by omega), hs', hs2', List.getElem?_eq_getElem (by omega), List.getElem?_eq_getElem (by omega)⟩
  · obtain ⟨S', rfl, e', k, g⟩ := g
    obtain ⟨_, eb, us, hs', hr'⟩ := rd_at k1 r2 hv e' k g.1
    cases eb
    obtain ⟨_, eb, ws, hs2', hr2'⟩ := rd_at k1 r3 hw e' k g.2
    cases eb
    have l1 := hr'.length
    have l2 := hr2'.length
    exact ⟨us, ws, hs', hs2', by rw [e]; omega⟩
  · obtain ⟨T, z1, z2, rfl, nT, rfl, q1, q2⟩ := q
    obtain ⟨_, eb, us, hs', hr'⟩ := rd_at k1 r2 hv e' k g.1
    cases eb
    obtain ⟨_, eb, ws, hs2', hr2'⟩ := rd_at k1 r3 hw e' k g.2
    cases eb
    rw [e] at hi
    have i1 : i < ds.length := by omega
    have i2 : i < es.length := by omega
    obtain ⟨z1', hz1, rz1⟩ := hr'.get (List.getElem?_eq_getElem i1)
    obtain ⟨z2', hz2, rz2⟩ := hr2'.get (List.getElem?_eq_getElem i2)
    rw [q1 us hs'] at hz1
    rw [q2 ws hs2'] at hz2
    cases hz1; cases hz2
    have ev := ev_new (o := .tup [z1, z2]) nT k
    refine ⟨S'.new T (.tup [z1, z2]), .tup [ds[i], es[i]], rfl, rfl, ev, ok_new nT k, ?_, .tup (k.lam nT) upd_same (.cons (rz1.ev ev) (.cons (rz2.ev ev) .nil))⟩
    rw [List.getElem?_zipWith, List.getElem?_eq_getElem i1, List.getElem?_eq_getElem i2]
end
end Ed

set_option Elab.async false
set_option linter.all false
set_option maxRecDepth 100000
set_option maxHeartbeats 2000000
/-! for, comprehensions, while. -/
namespace Ed
open PySem PySem.Spec PyProof.Rows L2 Dz
def forD (g : D → Dv → Lc → (Dv → Lc → Prop) → Prop) (tb : DEnds → Dv → Lc → Prop) (G : Lc → Prop) (E : DEnds) : List D → Dv → Lc → Prop
  | [], ρ, L => G L ∧ E.nx ρ L
  | d :: ds, ρ, L => G L ∧ g d ρ L fun ρ1 L1 => tb ⟨forD g tb G E ds, E.rt, E.nx, forD g tb G E ds⟩ ρ1 L1
theorem forD.head {g : D → Dv → Lc → (Dv → Lc → Prop) → Prop} {tb : DEnds → Dv → Lc → Prop} {G : Lc → Prop} {E : DEnds} {ds : List D} {ρ : Dv} {L : Lc} (h : forD g tb G E ds ρ L) : G L := by
  cases ds <;> exact h.1
def dFor (di : DTI) (g : DTG) (tb : DTS) : DTS := fun w D ρ L => di w ρ L fun ds G L1 => forD (g w) (tb w) G D ds ρ L1
def lcD (g : D → Dv → Lc → (Dv → Lc → Prop) → Prop) (tt : Dv → Lc → (Bool → Lc → Prop) → Prop) (te : Dv → Lc → DQ → Prop) (G : Lc → Prop) (ρ : Dv) (q : List D → Lc → Prop) : List D → List D → Lc → Prop
  | [], acc, L => G L ∧ q acc L
  | d :: ds, acc, L => G L ∧ g d ρ L fun ρ2 L2 => tt ρ2 L2 fun b L3 => if b = true then te ρ2 L3 fun y L4 => acc.length < sizeLine ∧ lcD g tt te G ρ q ds (acc ++ [y]) L4 else lcD g tt te G ρ q ds acc L3
theorem lcD.head {g : D → Dv → Lc → (Dv → Lc → Prop) → Prop} {tt : Dv → Lc → (Bool → Lc → Prop) → Prop} {te : Dv → Lc → DQ → Prop} {G : Lc → Prop} {ρ : Dv} {q : List D → Lc → Prop} {ds acc : List D} {L : Lc} (h : lcD g tt te G ρ q ds acc L) : G L := by
  cases ds <;> exact h.1
def noW : EW := fun _ _ _ _ => False
def dLc (di : DTI) (g : DTG) (tt : DTT) (te : DTE) (vs : List Nat) : DTE := fun w ρ L q => di w ρ L fun ds G L1 => lcD (g noW) (tt noW) (te noW) G (dwipe ρ vs) (fun acc L2 => q (.lst acc) L2) ds [] L1
/-- .. whose list may change -/
def dLcC (di : DTI) (g : DTG) (tt : DTT) (te : DTE) (vs : List Nat) : DTE := fun w ρ L q => di w ρ L fun ds G L1 => lcD (g noW) (tt noW) (te noW) G (dwipe ρ vs) (fun acc L2 => ∀ p, L2 p = none → q (.ref p) (updL L2 p (.lst acc))) ds [] L1
def dYes : DTT := fun _ _ L q => q true L
section
variable {X : Cx} {K : PySem.W.Frag}
structure DPs (X : Cx) (K : PySem.W.Frag) (tt : WX → TT) (es : List Expr) (dt : DTT) : Prop where
  pt : ∀ W, Takes X W → PTs X es (tt W)
  sim : SimT K tt dt
theorem dps_nil : DPs X K (fun _ => tYes) [] dYes := ⟨fun _ _ => pts_nil, fun W ew S σ ρ Q q I R h => R S true (.refl S) I.ok h⟩
theorem dps_one {c : Expr} {tt : WX → TT} {dt : DTT} (h : DT X K tt c dt) : DPs X K tt [c] dt := ⟨fun W t => pts_one (h.pt W t), h.sim⟩
/-- the target's names are the block's own -/
def GW (tg : WX → TG) (vs : List Nat) : Prop := ∀ W v σ H (N : L2.St → Hp → Prop), tg W v (wipe σ vs) H N → tg W v (wipe σ vs) H fun σ2 H2 => wipe σ2 vs = wipe σ vs ∧ N σ2 H2
theorem wipe_get (σ : L2.St) (k : Nat) : ∀ vs : List Nat, (wipe σ vs)[k]? = if k ∈ vs then (if k < σ.length then some none else none) else σ[k]?
  | [] => by simp [wipe]
  | v :: vs => by
    have ih := wipe_get σ k vs
    have hl := wipe_length σ vs
    unfold wipe
    by_cases e : v = k
    · subst e
      rw [if_pos List.mem_cons_self]
      by_cases h : v < σ.length
      · rw [if_pos h, List.getElem?_set_self (by omega)]
      · rw [if_neg h, List.getElem?_eq_none (by rw [List.length_set]; omega)]
    · rw [List.getElem?_set_ne e, ih]
      have : (k ∈ v :: vs) ↔ k ∈ vs := ⟨fun h => (List.mem_cons.mp h).elim (fun z => absurd z.symm e) id, List.mem_cons_of_mem _⟩
      simp only [this]
theorem wipe_ext {σ τ : L2.St} {vs : List Nat} (hl : σ.length = τ.length) (h : ∀ k, k ∉ vs → σ[k]? = τ[k]?) : wipe σ vs = wipe τ vs := by
  apply List.ext_getElem?
  intro k
  rw [wipe_get, wipe_get, hl]
  by_cases e : k ∈ vs
  · rw [if_pos e, if_pos e]
  · rw [if_neg e, if_neg e, h k e]
theorem wipe_sets {σ : L2.St} {vs : List Nat} : ∀ (ps : List (Nat × Option V)), (∀ p ∈ ps, p.1 ∈ vs) → wipe (ps.foldl (fun s p => s.set p.1 p.2) (wipe σ vs)) vs = wipe σ vs := fun ps hp => by
  have key : ∀ (ps : List (Nat × Option V)) (τ : L2.St), (∀ p ∈ ps, p.1 ∈ vs) → τ.length = σ.length → (∀ k, k ∉ vs → τ[k]? = σ[k]?) → wipe (ps.foldl (fun s p => s.set p.1 p.2) τ) vs = wipe σ vs := by
    intro ps
    induction ps with
    | nil => exact fun τ _ hl h => wipe_ext hl h
    | cons p ps ih =>
      intro τ hp hl h
      refine ih (τ.set p.1 p.2) (fun q hq => hp q (List.mem_cons_of_mem _ hq)) (by rw [List.length_set]; exact hl) fun k hk => ?_
      rw [List.getElem?_set_ne (fun z => hk (by rw [← z]; exact hp p List.mem_cons_self))]
      exact h k hk
  refine key ps _ hp (wipe_length σ vs) fun k hk => ?_
  rw [wipe_get, if_neg hk]
theorem gw1 {i : Nat} : GW (fun _ => gName i) [i] := fun W v σ H N h => ⟨wipe_sets [(i, some v)] (by simp), h⟩
theorem gw2 {i j n : Nat} : GW (fun _ => gTup K n (gCons (gName i) (gCons (gName j) gNil))) [i, j] := fun W v σ H N h => by
  obtain ⟨a, xs, rfl, h1, h2, v1, r1, e1, v2, r2, e2, e3, h⟩ := h
  exact ⟨a, xs, rfl, h1, h2, v1, r1, e1, v2, r2, e2, e3, wipe_sets [(i, some v1), (j, some v2)] (by simp), h⟩
theorem gw3 {i j l n : Nat} : GW (fun _ => gTup K n (gCons (gName i) (gCons (gName j) (gCons (gName l) gNil)))) [i, j, l] := fun W v σ H N h => by
  obtain ⟨a, xs, rfl, h1, h2, v1, r1, e1, v2, r2, e2, v3, r3, e3, e4, h⟩ := h
  exact ⟨a, xs, rfl, h1, h2, v1, r1, e1, v2, r2, e2, v3, r3, e3, e4, wipe_sets [(i, some v1), (j, some v2), (l, some v3)] (by simp), h⟩
/-- .. at one state -/
def SimI1 (K : PySem.W.Frag) (wi : WX → TI) (di : DTI) (W : WX) (ew : EW) (S : Sta) (σ : L2.St) (ρ : Dv) : Prop := ∀ (R : It → Hp → Prop) (k : List D → (Lc → Prop) → Lc → Prop), (∀ S' J ds g, Ev S S' → Ok K S' → ItOk K S' J ds g → k ds g S'.L → R J S'.H) → di ew ρ S.L k → wi W σ S.H R
theorem for_sim1 {wi : WX → TI} {di : DTI} {tg : WX → TG} {dg : DTG} {tb : WX → TS} {db : DTS} (hg : SimG K tg dg) (hb : SimS K tb db) (W : WX) (ew : EW) (S : Sta) (σ : L2.St) (ρ : Dv) (D : Ends) (d : DEnds) (I : In K W ew S σ ρ) (R : RelD K S D d) (hi : SimI1 K wi di W ew S σ ρ)
    (h : di ew ρ S.L fun ds G L1 => forD (dg ew) (db ew) G d ds ρ L1) : tFor (wi W) (tg W) (tb W) D σ S.H := by
  refine hi _ _ (fun S1 J ds G e1 k1 it h1 => ?_) h
  obtain ⟨Gd, Y, w, hG, hY⟩ := it.ex
  refine for_it w (fun i σ H => ∃ S2 ρ2, S2.H = H ∧ Ev S1 S2 ∧ Ok K S2 ∧ RelS K S2 σ ρ2 ∧ forD (dg ew) (db ew) G d (ds.drop i) ρ2 S2.L) ⟨S1, ρ, rfl, .refl S1, k1, I.sl.ev e1, h1⟩ (fun i σ H hi p => ?_) (fun i x σ H H' hi p y => ?_) fun σ H p => ?_
  · obtain ⟨S2, ρ2, rfl, e2, k2, s2, h2⟩ := p
    exact hG S2 e2 k2 h2.head
  · obtain ⟨S2, ρ2, rfl, e2, k2, s2, h2⟩ := p
    obtain ⟨S3, dd, rfl, eL, e3, k3, hd, rd⟩ := hY S2 i x H' e2 k2 h2.head hi y
    rw [List.drop_eq_getElem_cons hi] at h2
    rw [List.getElem?_eq_getElem hi] at hd
    cases hd
    have e13 := e1.trans (e2.trans e3)
    have h3 := h2.2
    rw [← eL] at h3
    refine hg W ew S3 σ ρ2 x _ _ _ ⟨k3, s2.ev e3, I.wi.ev e13⟩ rd (fun S4 σ4 ρ4 e4 k4 s4 h4 => ?_) h3
    refine hb W ew S4 σ4 ρ4 _ ⟨forD (dg ew) (db ew) G d (ds.drop (i + 1)), d.rt, d.nx, forD (dg ew) (db ew) G d (ds.drop (i + 1))⟩ ⟨k4, s4, I.wi.ev (e13.trans e4)⟩ ⟨fun S5 σ5 ρ5 e5 k5 s5 h5 => ?_, R.rt.ev (e13.trans e4), R.nx.ev (e13.trans e4), fun S5 σ5 ρ5 e5 k5 s5 h5 => ?_⟩ h4
    · exact ⟨S5, ρ5, rfl, ((e2.trans e3).trans e4).trans e5, k5, s5, h5⟩
    · exact ⟨S5, ρ5, rfl, ((e2.trans e3).trans e4).trans e5, k5, s5, h5⟩
  · obtain ⟨S2, ρ2, rfl, e2, k2, s2, h2⟩ := p
    rw [List.drop_length] at h2
    exact R.nx S2 σ ρ2 (e1.trans e2) k2 s2 h2.2
theorem ds_for {tge iter : Expr} {body : List Stmt} {wi : WX → TI} {di : DTI} {tg : WX → TG} {dg : DTG} {tb : WX → TS} {db : DTS} {pos : Pos} (hp : PassesOwn (model X.prog X.w) X.A X.env X.xe) (hc : X.calm = true) (hi : DI X K wi tge iter di) (hg : DG X K tg tge dg) (hb : DSs X K tb body db)
    (hs : ∀ x, foldedSetIterable iter X.env x = pure x := by intro _; rfl) : DS X K (fun W => tFor (wi W) (tg W) (tb W)) (.For tge iter body [] pos) (dFor di dg db) := by
  exact ⟨fun W t => ps_for hp hc (hi.pi W t) (hg.pg W t) (hb.ps W t) hs, fun W ew S σ ρ D d I R h => for_sim1 hg.sim hb.sim W ew S σ ρ D d I R (fun R k => hi.sim W ew S σ ρ R k I) h⟩
/-- a cell that wasn't known is -/
theorem Ok.known {S : Sta} {p : Addr} {xs : List V} {acc : List D} (k : Ok K S) (q1 : S.Λ p) (h : S.H p = some (.lst xs)) (r : RpL K S.H S.Λ xs acc) : Ok K ⟨S.H, updL S.L p (.lst acc), S.Λ⟩ := by
  refine ⟨fun b c hb => ?_, k.there⟩
  by_cases z : b = p
  · rw [z]
    rw [z, show (⟨S.H, updL S.L p (.lst acc), S.Λ⟩ : Sta).L p = some (.lst acc) from updL_same] at hb
    cases hb
    exact ⟨q1, xs, h, r⟩
  · rw [show (⟨S.H, updL S.L p (.lst acc), S.Λ⟩ : Sta).L b = S.L b from updL_ne z] at hb
    exact k.cell b c hb
theorem lc_sim {wi : WX → TI} {di : DTI} {tg : WX → TG} {dg : DTG} {tt : WX → TT} {dt : DTT} {te : WX → TE} {de : DTE} {vs : List Nat} (hg : SimG K tg dg) (hw : GW tg vs) (ht : SimT K tt dt) (he : SimE K te de) (W : WX) (ew : EW) (S : Sta) (σ : L2.St) (ρ : Dv) (Q : VK) (q : List D → Lc → Prop)
    (I : In K W ew S σ ρ) (hi : SimI1 K wi di W ew S σ ρ) (R : ∀ S' p acc xs, Ev S S' → Ok K S' → (∀ a, S.Λ a → S.L a = none → a ≠ p) → S'.Λ p → S'.L p = none → S'.H p = some (.lst xs) → RpL K S'.H S'.Λ xs acc → q acc S'.L → Q (.ref p) S'.H)
    (h : di ew ρ S.L fun ds G L1 => lcD (dg noW) (dt noW) (de noW) G (dwipe ρ vs) q ds [] L1) : tLc (wi W) (tg fun _ _ _ _ => False) (tt fun _ _ _ _ => False) (te fun _ _ _ _ => False) vs σ S.H Q := by
  refine hi _ _ (fun S1 J ds G e1 k1 it h1 => ?_) h
  obtain ⟨Gd, Y, w, hG, hY⟩ := it.ex
  intro p np
  have pl : S1.L p = none := k1.lno np
  have wN : ∀ S', RelW K S' (fun _ _ _ _ => False) noW := fun S' T C dd fs gs σ ρ _ _ _ _ _ _ _ z => z.elim
  -- p: the new list's address
  refine lc_it w (fun i H => ∃ S2 acc xs, S2.H = H ∧ Ev S1 S2 ∧ Ok K S2 ∧ S2.Λ p ∧ S2.L p = none ∧ S2.H p = some (.lst xs) ∧ RpL K S2.H S2.Λ xs acc ∧ lcD (dg noW) (dt noW) (de noW) G (dwipe ρ vs) q (ds.drop i) acc S2.L) ?_ (fun i H hi p => ?_) (fun i x H H' hi p y => ?_) fun H p => ?_
  · have a1 := ev_newc (o := .lst []) (c := .lst []) np k1
    have a2 := ok_newc (K := K) (o := .lst []) (c := .lst []) np k1 ⟨[], upd_same, .nil⟩
    have fewer : ∀ a c, S1.L a = some c → (S1.newc p (.lst []) (.lst [])).L a = some c := fun a c e => by
      have : a ≠ p := fun z => by rw [z, pl] at e; cases e
      exact (updL_ne this).trans e
    exact ⟨(S1.newc p (.lst []) (.lst [])).gone S1.L, [], [], rfl, a1.trans (ev_gone fewer), ok_gone fewer a2, .inl rfl, pl, upd_same, .nil, h1⟩
  · obtain ⟨S2, acc, xs, rfl, e2, k2, _, _, _, _, h2⟩ := p
    exact hG S2 e2 k2 h2.head
  · obtain ⟨S2, acc, xs, rfl, e2, k2, p1, p2, p3, p4, h2⟩ := p
    obtain ⟨S3, dd, rfl, eL, e3, k3, hd, rd⟩ := hY S2 i x H' e2 k2 h2.head hi y
    rw [List.drop_eq_getElem_cons hi] at h2
    rw [List.getElem?_eq_getElem hi] at hd
    cases hd
    have h3 := h2.2
    rw [← eL] at h3
    have e13 := e2.trans e3
    refine hw _ x σ S3.H _ ?_
    refine hg _ noW S3 _ _ x _ _ _ ⟨k3, ((I.sl.ev e1).ev e13).wipe, wN S3⟩ rd (fun S4 σ4 ρ4 e4 k4 s4 h4 => ?_) h3
    refine ht _ noW S4 σ4 ρ4 _ _ ⟨k4, s4, wN S4⟩ (fun S5 b e5 k5 h5 => ?_) h4
    have e25 := (e3.trans e4).trans e5
    obtain ⟨p3', p1', p2'⟩ := e25.hid p p1 p2
    cases b with
    | false => exact ⟨S5, acc, xs, rfl, e2.trans e25, k5, p1', p2', p3'.trans p3, p4.ev e25, h5⟩
    | true =>
      refine he _ noW S5 σ4 ρ4 _ _ ⟨k5, s4.ev e5, wN S5⟩ (fun S6 v y e6 k6 r6 h6 => ?_) h5
      have e26 := e25.trans e6
      obtain ⟨q3, q1, q2⟩ := e26.hid p p1 p2
      have la := p4.length
      refine ⟨xs, q3.trans p3, by rw [la]; exact h6.1, ?_⟩
      -- p as a known cell, changed, and forgotten again
      have known : Ok K ⟨S6.H, updL S6.L p (.lst acc), S6.Λ⟩ := by
        refine ⟨fun b c hb => ?_, k6.there⟩
        by_cases z : b = p
        · rw [z]
          rw [z, show (⟨S6.H, updL S6.L p (.lst acc), S6.Λ⟩ : Sta).L p = some (.lst acc) from updL_same] at hb
          cases hb
          exact ⟨q1, xs, q3.trans p3, p4.ev e26⟩
        · rw [show (⟨S6.H, updL S6.L p (.lst acc), S6.Λ⟩ : Sta).L b = S6.L b from updL_ne z] at hb
          exact k6.cell b c hb
      have z0 : (⟨S6.H, updL S6.L p (.lst acc), S6.Λ⟩ : Sta).L p = some (.lst acc) := updL_same
      have b1 := ev_put (o := .lst (xs ++ [v])) (c := .lst (acc ++ [y])) z0 known
      have rr : RpL K S6.H S6.Λ (xs ++ [v]) (acc ++ [y]) := (p4.ev e26).append (.cons r6 .nil)
      have rr' := RpL.ev (S := ⟨S6.H, updL S6.L p (.lst acc), S6.Λ⟩) b1 rr
      have b2 := ok_put (K := K) (o := .lst (xs ++ [v])) (c := .lst (acc ++ [y])) z0 known ⟨_, upd_same, rr'⟩
      have fewer : ∀ a c, S6.L a = some c → ((⟨S6.H, updL S6.L p (.lst acc), S6.Λ⟩ : Sta).put p (.lst (xs ++ [v])) (.lst (acc ++ [y]))).L a = some c := fun a c e => by
        have : a ≠ p := fun z => by rw [z, q2] at e; cases e
        exact (updL_ne this).trans ((updL_ne this).trans e)
      have st : Ev S1 ⟨S6.H, updL S6.L p (.lst acc), S6.Λ⟩ := by
        have e16 := e2.trans e26
        refine ⟨e16.stay, fun a h n => ?_⟩
        obtain ⟨z1, z2, z3⟩ := e16.hid a h n
        refine ⟨z1, z2, ?_⟩
        have : a ≠ p := fun z => by rw [z] at h; exact k1.lam np h
        exact (updL_ne this).trans z3
      exact ⟨((⟨S6.H, updL S6.L p (.lst acc), S6.Λ⟩ : Sta).put p (.lst (xs ++ [v])) (.lst (acc ++ [y]))).gone S6.L, acc ++ [y], xs ++ [v], rfl, (st.trans b1).trans (ev_gone fewer), ok_gone fewer b2, q1, q2, upd_same, rr', h6.2⟩
  · obtain ⟨S2, acc, xs, rfl, e2, k2, p1, p2, p3, p4, h2⟩ := p
    rw [List.drop_length] at h2
    exact R S2 p acc xs (e1.trans e2) k2 (fun a h n z => k1.lam (p := a) (by rw [z]; exact np) (e1.hid a h n).2.1) p1 p2 p3 p4 h2.2
theorem sim_lc1 {wi : WX → TI} {di : DTI} {tg : WX → TG} {dg : DTG} {tt : WX → TT} {dt : DTT} {te : WX → TE} {de : DTE} {vs : List Nat} (hg : SimG K tg dg) (hw : GW tg vs) (ht : SimT K tt dt) (he : SimE K te de) (W : WX) (ew : EW) (S : Sta) (σ : L2.St) (ρ : Dv) (Q : VK) (q : DQ) (I : In K W ew S σ ρ) (R : RelQ K S Q q) (hi : SimI1 K wi di W ew S σ ρ) (h : dLc di dg dt de vs ew ρ S.L q) : tLc (wi W) (tg fun _ _ _ _ => False) (tt fun _ _ _ _ => False) (te fun _ _ _ _ => False) vs σ S.H Q :=
  lc_sim hg hw ht he W ew S σ ρ Q _ I hi (fun S' p acc xs e k pn p1 p2 p3 r qq => by
    have st : Ev S ⟨S'.H, S'.L, fun b => S'.Λ b ∧ b ≠ p⟩ := ⟨fun b u h n => by
      obtain ⟨z1, z2⟩ := e.stay b u h n
      exact ⟨fun z => z1 z.1, z2⟩, fun b h n => by
      obtain ⟨z1, z2, z3⟩ := e.hid b h n
      exact ⟨z1, ⟨z2, pn b h n⟩, z3⟩⟩
    have known : Ok K ⟨S'.H, updL S'.L p (.lst acc), S'.Λ⟩ := k.known p1 p3 r
    have z0 : (⟨S'.H, updL S'.L p (.lst acc), S'.Λ⟩ : Sta).L p = some (.lst acc) := updL_same
    have fz := ok_fz z0 known
    have r' := RpL.ev (S := ⟨S'.H, updL S'.L p (.lst acc), S'.Λ⟩) (ev_fz z0) r
    have eL : (Sta.fz ⟨S'.H, updL S'.L p (.lst acc), S'.Λ⟩ p) = ⟨S'.H, S'.L, fun b => S'.Λ b ∧ b ≠ p⟩ := by
      unfold Sta.fz
      rw [delL_updL p2]
    rw [eL] at fz r'
    exact R ⟨S'.H, S'.L, fun b => S'.Λ b ∧ b ≠ p⟩ _ _ st fz (.lst (fun z => z.2 rfl) p3 r') qq) h
theorem sim_lc {wi : WX → TI} {di : DTI} {tg : WX → TG} {dg : DTG} {tt : WX → TT} {dt : DTT} {te : WX → TE} {de : DTE} {vs : List Nat} (hi : SimI K wi di) (hg : SimG K tg dg) (hw : GW tg vs) (ht : SimT K tt dt) (he : SimE K te de) :
    SimE K (fun W => tLc (wi W) (tg fun _ _ _ _ => False) (tt fun _ _ _ _ => False) (te fun _ _ _ _ => False) vs) (dLc di dg dt de vs) := fun W ew S σ ρ Q q I R h => sim_lc1 hg hw ht he W ew S σ ρ Q q I R (fun R k => hi W ew S σ ρ R k I) h
theorem sim_lcC1 {wi : WX → TI} {di : DTI} {tg : WX → TG} {dg : DTG} {tt : WX → TT} {dt : DTT} {te : WX → TE} {de : DTE} {vs : List Nat} (hg : SimG K tg dg) (hw : GW tg vs) (ht : SimT K tt dt) (he : SimE K te de) (W : WX) (ew : EW) (S : Sta) (σ : L2.St) (ρ : Dv) (Q : VK) (q : DQ) (I : In K W ew S σ ρ) (R : RelQ K S Q q) (hi : SimI1 K wi di W ew S σ ρ) (h : dLcC di dg dt de vs ew ρ S.L q) : tLc (wi W) (tg fun _ _ _ _ => False) (tt fun _ _ _ _ => False) (te fun _ _ _ _ => False) vs σ S.H Q :=
  lc_sim hg hw ht he W ew S σ ρ Q _ I hi (fun S' p acc xs e k pn p1 p2 p3 r qq => by
    have st : Ev S ⟨S'.H, updL S'.L p (.lst acc), S'.Λ⟩ := ⟨e.stay, fun b h n => by
      obtain ⟨z1, z2, z3⟩ := e.hid b h n
      exact ⟨z1, z2, (updL_ne (pn b h n)).trans z3⟩⟩
    exact R ⟨S'.H, updL S'.L p (.lst acc), S'.Λ⟩ _ _ st (k.known p1 p3 r) (.ref p) (qq p p2)) h
theorem sim_lcC {wi : WX → TI} {di : DTI} {tg : WX → TG} {dg : DTG} {tt : WX → TT} {dt : DTT} {te : WX → TE} {de : DTE} {vs : List Nat} (hi : SimI K wi di) (hg : SimG K tg dg) (hw : GW tg vs) (ht : SimT K tt dt) (he : SimE K te de) :
    SimE K (fun W => tLc (wi W) (tg fun _ _ _ _ => False) (tt fun _ _ _ _ => False) (te fun _ _ _ _ => False) vs) (dLcC di dg dt de vs) := fun W ew S σ ρ Q q I R h => sim_lcC1 hg hw ht he W ew S σ ρ Q q I R (fun R k => hi W ew S σ ρ R k I) h
variable {elt tge iter : Expr} {ifs : List Expr} {scope : Scope} {own : List (Str × Nat)} {pos spos py : Pos} {wi : WX → TI} {di : DTI} {tg : WX → TG} {dg : DTG} {tt : WX → TT} {dt : DTT} {te : WX → TE} {de : DTE} {vs : List Nat}
abbrev Blk (X : Cx) (scope : Scope) (P : Cx → Prop) : Prop := ∀ (s : Shared) (H : Hp) (C : Addr) (cl : List (Str × Addr)) (fp : List Addr), P (X.blk s H scope (compEnvC scope cl C X.env) fp)
theorem d_lc (hc : X.calm = true) (hN : X.N.Nodup) (hi : DI X K wi tge iter di) (ok : BlkOk X.N X.env.scope scope own) (hg : Blk X scope fun Y => DG Y K tg tge dg) (hw : GW tg (own.map (·.2))) (ht : Blk X scope fun Y => DPs Y K tt ifs dt) (he : Blk X scope fun Y => DE Y K te elt de)
    (hs : ∀ x, foldedSetIterable iter X.env x = pure x := by intro _; rfl) :
    DE X K (fun W => tLc (wi W) (tg fun _ _ _ _ => False) (tt fun _ _ _ _ => False) (te fun _ _ _ _ => False) (own.map (·.2))) (.ListComp elt [⟨tge, iter, ifs, 0⟩] scope pos) (dLc di dg dt de (own.map (·.2))) :=
  ⟨fun W t => pe_lc hc hN (hi.pi W t) ok (fun s H C cl fp => (hg s H C cl fp).pg _ takes0) (fun s H C cl fp => (ht s H C cl fp).pt _ takes0) (fun s H C cl fp => (he s H C cl fp).pe _ takes0) hs,
    sim_lc hi.sim (hg {} (fun _ => none) 0 [] []).sim hw (ht {} (fun _ => none) 0 [] []).sim (he {} (fun _ => none) 0 [] []).sim⟩
theorem d_lcC (hc : X.calm = true) (hN : X.N.Nodup) (hi : DI X K wi tge iter di) (ok : BlkOk X.N X.env.scope scope own) (hg : Blk X scope fun Y => DG Y K tg tge dg) (hw : GW tg (own.map (·.2))) (ht : Blk X scope fun Y => DPs Y K tt ifs dt) (he : Blk X scope fun Y => DE Y K te elt de)
    (hs : ∀ x, foldedSetIterable iter X.env x = pure x := by intro _; rfl) :
    DE X K (fun W => tLc (wi W) (tg fun _ _ _ _ => False) (tt fun _ _ _ _ => False) (te fun _ _ _ _ => False) (own.map (·.2))) (.ListComp elt [⟨tge, iter, ifs, 0⟩] scope pos) (dLcC di dg dt de (own.map (·.2))) :=
  ⟨fun W t => pe_lc hc hN (hi.pi W t) ok (fun s H C cl fp => (hg s H C cl fp).pg _ takes0) (fun s H C cl fp => (ht s H C cl fp).pt _ takes0) (fun s H C cl fp => (he s H C cl fp).pe _ takes0) hs,
    sim_lcC hi.sim (hg {} (fun _ => none) 0 [] []).sim hw (ht {} (fun _ => none) 0 [] []).sim (he {} (fun _ => none) 0 [] []).sim⟩
theorem ds_setLc {i : Nat} {y : Str} (hc : X.calm = true) (hN : X.N.Nodup) (hy : X.N[i]? = some y) (hyl : X.env.scope.names.lookup y = some .local) (hsw : swapsWith (.ListComp elt [⟨tge, iter, ifs, 0⟩] scope pos) (some (.Name y py)) spos.line X.env = pure true)
    (hi : DI X K wi tge iter di) (ok : BlkOk X.N X.env.scope scope own) (hg : Blk X scope fun Y => DG Y K tg tge dg) (hw : GW tg (own.map (·.2))) (ht : Blk X scope fun Y => DPs Y K tt ifs dt) (he : Blk X scope fun Y => DE Y K te elt de)
    (hs : ∀ x, foldedSetIterable iter X.env x = pure x := by intro _; rfl) :
    DS X K (fun W => tAsg (tLc (wi W) (tg fun _ _ _ _ => False) (tt fun _ _ _ _ => False) (te fun _ _ _ _ => False) (own.map (·.2))) (gName i)) (.Assign [.Name y py] (.ListComp elt [⟨tge, iter, ifs, 0⟩] scope pos) spos) (dSet i (dLc di dg dt de (own.map (·.2)))) := by
  refine ⟨fun W t => ps_setLc hc hN hy hyl hsw (hi.pi W t) ok (fun s H C cl fp => (hg s H C cl fp).pg _ takes0) (fun s H C cl fp => (ht s H C cl fp).pt _ takes0) (fun s H C cl fp => (he s H C cl fp).pe _ takes0) hs, fun W ew S σ ρ D d I R h => ?_⟩
  exact (sim_lc hi.sim (hg {} (fun _ => none) 0 [] []).sim hw (ht {} (fun _ => none) 0 [] []).sim (he {} (fun _ => none) 0 [] []).sim) W ew S σ ρ _ _ I (fun S1 v x e1 k1 r1 h1 => R.nx S1 _ _ e1 k1 ((I.sl.ev e1).set r1) h1) h
theorem ds_setLcC {i : Nat} {y : Str} (hc : X.calm = true) (hN : X.N.Nodup) (hy : X.N[i]? = some y) (hyl : X.env.scope.names.lookup y = some .local) (hsw : swapsWith (.ListComp elt [⟨tge, iter, ifs, 0⟩] scope pos) (some (.Name y py)) spos.line X.env = pure true)
    (hi : DI X K wi tge iter di) (ok : BlkOk X.N X.env.scope scope own) (hg : Blk X scope fun Y => DG Y K tg tge dg) (hw : GW tg (own.map (·.2))) (ht : Blk X scope fun Y => DPs Y K tt ifs dt) (he : Blk X scope fun Y => DE Y K te elt de)
    (hs : ∀ x, foldedSetIterable iter X.env x = pure x := by intro _; rfl) :
    DS X K (fun W => tAsg (tLc (wi W) (tg fun _ _ _ _ => False) (tt fun _ _ _ _ => False) (te fun _ _ _ _ => False) (own.map (·.2))) (gName i)) (.Assign [.Name y py] (.ListComp elt [⟨tge, iter, ifs, 0⟩] scope pos) spos) (dSet i (dLcC di dg dt de (own.map (·.2)))) := by
  refine ⟨fun W t => ps_setLc hc hN hy hyl hsw (hi.pi W t) ok (fun s H C cl fp => (hg s H C cl fp).pg _ takes0) (fun s H C cl fp => (ht s H C cl fp).pt _ takes0) (fun s H C cl fp => (he s H C cl fp).pe _ takes0) hs, fun W ew S σ ρ D d I R h => ?_⟩
  exact (sim_lcC hi.sim (hg {} (fun _ => none) 0 [] []).sim hw (ht {} (fun _ => none) 0 [] []).sim (he {} (fun _ => none) 0 [] []).sim) W ew S σ ρ _ _ I (fun S1 v x e1 k1 r1 h1 => R.nx S1 _ _ e1 k1 ((I.sl.ev e1).set r1) h1) h
/-! while: the invariant w with its measure -/
def dWhile (c : DTT) (tb : DTS) : DTS := fun w D ρ L => ∃ I : Nat → Dv → Lc → Prop, (∃ m, I m ρ L) ∧ ∀ m ρ L, I m ρ L → c w ρ L fun b L1 => if b = true then tb w ⟨fun ρ' L' => ∃ m', m' < m ∧ I m' ρ' L', D.rt, D.nx, fun ρ' L' => ∃ m', m' < m ∧ I m' ρ' L'⟩ ρ L1 else D.nx ρ L1
theorem ds_while {c : Expr} {body : List Stmt} {tb : WX → TS} {db : DTS} (hp : PassesOwn (model X.prog X.w) X.A X.env X.xe) (hc : DT X K tt c dt) (hb : DSs X K tb body db) : DS X K (fun W => tWhile (tt W) (tb W)) (.While c body [] pos) (dWhile dt db) := by
  refine ⟨fun W t => ps_while hp (hc.pt W t) (hb.ps W t), fun W ew S σ ρ D d I R h => ?_⟩
  obtain ⟨Iv, ⟨m0, i0⟩, turn⟩ := h
  refine ⟨fun m σ H => ∃ S2 ρ2, S2.H = H ∧ Ev S S2 ∧ Ok K S2 ∧ RelS K S2 σ ρ2 ∧ Iv m ρ2 S2.L, ⟨m0, S, ρ, rfl, .refl S, I.ok, I.sl, i0⟩, ?_⟩
  rintro m σ H ⟨S2, ρ2, rfl, e2, k2, s2, i2⟩
  refine hc.sim W ew S2 σ ρ2 _ _ ⟨k2, s2, I.wi.ev e2⟩ (fun S3 b e3 k3 h3 => ?_) (turn m ρ2 S2.L i2)
  cases b with
  | false => exact R.nx S3 σ ρ2 (e2.trans e3) k3 (s2.ev e3) h3
  | true =>
    refine ⟨fun σ' H' => ∃ m', m' < m ∧ ∃ S4 ρ4, S4.H = H' ∧ Ev S S4 ∧ Ok K S4 ∧ RelS K S4 σ' ρ4 ∧ Iv m' ρ4 S4.L, fun σ' H' q => q, ?_⟩
    have e23 := e2.trans e3
    refine hb.sim W ew S3 σ ρ2 _ ⟨fun ρ' L' => ∃ m', m' < m ∧ Iv m' ρ' L', d.rt, d.nx, fun ρ' L' => ∃ m', m' < m ∧ Iv m' ρ' L'⟩ ⟨k3, s2.ev e3, I.wi.ev e23⟩ ⟨fun S4 σ4 ρ4 e4 k4 s4 h4 => ?_, R.rt.ev e23, R.nx.ev e23, fun S4 σ4 ρ4 e4 k4 s4 h4 => ?_⟩ h3
    · obtain ⟨m', lt, i4⟩ := h4
      exact ⟨m', lt, S4, ρ4, rfl, e23.trans e4, k4, s4, i4⟩
    · obtain ⟨m', lt, i4⟩ := h4
      exact ⟨m', lt, S4, ρ4, rfl, e23.trans e4, k4, s4, i4⟩
end
end Ed

set_option Elab.async false
set_option linter.all false
set_option maxRecDepth 100000
set_option maxHeartbeats 2000000
/-! Calls of the text's own defs, methods and classes; fields; a def's promise at the level of data. -/
namespace Ed
open PySem PySem.Spec PyProof.Rows L2 Dz
abbrev DE_ := Addr → List (Str × D) → Lc → Prop
abbrev DSp := List D → Lc → DQ → DE_ → Prop
def RelE (K : PySem.W.Frag) (S : Sta) (E : XK) (e : DE_) : Prop := ∀ S' C dd (fs : List (Str × V)) (gs : List (Str × D)), Ev S S' → Ok K S' → ¬ S'.Λ dd → S'.H dd = some (.xd fs) → fs.map (·.1) = gs.map (·.1) → RpL K S'.H S'.Λ (fs.map (·.2)) (gs.map (·.2)) →
  e C gs S'.L → E (.ref C) (some dd) S'.H
/-- a promise at the level of data, as one of heaps -/
def spD (K : PySem.W.Frag) (n : Nat) (f : DSp) : Sp := fun vs H Q E => ∃ (S : Sta) (ds : List D) (q : DQ) (e : DE_), S.H = H ∧ Ok K S ∧ RpL K S.H S.Λ vs ds ∧ ds.length = n ∧ RelQ K S Q q ∧ RelE K S E e ∧ f ds S.L q e
/-- what nothing of the program changes: cells become data -/
def Gh (d : D) (L : Lc) (d' : D) (L' : Lc) : Prop := ∀ (K : PySem.W.Frag) (S : Sta) (v : V), Ok K S → S.L = L → Rp K S.H S.Λ v d → ∃ S', S'.H = S.H ∧ S'.L = L' ∧ Ev S S' ∧ Ok K S' ∧ Rp K S'.H S'.Λ v d'
theorem Gh.refl {d : D} {L : Lc} : Gh d L d L := fun K S v k e r => ⟨S, rfl, e, .refl S, k, r⟩
theorem Gh.lst {a : Addr} {L : Lc} {ds : List D} (h : L a = some (.lst ds)) : Gh (.ref a) L (.lst ds) (delL L a) := fun K S v k e r => by
  subst e
  cases r
  obtain ⟨l, xs, h1, h2⟩ := k.cell a _ h
  have ev := ev_fz h
  exact ⟨S.fz a, rfl, rfl, ev, ok_fz h k, .lst (fun z => z.2 rfl) h1 (h2.ev ev)⟩
theorem Gh.dK {a : Addr} {L : Lc} {es : List (Key × D)} (h : L a = some (.dK es)) : Gh (.ref a) L (.dK es) (delL L a) := fun K S v k e r => by
  subst e
  cases r
  obtain ⟨l, xs, h1, h2, h3⟩ := k.cell a _ h
  have ev := ev_fz h
  exact ⟨S.fz a, rfl, rfl, ev, ok_fz h k, .dK (fun z => z.2 rfl) (.inl h1) h2 (h3.ev ev)⟩
theorem Gh.dT {a : Addr} {L : Lc} {es : List (List Key × D)} (h : L a = some (.dT es)) : Gh (.ref a) L (.dT es) (delL L a) := fun K S v k e r => by
  subst e
  cases r
  obtain ⟨l, xs, h1, h2, h3⟩ := k.cell a _ h
  have ev := ev_fz h
  exact ⟨S.fz a, rfl, rfl, ev, ok_fz h k, .dT (fun z => z.2 rfl) (.inl h1) h2 (h3.ev ev)⟩
theorem Gh.ins {a C : Addr} {L : Lc} {fs : List (Str × D)} (h : L a = some (.ins C fs)) : Gh (.ref a) L (.ins C fs) (delL L a) := fun K S v k e r => by
  subst e
  cases r
  obtain ⟨l, dx, xs, h1, h2, h3⟩ := k.cell a _ h
  have ev := ev_fz h
  exact ⟨S.fz a, rfl, rfl, ev, ok_fz h k, .ins (fun z => z.2 rfl) h1 h2 (h3.ev ev)⟩
theorem Gh.trans {d e f : D} {L M N : Lc} (a : Gh d L e M) (b : Gh e M f N) : Gh d L f N := fun K S v k h r => by
  obtain ⟨T, h1, h2, e1, k1, r1⟩ := a K S v k h r
  obtain ⟨U, g1, g2, e2, k2, r2⟩ := b K T v k1 h2 r1
  exact ⟨U, g1.trans h1, g2, e1.trans e2, k2, r2⟩
/-- .. of what stands in a slot -/
def GhS (ρ : Dv) (L : Lc) (ρ' : Dv) (L' : Lc) : Prop := ∀ (K : PySem.W.Frag) (S : Sta) (σ : L2.St), Ok K S → S.L = L → RelS K S σ ρ → ∃ S', S'.H = S.H ∧ S'.L = L' ∧ Ev S S' ∧ Ok K S' ∧ RelS K S' σ ρ'
theorem GhS.refl {ρ : Dv} {L : Lc} : GhS ρ L ρ L := fun K S v k e r => ⟨S, rfl, e, .refl S, k, r⟩
theorem RelS.reset {K : PySem.W.Frag} {S : Sta} {σ : L2.St} {ρ : Dv} {i : Nat} {v : V} {d : D} (h : RelS K S σ ρ) (hv : σ[i]? = some (some v)) (r : Rp K S.H S.Λ v d) : RelS K S σ (ρ.set i (some d)) := by
  have := h.set (i := i) r
  have e : σ.set i (some v) = σ := by
    apply List.ext_getElem?
    intro k
    by_cases z : i = k
    · subst z
      have hl : i < σ.length := (List.getElem?_eq_some_iff.mp hv).1
      rw [List.getElem?_set_self hl, hv]
    · rw [List.getElem?_set_ne z]
  rw [e] at this
  exact this
theorem GhS.at_ {ρ : Dv} {L L' : Lc} {i : Nat} {d d' : D} (h : ρ[i]? = some (some d)) (g : Gh d L d' L') : GhS ρ L (ρ.set i (some d')) L' := fun K S σ k e r => by
  obtain ⟨v, h1, h2⟩ := r.at_ i d h
  obtain ⟨T, t1, t2, e1, k1, r1⟩ := g K S v k e h2
  exact ⟨T, t1, t2, e1, k1, (r.ev e1).reset h1 r1⟩
theorem GhS.trans {ρ ρ' ρ'' : Dv} {L M N : Lc} (a : GhS ρ L ρ' M) (b : GhS ρ' M ρ'' N) : GhS ρ L ρ'' N := fun K S v k h r => by
  obtain ⟨T, h1, h2, e1, k1, r1⟩ := a K S v k h r
  obtain ⟨U, g1, g2, e2, k2, r2⟩ := b K T v k1 h2 r1
  exact ⟨U, g1.trans h1, g2, e1.trans e2, k2, r2⟩
/-- slots forgotten, cells forgotten -/
theorem GhS.less {ρ ρ' : Dv} {L L' : Lc} (hl : ρ.length = ρ'.length) (h : ∀ (i : Nat) d, ρ'[i]? = some (some d) → ρ[i]? = some (some d)) (hL : ∀ a c, L' a = some c → L a = some c) : GhS ρ L ρ' L' := fun K S σ k e r => by
  subst e
  exact ⟨S.gone L', rfl, rfl, ev_gone hL, ok_gone hL k, ⟨r.len.trans hl, fun i d q => r.at_ i d (h i d q)⟩⟩
/-- such a step ahead of a statement -/
def dGh (t : DTS) : DTS := fun w D ρ L => ∃ ρ' L', GhS ρ L ρ' L' ∧ t w D ρ' L'
theorem ds_gh {X : Cx} {K : PySem.W.Frag} {ts : WX → TS} {st : Stmt} {ds : DTS} (h : DS X K ts st ds) : DS X K ts st (dGh ds) := by
  refine ⟨h.ps, fun W ew S σ ρ D d I R hh => ?_⟩
  obtain ⟨ρ', L', g, hh⟩ := hh
  obtain ⟨T, t1, t2, e1, k1, s1⟩ := g K S σ I.ok rfl I.sl
  subst t2
  have := h.sim W ew T σ ρ' D d ⟨k1, s1, I.wi.ev e1⟩ (R.ev e1) hh
  rw [t1] at this
  exact this
/-! ### a def's promise -/
def startD (N : List Str) (ds : List D) : Dv := ds.map some ++ List.replicate (N.length - ds.length) none
theorem relS_start {K : PySem.W.Frag} {S : Sta} {N : List Str} {vs : List V} {ds : List D} (r : RpL K S.H S.Λ vs ds) : RelS K S (L2.start N vs) (startD N ds) := by
  have hl := r.length
  refine ⟨by unfold L2.start startD; simp [hl], fun i d h => ?_⟩
  unfold startD at h
  unfold L2.start
  by_cases hi : i < ds.length
  · rw [List.getElem?_append_left (by simpa using hi), List.getElem?_map] at h
    cases e : ds[i]? with
    | none => rw [e] at h; cases h
    | some d' =>
      rw [e] at h
      cases h
      obtain ⟨v, h1, h2⟩ := r.get e
      refine ⟨v, ?_, h2⟩
      rw [List.getElem?_append_left (by rw [List.length_map, hl]; exact hi), List.getElem?_map, h1]; rfl
  · rw [List.getElem?_append_right (by simpa using hi)] at h
    rw [List.getElem?_replicate] at h
    split at h <;> cases h
/-- what a body is to reach -/
def dEnd (q : DQ) : DEnds := ⟨fun _ L => q .non L, fun d L => ∃ d' L', Gh d L d' L' ∧ q d' L', fun _ _ => False, fun _ _ => False⟩
/-- the body of a def, at the level of data -/
def bodyD (N : List Str) (b : DTS) : DSp := fun ds L q e => b (fun C gs _ L' => e C gs L') (dEnd q) (startD N ds) L
section
variable {P : Program} {w : World} {K : PySem.W.Frag} {mg : Str → Option Value} {base : Heap} {x qual : Str} {st : Stmt} {f : Addr} {fd : FuncData} {N ps : List Str} {k : Nat} {sp : DSp} {b : DTS}
/-- the body keeps the promise -/
def Keeps (N : List Str) (b : DTS) (n : Nat) (sp : DSp) : Prop := ∀ ds L q e, ds.length = n → sp ds L q e → bodyD N b ds L q e
theorem fnD_walk {ts : WX → TS} {n : Nat} {body : List Stmt} {scope : Scope} (hb : ∀ (cdv : Value) (A : Around) (outer : List Env) (s : Shared) (H : Hp) (E : XK), Calm A → Room k (A.deeper (envOfC qual scope s.heap.objs.size f cdv)) → DSs (cxOf (L2.CX P w) P w K mg base N qual scope f cdv A outer s H E) K ts body b) (rd : Keeps N b n sp)
    (htk : ∀ (cdv : Value) (A : Around) (outer : List Env) (s : Shared) (H : Hp) (E : XK), Takes (cxOf (L2.CX P w) P w K mg base N qual scope f cdv A outer s H E) (fun cls d _ H => E cls d H))
    (cdv : Value) (A : Around) (outer : List Env) (s : Shared) (H : Hp) (vs : List V) (Q : VK) (E : XK) (hg : Calm A) (hr : Room k (A.deeper (envOfC qual scope s.heap.objs.size f cdv))) (h : spD K n sp vs H Q E) :
    ∃ t, PSs (cxOf (L2.CX P w) P w K mg base N qual scope f cdv A outer s H E) body t ∧ t { nx := fun _ H' => Q .non H', rt := Q } (L2.start N vs) H := by
  obtain ⟨S, ds, q, e, rfl, k1, r1, hl, R, RE, h⟩ := h
  have B := hb cdv A outer s S.H E hg hr
  refine ⟨_, B.ps _ (htk cdv A outer s S.H E), ?_⟩
  refine B.sim _ (fun C gs _ L' => e C gs L') S (L2.start N vs) (startD N ds) _ (dEnd q) ⟨k1, relS_start r1, fun S' C dd fs gs σ ρ ev ok _ n1 n2 n3 n4 he => RE S' C dd fs gs ev ok n1 n2 n3 n4 he⟩ ⟨fun S' σ ρ ev ok _ hq => R S' _ _ ev ok .non hq, fun S' v d ev ok r hq => ?_, fun S' σ ρ ev ok _ hq => hq.elim, fun S' σ ρ ev ok _ hq => hq.elim⟩ (rd ds S.L q e hl h)
  obtain ⟨d', L', g, hq⟩ := hq
  obtain ⟨T, t1, t2, e2, k2, r2⟩ := g K S' v ok rfl r
  subst t2
  have := R T v d' (ev.trans e2) k2 r2 hq
  rw [t1] at this
  exact this
theorem kd_mk {ts : WX → TS} (F : Fun K x qual st f fd) (SC : FnScope N ps (defScope st)) (hbind : Binds K fd ps []) (hb : ∀ (cdv : Value) (A : Around) (outer : List Env) (s : Shared) (H : Hp) (E : XK), Calm A → Room k (A.deeper (envOfC qual (defScope st) s.heap.objs.size f cdv)) → DSs (cxOf (L2.CX P w) P w K mg base N qual (defScope st) f cdv A outer s H E) K ts (defBody st) b)
    (htk : ∀ (cdv : Value) (A : Around) (outer : List Env) (s : Shared) (H : Hp) (E : XK), Takes (cxOf (L2.CX P w) P w K mg base N qual (defScope st) f cdv A outer s H E) (fun cls d _ H => E cls d H)) (rd : Keeps N b ps.length sp) : Kp P w K mg base (L2.CX P w) (k + 1) f ps [] (spD K ps.length sp) :=
  ⟨fd, fnG_of F SC (fun vs H Q E h => by obtain ⟨S, ds, q, e, rfl, k1, r1, hl, _⟩ := h; rw [r1.length]; exact hl) fun cdv A outer s H vs Q E hg hr h => fnD_walk hb rd htk cdv A outer s H vs Q E hg hr h, hbind⟩
/-- a def with defaults -/
theorem kx_mk {ts : WX → TS} {dvs : List V} {kws : List (Str × V)} (F : FunD K x qual (defArgs st) (defBody st) (defScope st) dvs kws f fd) (SC : FnScope N ps (defScope st)) (hb : ∀ (cdv : Value) (A : Around) (outer : List Env) (s : Shared) (H : Hp) (E : XK), Calm A → Room k (A.deeper (envOfC qual (defScope st) s.heap.objs.size f cdv)) → DSs (cxOf (L2.CX P w) P w K mg base N qual (defScope st) f cdv A outer s H E) K ts (defBody st) b)
    (htk : ∀ (cdv : Value) (A : Around) (outer : List Env) (s : Shared) (H : Hp) (E : XK), Takes (cxOf (L2.CX P w) P w K mg base N qual (defScope st) f cdv A outer s H E) (fun cls d _ H => E cls d H)) (rd : Keeps N b ps.length sp) : Kx P w K mg base (L2.CX P w) (k + 1) x qual st dvs kws f ps (spD K ps.length sp) :=
  ⟨fd, fnG_D F SC (fun vs H Q E h => by obtain ⟨S, ds, q, e, rfl, k1, r1, hl, _⟩ := h; rw [r1.length]; exact hl) fun cdv A outer s H vs Q E hg hr h => fnD_walk hb rd htk cdv A outer s H vs Q E hg hr h, F⟩
end
/-! ### calls -/
def dCall (sp : DSp) (n : Nat) (a : DTA) : DTE := fun w ρ L q => a w ρ L fun ds L1 => ds.length = n ∧ sp ds L1 q fun C gs L2 => w C gs ρ L2
def dCallK (sp : DSp) (n m : Nat) (g : List D → List D → List D) (np : Nat) (a b : DTA) : DTE := fun w ρ L q => a w ρ L fun ds L1 => b w ρ L1 fun es L2 => ds.length = n ∧ es.length = m ∧ (g ds es).length = np ∧ sp (g ds es) L2 q fun C gs L3 => w C gs ρ L3
section
variable {X : Cx} {K : PySem.W.Frag} {k n nn : Nat} {f : Addr} {ps ks : List Str} {sp : DSp} {x : Str} {p pos : Pos} {e : Expr} {es : List Expr} {tr tk : WX → TA} {dr dk : DTA} {W : WX}
theorem relE_w {S : Sta} {W : WX} {ew : EW} {σ : L2.St} {ρ : Dv} (h : RelW K S W ew) (s : RelS K S σ ρ) : RelE K S (WE W σ) fun C gs L => ew C gs ρ L :=
  fun S' C dd fs gs ev ok n1 n2 n3 n4 he => h S' C dd fs gs σ ρ ev ok (s.ev ev) n1 n2 n3 n4 he
theorem sim_call {m : Nat} (ha : SimA K tr dr) : SimE K (fun W => tCBS (fun σ vs H Q => spD K m sp vs H Q (WE W σ)) (tr W)) (dCall sp m dr) := fun W ew S σ ρ Q q I R h => by
  refine ha W ew S σ ρ _ _ I (fun S1 vs xs e1 k1 r1 h1 => ?_) h
  exact ⟨S1, xs, q, _, rfl, k1, r1, h1.1, R.ev e1, relE_w (I.wi.ev e1) (I.sl.ev e1), h1.2⟩
/-- f(e, ..) -/
theorem d_fn (G : Kp X.prog X.w X.K X.mg X.base (L2.CX X.prog X.w) k f ps [] (spD K nn sp)) (hcl : Calm X.A) (hr : Room k X.A) (hl : Gl X x) (hm : X.mg x = some (.ref f)) (hk : PySem.W.keepIn X.K (.ref f) = true) (ha : DA X K tr (e :: es) dr) (hdb : (x == ("__debug__" : Str)) = false := by decide)
    (he : starEach (e :: es) X.env = (false, eval e X.env) :: starEach es X.env := by rfl) (hpl : (backTo pos (starEach es X.env)).any (·.1) = false := by rfl) :
    DE X K (fun W => tCBS (fun σ vs H Q => spD K nn sp vs H Q (WE W σ)) (tr W)) (.Call (.Name x p) (e :: es) [] pos) (dCall sp nn dr) :=
  ⟨fun W t => pe_fnS (callS G hcl hr t) hl hm hk (ha.pa W t) hdb he hpl, sim_call ha.sim⟩
theorem pe_fnS0 {f : Addr} {x : Str} {r : L2.St → List V → Hp → VK → Prop} (hc : CallRS X (.ref f) r) (hl : Gl X x) (hm : X.mg x = some (.ref f)) (hk : PySem.W.keepIn X.K (.ref f) = true) (hdb : (x == ("__debug__" : Str)) = false := by decide) : PE X (.Call (.Name x p) [] [] pos) (tCBS r tNil) := by
  constructor
  intro pins s σ H Q I h
  refine wpAny_Call_Name_kw (ld_glob I hl hm ?_ hdb)
  exact PySem.W.callWith_K0 I.kIn hk (hc pins s σ H [] [] Q I .nil h)
theorem d_fn0 (G : Kp X.prog X.w X.K X.mg X.base (L2.CX X.prog X.w) k f ps [] (spD K nn sp)) (hcl : Calm X.A) (hr : Room k X.A) (hl : Gl X x) (hm : X.mg x = some (.ref f)) (hk : PySem.W.keepIn X.K (.ref f) = true) (hdb : (x == ("__debug__" : Str)) = false := by decide) :
    DE X K (fun W => tCBS (fun σ vs H Q => spD K nn sp vs H Q (WE W σ)) tNil) (.Call (.Name x p) [] [] pos) (dCall sp nn dNil) :=
  ⟨fun W t => pe_fnS0 (callS G hcl hr t) hl hm hk hdb, sim_call (da_nil (X := X)).sim⟩
/-- constants by values -/
def CR (K : PySem.W.Frag) (v : V) (d : D) : Prop := ∀ H Λ, Rp K H Λ v d
inductive CRL (K : PySem.W.Frag) : List V → List D → Prop
  | nil : CRL K [] []
  | cons {v : V} {vs : List V} {d : D} {ds : List D} : CR K v d → CRL K vs ds → CRL K (v :: vs) (d :: ds)
theorem CRL.rp {S : Sta} : ∀ {vs : List V} {ds : List D}, CRL K vs ds → RpL K S.H S.Λ vs ds
  | _, _, .nil => .nil
  | _, _, .cons h r => .cons (h S.H S.Λ) (CRL.rp r)
theorem RpL.perm {S : Sta} {vs : List V} {ds : List D} (r : RpL K S.H S.Λ vs ds) : ∀ is : List Nat, RpL K S.H S.Λ (Dz.perm is vs) (Dz.perm is ds)
  | [] => .nil
  | i :: is => by
    have t := RpL.perm r is
    cases e : ds[i]? with
    | none =>
      have e2 : vs[i]? = none := List.getElem?_eq_none (by rw [r.length]; exact List.getElem?_eq_none_iff.mp e)
      have h1 : Dz.perm (i :: is) vs = Dz.perm is vs := by unfold Dz.perm; rw [List.filterMap_cons_none e2]
      have h2 : Dz.perm (i :: is) ds = Dz.perm is ds := by unfold Dz.perm; rw [List.filterMap_cons_none e]
      rw [h1, h2]; exact t
    | some d =>
      obtain ⟨v, e2, rv⟩ := r.get e
      have h1 : Dz.perm (i :: is) vs = v :: Dz.perm is vs := by unfold Dz.perm; rw [List.filterMap_cons_some e2]
      have h2 : Dz.perm (i :: is) ds = d :: Dz.perm is ds := by unfold Dz.perm; rw [List.filterMap_cons_some e]
      rw [h1, h2]; exact .cons rv t
end
end Ed

set_option Elab.async false
set_option linter.all false
set_option maxRecDepth 100000
set_option maxHeartbeats 2000000
/-! Keywords and defaults; methods; new instances; fields; methods of built-in types. -/
namespace Ed
open PySem PySem.Spec PyProof.Rows L2 Dz
section
variable {X : Cx} {K : PySem.W.Frag} {k n nn : Nat} {f C : Addr} {ps ks : List Str} {sp : DSp} {x m qual : Str} {p pos apos : Pos} {e o a b : Expr} {es : List Expr} {kws : List Keyword} {tr : WX → TA} {dr dk : DTA} {st : Stmt} {dvs : List V} {kwd : List (Str × V)} {ta tb : WX → TE} {da db : DTE}
/-! keywords -/
structure DK (X : Cx) (K : PySem.W.Frag) (ta : WX → TA) (kws : List Keyword) (da : DTA) : Prop where
  pk : ∀ W, Takes X W → PK X kws (ta W)
  sim : SimA K ta da
theorem callKS_x {W : WX} {CX : CXT} {sp : Sp} {gV : List V → List V → List V} (G : Kx X.prog X.w X.K X.mg X.base (L2.CX X.prog X.w) k x qual st dvs kwd f ps sp) (hg : Calm X.A) (hr : Room k X.A) (hb : ∀ fd, FunD X.K x qual (defArgs st) (defBody st) (defScope st) dvs kwd f fd → ∃ g, KBn X.K fd ps n ks g gV) (tk : Takes X W) :
    CallKS X (.ref f) n ks (fun σ vs zs H Q => sp (gV vs zs) H Q (WE W σ)) := by
  obtain ⟨fd, F, D⟩ := G.ex
  obtain ⟨g, b⟩ := hb fd D
  intro pins s σ H vs zs us ws Q I rv rz l1 l2 h
  refine wpAny_call (codeAny_mono (F.go X.A X.stack s H ⟨us, ks.zip ws⟩ (g us ws) (gV vs zs) Q _ hg hr I.env0 (b.to s us ws I.kIn (rv.length.symm.trans l1) (rz.length.symm.trans l2)) (b.rel rv rz) h) ?_)
  intro rs s' hq
  match rs, hq with
  | .error e, hq => exact passAt tk σ pins H s e s' I hq
  | .ok (.ret u), hq => exact I.after hq
theorem callRS_x {W : WX} {sp : Sp} {ms : List V} (G : Kx X.prog X.w X.K X.mg X.base (L2.CX X.prog X.w) k x qual st dvs kwd f ps sp) (hg : Calm X.A) (hr : Room k X.A) (hb : ∀ fd, FunD X.K x qual (defArgs st) (defBody st) (defScope st) dvs kwd f fd → ∃ ds, Vals ms ds ∧ Binds X.K fd ps ds) (tk : Takes X W) :
    CallRS X (.ref f) (fun σ vs H Q => sp (vs ++ ms) H Q (WE W σ)) := by
  obtain ⟨fd, F, D⟩ := G.ex
  obtain ⟨ds, r, b⟩ := hb fd D
  intro pins s σ H vs us Q I rv h
  have r2 : Vals (vs ++ ms) (us ++ ds) := rv.append r
  have hl : (us ++ ds).length = ps.length := r2.length.symm.trans (F.ln _ _ _ _ h)
  refine wpAny_call (codeAny_mono (F.go X.A X.stack s H ⟨us, []⟩ (us ++ ds) (vs ++ ms) Q _ hg hr I.env0 (b s us I.kIn hl) r2 h) ?_)
  intro rs s' hq
  match rs, hq with
  | .error e, hq => exact passAt tk σ pins H s e s' I hq
  | .ok (.ret u), hq => exact I.after hq
/-- what is left out, behind what is handed in -/
def dCallD (sp : DSp) (n : Nat) (ms : List D) (a : DTA) : DTE := fun w ρ L q => a w ρ L fun ds L1 => (ds ++ ms).length = n ∧ sp (ds ++ ms) L1 q fun C gs L2 => w C gs ρ L2
theorem sim_callD {np : Nat} {ms : List V} {md : List D} (hm : CRL K ms md) (ha : SimA K tr dr) : SimE K (fun W => tCBS (fun σ vs H Q => spD K np sp (vs ++ ms) H Q (WE W σ)) (tr W)) (dCallD sp np md dr) := fun W ew S σ ρ Q q I R h => by
  refine ha W ew S σ ρ _ _ I (fun S1 vs xs e1 k1 r1 h1 => ?_) h
  exact ⟨S1, xs ++ md, q, _, rfl, k1, r1.append hm.rp, h1.1, R.ev e1, relE_w (I.wi.ev e1) (I.sl.ev e1), h1.2⟩
theorem sim_callK {np : Nat} {gV : List V → List V → List V} {gD : List D → List D → List D} {tk : WX → TA} (hg : ∀ {S : Sta} {vs zs : List V} {ds es : List D}, RpL K S.H S.Λ vs ds → RpL K S.H S.Λ zs es → RpL K S.H S.Λ (gV vs zs) (gD ds es)) (ha : SimA K tr dr) (hk : SimA K tk dk) :
    SimE K (fun W => tCKS n m.length (fun σ vs zs H Q => spD K np sp (gV vs zs) H Q (WE W σ)) (tr W) (tk W)) (dCallK sp n m.length gD np dr dk) := fun W ew S σ ρ Q q I R h => by
  refine ha W ew S σ ρ _ _ I (fun S1 vs xs e1 k1 r1 h1 => ?_) h
  refine hk W ew S1 σ ρ _ _ (I.ev e1 k1) (fun S2 zs ys e2 k2 r2 h2 => ?_) h1
  obtain ⟨l1, l2, l3, h2⟩ := h2
  refine ⟨by rw [r1.length]; exact l1, by rw [r2.length]; exact l2, S2, gD xs ys, q, _, rfl, k2, hg (r1.ev e2) r2, l3, R.ev (e1.trans e2), relE_w (I.wi.ev (e1.trans e2)) (I.sl.ev (e1.trans e2)), h2⟩
end
section
variable {X : Cx} {K : PySem.W.Frag} {k n nn : Nat} {f C : Addr} {ps ks : List Str} {sp : DSp} {x m qual : Str} {p pos apos : Pos} {e o a b : Expr} {es : List Expr} {kws : List Keyword} {tr tk : WX → TA} {dr dk : DTA} {st : Stmt} {dvs : List V} {kwd : List (Str × V)} {ta tb : WX → TE} {da db : DTE}
theorem dk_nil : DK X K (fun _ => tNil) [] dNil := ⟨fun _ _ => pk_nil, fun W ew S σ ρ Q q I R h => R S [] [] (.refl S) I.ok .nil h⟩
theorem sim_cons (ha : SimE K ta da) (hr : SimA K tr dr) : SimA K (fun W => tCons (ta W) (tr W)) (dCons da dr) := fun W ew S σ ρ Q q I R h => by
  refine ha W ew S σ ρ _ _ I (fun S1 v x e1 k1 r1 h1 => ?_) h
  refine hr W ew S1 σ ρ _ _ (I.ev e1 k1) (fun S2 vs xs e2 k2 r2 h2 => ?_) h1
  exact R S2 _ _ (e1.trans e2) k2 (.cons (r1.ev e2) r2) h2
/-- f(.., some left out) -/
theorem d_fnD {ms : List V} {md : List D} (hm' : CRL K ms md) (G : Kx X.prog X.w X.K X.mg X.base (L2.CX X.prog X.w) k x qual st dvs kwd f ps (spD K nn sp)) (hcl : Calm X.A) (hr : Room k X.A) (hb : ∀ fd, FunD X.K x qual (defArgs st) (defBody st) (defScope st) dvs kwd f fd → ∃ ds, Vals ms ds ∧ Binds X.K fd ps ds)
    (hl : Gl X x) (hm : X.mg x = some (.ref f)) (hk : PySem.W.keepIn X.K (.ref f) = true) (ha : DA X K tr (e :: es) dr) (hdb : (x == ("__debug__" : Str)) = false := by decide)
    (he : starEach (e :: es) X.env = (false, eval e X.env) :: starEach es X.env := by rfl) (hpl : (backTo pos (starEach es X.env)).any (·.1) = false := by rfl) :
    DE X K (fun W => tCBS (fun σ vs H Q => spD K nn sp (vs ++ ms) H Q (WE W σ)) (tr W)) (.Call (.Name x p) (e :: es) [] pos) (dCallD sp nn md dr) :=
  ⟨fun W t => pe_fnS (callRS_x G hcl hr hb t) hl hm hk (ha.pa W t) hdb he hpl, sim_callD hm' ha.sim⟩
theorem d_fnD0 {ms : List V} {md : List D} (hm' : CRL K ms md) (G : Kx X.prog X.w X.K X.mg X.base (L2.CX X.prog X.w) k x qual st dvs kwd f ps (spD K nn sp)) (hcl : Calm X.A) (hr : Room k X.A) (hb : ∀ fd, FunD X.K x qual (defArgs st) (defBody st) (defScope st) dvs kwd f fd → ∃ ds, Vals ms ds ∧ Binds X.K fd ps ds)
    (hl : Gl X x) (hm : X.mg x = some (.ref f)) (hk : PySem.W.keepIn X.K (.ref f) = true) (hdb : (x == ("__debug__" : Str)) = false := by decide) :
    DE X K (fun W => tCBS (fun σ vs H Q => spD K nn sp (vs ++ ms) H Q (WE W σ)) tNil) (.Call (.Name x p) [] [] pos) (dCallD sp nn md dNil) :=
  ⟨fun W t => pe_fnS0 (callRS_x G hcl hr hb t) hl hm hk hdb, sim_callD hm' (da_nil (X := X)).sim⟩
/-- f(.., k = v) -/
def gPerm {α : Type} (is : List Nat) (ms : List α) (vs zs : List α) : List α := Dz.perm is (vs ++ ms ++ zs)
theorem gPerm_rp {S : Sta} {is : List Nat} {ms : List V} {md : List D} (hm : CRL K ms md) {vs zs : List V} {ds es : List D} (r1 : RpL K S.H S.Λ vs ds) (r2 : RpL K S.H S.Λ zs es) : RpL K S.H S.Λ (gPerm is ms vs zs) (gPerm is md ds es) := RpL.perm ((r1.append hm.rp).append r2) is
theorem d_fnK {is : List Nat} {ms : List V} {md : List D} (hm' : CRL K ms md) (G : Kx X.prog X.w X.K X.mg X.base (L2.CX X.prog X.w) k x qual st dvs kwd f ps (spD K nn sp)) (hcl : Calm X.A) (hr : Room k X.A) (hb : ∀ fd, FunD X.K x qual (defArgs st) (defBody st) (defScope st) dvs kwd f fd → ∃ g, KBn X.K fd ps n ks g (gPerm is ms))
    (hl : Gl X x) (hm : X.mg x = some (.ref f)) (hk : PySem.W.keepIn X.K (.ref f) = true) (ha : DA X K tr (e :: es) dr) (hkw : DK X K tk kws dk)
    (hall : (backToKw pos (keywordEach kws X.env)).all (·.1.isSome) = true := by rfl) (hks : (backToKw pos (keywordEach kws X.env)).filterMap (·.1) = ks := by rfl) (hdb : (x == ("__debug__" : Str)) = false := by decide)
    (he : starEach (e :: es) X.env = (false, eval e X.env) :: starEach es X.env := by rfl) (hpl : ((backTo pos (starEach (e :: es) X.env)).any (·.1) || (backToKw pos (keywordEach kws X.env)).any (·.1.isNone)) = false := by rfl) :
    DE X K (fun W => tCKS n ks.length (fun σ vs zs H Q => spD K nn sp (gPerm is ms vs zs) H Q (WE W σ)) (tr W) (tk W)) (.Call (.Name x p) (e :: es) kws pos) (dCallK sp n ks.length (gPerm is md) nn dr dk) := by
  refine ⟨fun W t => pe_fnKS (callKS_x (CX := L2.CX X.prog X.w) G hcl hr hb t) hl hm hk (ha.pa W t) (hkw.pk W t) hall hks hdb he hpl, ?_⟩
  intro W ew S σ ρ Q q I R h
  refine ha.sim W ew S σ ρ _ _ I (fun S1 vs xs e1 k1 r1 h1 => ?_) h
  refine hkw.sim W ew S1 σ ρ _ _ (I.ev e1 k1) (fun S2 zs ys e2 k2 r2 h2 => ?_) h1
  obtain ⟨l1, l2, l3, h2⟩ := h2
  exact ⟨by rw [r1.length]; exact l1, by rw [r2.length]; exact l2, S2, _, q, _, rfl, k2, gPerm_rp hm' (r1.ev e2) r2, l3, R.ev (e1.trans e2), relE_w (I.wi.ev (e1.trans e2)) (I.sl.ev (e1.trans e2)), h2⟩
theorem d_fnK0 {is : List Nat} {ms : List V} {md : List D} (hm' : CRL K ms md) (G : Kx X.prog X.w X.K X.mg X.base (L2.CX X.prog X.w) k x qual st dvs kwd f ps (spD K nn sp)) (hcl : Calm X.A) (hr : Room k X.A) (hb : ∀ fd, FunD X.K x qual (defArgs st) (defBody st) (defScope st) dvs kwd f fd → ∃ g, KBn X.K fd ps 0 ks g (gPerm is ms))
    (hl : Gl X x) (hm : X.mg x = some (.ref f)) (hk : PySem.W.keepIn X.K (.ref f) = true) (hkw : DK X K tk kws dk)
    (hall : (backToKw pos (keywordEach kws X.env)).all (·.1.isSome) = true := by rfl) (hks : (backToKw pos (keywordEach kws X.env)).filterMap (·.1) = ks := by rfl) (hdb : (x == ("__debug__" : Str)) = false := by decide)
    (hpl : ((backTo pos (starEach [] X.env)).any (·.1) || (backToKw pos (keywordEach kws X.env)).any (·.1.isNone)) = false := by rfl) :
    DE X K (fun W => tCKS 0 ks.length (fun σ vs zs H Q => spD K nn sp (gPerm is ms vs zs) H Q (WE W σ)) tNil (tk W)) (.Call (.Name x p) [] kws pos) (dCallK sp 0 ks.length (gPerm is md) nn dNil dk) := by
  refine ⟨fun W t => pe_fnKS0 (callKS_x (CX := L2.CX X.prog X.w) G hcl hr hb t) hl hm hk (hkw.pk W t) hall hks hdb hpl, ?_⟩
  intro W ew S σ ρ Q q I R h
  refine hkw.sim W ew S σ ρ _ _ I (fun S2 zs ys e2 k2 r2 h2 => ?_) h
  obtain ⟨l1, l2, l3, h2⟩ := h2
  exact ⟨rfl, by rw [r2.length]; exact l2, S2, _, q, _, rfl, k2, gPerm_rp hm' .nil r2, l3, R.ev e2, relE_w (I.wi.ev e2) (I.sl.ev e2), h2⟩
/-! methods of own instances -/
/-- the class and the fields of an instance -/
def vIns (L : Lc) : D → Option (Addr × List (Str × D))
  | .ins C fs => some (C, fs)
  | .ref a => match L a with
    | some (.ins C fs) => some (C, fs)
    | _ => none
  | _ => none
theorem vIns_ok {S : Sta} {v : V} {d : D} {fs : List (Str × D)} (k : Ok K S) (r : Rp K S.H S.Λ v d) (h : vIns S.L d = some (C, fs)) : ∃ a dx gs, v = .ref a ∧ S.H a = some (.ins C dx gs) ∧ TabR K S.H S.Λ gs fs := by
  cases r with
  | ins n h1 h2 h3 => cases h; exact ⟨_, _, _, rfl, h1, h2, h3⟩
  | ref a =>
    unfold vIns at h
    cases e : S.L a with
    | none => simp [e] at h
    | some c =>
      cases c with
      | ins C' es =>
        simp [e] at h
        obtain ⟨rfl, rfl⟩ := h
        obtain ⟨_, dx, ks, h1, h2, h3⟩ := k.cell a _ e
        exact ⟨a, dx, ks, rfl, h1, h2, h3⟩
      | _ => simp [e] at h
  | _ => cases h
theorem TabR.lookup {S : Sta} (g : Str) : ∀ {ks : List (Str × V)} {es : List (Str × D)}, TabR K S.H S.Λ ks es → (es.lookup g = none ∧ ks.lookup g = none) ∨ ∃ d v, es.lookup g = some d ∧ ks.lookup g = some v ∧ Rp K S.H S.Λ v d
  | [], [], _ => .inl ⟨rfl, rfl⟩
  | [], _ :: _, h => by have := h.len; simp at this
  | _ :: _, [], h => by have := h.len; simp at this
  | (a, v) :: ks, (b, d) :: es, h => by
    obtain ⟨h1, h2, h3⟩ := h.cons_inv
    obtain rfl : a = b := h1
    by_cases e : g = a
    · subst e
      exact .inr ⟨d, v, by simp, by simp, h2⟩
    · have e1 : (g == a) = false := beq_eq_false_iff_ne.mpr e
      simp only [List.lookup_cons, e1]
      exact TabR.lookup g h3
def putFD (f : Str) (v : D) : List (Str × D) → List (Str × D)
  | [] => [(f, v)]
  | (g, x) :: r => if g = f then (g, v) :: r else (g, x) :: putFD f v r
theorem TabR.putF {S : Sta} {v : V} {d : D} (g : Str) (r : Rp K S.H S.Λ v d) : ∀ {ks : List (Str × V)} {es : List (Str × D)}, TabR K S.H S.Λ ks es → TabR K S.H S.Λ (L2.putF g v ks) (putFD g d es)
  | [], [], _ => .cons rfl r .nil
  | [], _ :: _, h => by have := h.len; simp at this
  | _ :: _, [], h => by have := h.len; simp at this
  | (a, v') :: ks, (b, d') :: es, h => by
    obtain ⟨h1, h2, h3⟩ := h.cons_inv
    obtain rfl : a = b := h1
    unfold L2.putF putFD
    by_cases e : a = g
    · rw [if_pos e, if_pos e]; exact .cons rfl r h3
    · rw [if_neg e, if_neg e]; exact .cons rfl h2 (TabR.putF g r h3)
def tMthS (C : Addr) (m : Str) (r : L2.St → List V → Hp → VK → Prop) (ta : TE) (t : TA) : TE := fun σ H Q => ta σ H fun x H1 => ∃ a dx fs, x = .ref a ∧ H1 a = some (.ins C dx fs) ∧ fs.lookup m = none ∧ t σ H1 fun vs H2 => r σ (x :: vs) H2 Q
theorem pe_mthS {r : L2.St → List V → Hp → VK → Prop} {ta : TE} {t : TA} {pl : Sem Bool} (he : PE X o ta) (c : Cls X.K C) (hm : Meth X.K C m f) (hc : CallRS X (.ref f) r) (ha : PA X (e :: es) t)
    (hst : starEach (e :: es) X.env = (false, eval e X.env) :: starEach es X.env := by rfl) (hpl : (backTo pos (starEach es X.env)).any (·.1) = false := by rfl)
    (ht : eval (.Call (.Attribute o m apos) (e :: es) [] pos) X.env = (do
      let ov ← eval o X.env
      standAt apos.atName
      let (f, first) ← holding [ov] (getMethod ov m pl)
      callWith pos f first (backTo pos (starEach (e :: es) X.env)) (backToKw pos (keywordEach [] X.env))) := by rfl) :
    PE X (.Call (.Attribute o m apos) (e :: es) [] pos) (tMthS C m r ta t) := by
  constructor
  intro pins s σ H Q I h
  refine PySem.W.methodCall_KW (pl := pl) (thn (he.run pins s σ H _ I h) ?_) ht
  rintro u s1 ⟨y, H1, I1, ry, a, dx, fs, rfl, ea, l, q⟩
  cases (show u = Value.ref a from ry)
  refine getmeth_ok I1 ea c hm l ?_
  refine PySem.W.callWith_K (first := [.ref a]) (h₀ := X.base) I.ok.mod.kin hm.kp (thn (ha.run pos pins s1 σ H1 _ I1 q) ?_) hst hpl
  rintro us s2 ⟨vs, H2, I2, rv, q2⟩
  exact ⟨I2.kIn, hc pins s2 σ H2 (.ref a :: vs) (.ref a :: us) Q I2 (.cons rfl rv) q2⟩
theorem pe_mthS0 {r : L2.St → List V → Hp → VK → Prop} {ta : TE} {pl : Sem Bool} (he : PE X o ta) (c : Cls X.K C) (hm : Meth X.K C m f) (hc : CallRS X (.ref f) r)
    (ht : eval (.Call (.Attribute o m apos) [] [] pos) X.env = (do
      let ov ← eval o X.env
      standAt apos.atName
      let (f, first) ← holding [ov] (getMethod ov m pl)
      callWith pos f first (backTo pos (starEach [] X.env)) (backToKw pos (keywordEach [] X.env))) := by rfl) :
    PE X (.Call (.Attribute o m apos) [] [] pos) (tMthS C m r ta tNil) := by
  constructor
  intro pins s σ H Q I h
  refine PySem.W.methodCall_KW (pl := pl) (thn (he.run pins s σ H _ I h) ?_) ht
  rintro u s1 ⟨y, H1, I1, ry, a, dx, fs, rfl, ea, l, q⟩
  cases (show u = Value.ref a from ry)
  refine getmeth_ok I1 ea c hm l ?_
  exact PySem.W.callWith_K0 (first := [.ref a]) I1.kIn hm.kp (hc pins s1 σ H1 [.ref a] [.ref a] Q I1 (.cons rfl .nil) q)
def dMth (C : Addr) (m : Str) (sp : DSp) (n : Nat) (ms : List D) (o : DTE) (a : DTA) : DTE := fun w ρ L q => o w ρ L fun x L1 => ∃ fs, vIns L1 x = some (C, fs) ∧ fs.lookup m = none ∧ a w ρ L1 fun ds L2 => (x :: ds ++ ms).length = n ∧ sp (x :: ds ++ ms) L2 q fun E gs L3 => w E gs ρ L3
theorem sim_mth {np : Nat} {ms : List V} {md : List D} (hm : CRL K ms md) (ho : SimE K ta da) (ha : SimA K tr dr) : SimE K (fun W => tMthS C m (fun σ vs H Q => spD K np sp (vs ++ ms) H Q (WE W σ)) (ta W) (tr W)) (dMth C m sp np md da dr) := fun W ew S σ ρ Q q I R h => by
  refine ho W ew S σ ρ _ _ I (fun S1 v x e1 k1 r1 h1 => ?_) h
  obtain ⟨fs, hv, hl, h1⟩ := h1
  obtain ⟨a, dx, gs, rfl, h2, h3⟩ := vIns_ok k1 r1 hv
  have hn : gs.lookup m = none := by
    rcases h3.lookup m with ⟨_, z⟩ | ⟨d, v, z, _⟩
    · exact z
    · rw [hl] at z; cases z
  refine ⟨a, dx, gs, rfl, h2, hn, ?_⟩
  refine ha W ew S1 σ ρ _ _ (I.ev e1 k1) (fun S2 vs xs e2 k2 r2 h4 => ?_) h1
  exact ⟨S2, x :: xs ++ md, q, _, rfl, k2, RpL.append (.cons (r1.ev e2) r2) hm.rp, h4.1, R.ev (e1.trans e2), relE_w (I.wi.ev (e1.trans e2)) (I.sl.ev (e1.trans e2)), h4.2⟩
theorem spD_nil {np : Nat} {W : WX} : (fun (σ : L2.St) (vs : List V) (H : Hp) (Q : VK) => spD K np sp (vs ++ []) H Q (WE W σ)) = fun σ vs H Q => spD K np sp vs H Q (WE W σ) := by
  funext σ vs H Q; rw [List.append_nil]
theorem callS' {W : WX} (G : Kp X.prog X.w X.K X.mg X.base (L2.CX X.prog X.w) k f ps [] (spD K nn sp)) (hcl : Calm X.A) (hr : Room k X.A) (t : Takes X W) : CallRS X (.ref f) (fun σ vs H Q => spD K nn sp (vs ++ []) H Q (WE W σ)) := by
  rw [spD_nil]; exact callS G hcl hr t
theorem d_mth {pl : Sem Bool} (c : Cls X.K C) (hm : Meth X.K C m f) (G : Kp X.prog X.w X.K X.mg X.base (L2.CX X.prog X.w) k f ps [] (spD K nn sp)) (hcl : Calm X.A) (hr : Room k X.A) (ho : DE X K ta o da) (ha : DA X K tr (e :: es) dr)
    (hst : starEach (e :: es) X.env = (false, eval e X.env) :: starEach es X.env := by rfl) (hpl : (backTo pos (starEach es X.env)).any (·.1) = false := by rfl)
    (ht : eval (.Call (.Attribute o m apos) (e :: es) [] pos) X.env = (do
      let ov ← eval o X.env
      standAt apos.atName
      let (f, first) ← holding [ov] (getMethod ov m pl)
      callWith pos f first (backTo pos (starEach (e :: es) X.env)) (backToKw pos (keywordEach [] X.env))) := by rfl) :
    DE X K (fun W => tMthS C m (fun σ vs H Q => spD K nn sp (vs ++ []) H Q (WE W σ)) (ta W) (tr W)) (.Call (.Attribute o m apos) (e :: es) [] pos) (dMth C m sp nn [] da dr) :=
  ⟨fun W t => pe_mthS (ho.pe W t) c hm (callS' G hcl hr t) (ha.pa W t) hst hpl ht, sim_mth .nil ho.sim ha.sim⟩
theorem d_mth0 {pl : Sem Bool} (c : Cls X.K C) (hm : Meth X.K C m f) (G : Kp X.prog X.w X.K X.mg X.base (L2.CX X.prog X.w) k f ps [] (spD K nn sp)) (hcl : Calm X.A) (hr : Room k X.A) (ho : DE X K ta o da)
    (ht : eval (.Call (.Attribute o m apos) [] [] pos) X.env = (do
      let ov ← eval o X.env
      standAt apos.atName
      let (f, first) ← holding [ov] (getMethod ov m pl)
      callWith pos f first (backTo pos (starEach [] X.env)) (backToKw pos (keywordEach [] X.env))) := by rfl) :
    DE X K (fun W => tMthS C m (fun σ vs H Q => spD K nn sp (vs ++ []) H Q (WE W σ)) (ta W) tNil) (.Call (.Attribute o m apos) [] [] pos) (dMth C m sp nn [] da dNil) :=
  ⟨fun W t => pe_mthS0 (ho.pe W t) c hm (callS' G hcl hr t) ht, sim_mth .nil ho.sim (da_nil (X := X)).sim⟩
/-- .. where some are left out -/
theorem d_mthD {pl : Sem Bool} {ms : List V} {md : List D} (hm' : CRL K ms md) (c : Cls X.K C) (hm : Meth X.K C m f) (G : Kx X.prog X.w X.K X.mg X.base (L2.CX X.prog X.w) k x qual st dvs kwd f ps (spD K nn sp)) (hcl : Calm X.A) (hr : Room k X.A) (hb : ∀ fd, FunD X.K x qual (defArgs st) (defBody st) (defScope st) dvs kwd f fd → ∃ ds, Vals ms ds ∧ Binds X.K fd ps ds) (ho : DE X K ta o da) (ha : DA X K tr (e :: es) dr)
    (hst : starEach (e :: es) X.env = (false, eval e X.env) :: starEach es X.env := by rfl) (hpl : (backTo pos (starEach es X.env)).any (·.1) = false := by rfl)
    (ht : eval (.Call (.Attribute o m apos) (e :: es) [] pos) X.env = (do
      let ov ← eval o X.env
      standAt apos.atName
      let (f, first) ← holding [ov] (getMethod ov m pl)
      callWith pos f first (backTo pos (starEach (e :: es) X.env)) (backToKw pos (keywordEach [] X.env))) := by rfl) :
    DE X K (fun W => tMthS C m (fun σ vs H Q => spD K nn sp (vs ++ ms) H Q (WE W σ)) (ta W) (tr W)) (.Call (.Attribute o m apos) (e :: es) [] pos) (dMth C m sp nn md da dr) :=
  ⟨fun W t => pe_mthS (ho.pe W t) c hm (callRS_x G hcl hr hb t) (ha.pa W t) hst hpl ht, sim_mth hm' ho.sim ha.sim⟩
theorem d_mthD0 {pl : Sem Bool} {ms : List V} {md : List D} (hm' : CRL K ms md) (c : Cls X.K C) (hm : Meth X.K C m f) (G : Kx X.prog X.w X.K X.mg X.base (L2.CX X.prog X.w) k x qual st dvs kwd f ps (spD K nn sp)) (hcl : Calm X.A) (hr : Room k X.A) (hb : ∀ fd, FunD X.K x qual (defArgs st) (defBody st) (defScope st) dvs kwd f fd → ∃ ds, Vals ms ds ∧ Binds X.K fd ps ds) (ho : DE X K ta o da)
    (ht : eval (.Call (.Attribute o m apos) [] [] pos) X.env = (do
      let ov ← eval o X.env
      standAt apos.atName
      let (f, first) ← holding [ov] (getMethod ov m pl)
      callWith pos f first (backTo pos (starEach [] X.env)) (backToKw pos (keywordEach [] X.env))) := by rfl) :
    DE X K (fun W => tMthS C m (fun σ vs H Q => spD K nn sp (vs ++ ms) H Q (WE W σ)) (ta W) tNil) (.Call (.Attribute o m apos) [] [] pos) (dMth C m sp nn md da dNil) :=
  ⟨fun W t => pe_mthS0 (ho.pe W t) c hm (callRS_x G hcl hr hb t) ht, sim_mth hm' ho.sim (da_nil (X := X)).sim⟩
/-! fields -/
def dFld (C : Addr) (g : Str) (o : DTE) : DTE := fun w ρ L q => o w ρ L fun x L1 => ∃ fs d, vIns L1 x = some (C, fs) ∧ fs.lookup g = some d ∧ q d L1
theorem d_fld {g : Str} (hK : X.K = K) (c : Cls K C) (hn : NoAttr K C g) (ho : DE X K ta o da) (hb : attributeBase o g X.env (eval o X.env) = eval o X.env) : DE X K (fun W => tFld K (ta W) g) (.Attribute o g pos) (dFld C g da) := by
  subst hK
  refine ⟨fun W t => pe_fld (ho.pe W t) hb, fun W ew S σ ρ Q q I R h => ?_⟩
  refine ho.sim W ew S σ ρ _ _ I (fun S1 v x e1 k1 r1 h1 => ?_) h
  obtain ⟨fs, d, hv, hl, h1⟩ := h1
  obtain ⟨a, dx, gs, rfl, h2, h3⟩ := vIns_ok k1 r1 hv
  rcases h3.lookup g with ⟨z, _⟩ | ⟨d', v, z, z2, rv⟩
  · rw [hl] at z; cases z
  · rw [hl] at z
    cases z
    exact ⟨a, C, dx, gs, v, rfl, h2, c, hn, z2, R S1 _ _ e1 k1 rv h1⟩
def dSFld (C : Addr) (g : Str) (o v : DTE) : DTS := fun w D ρ L => v w ρ L fun y L1 => o w ρ L1 fun x L2 => ∃ a fs, x = .ref a ∧ L2 a = some (.ins C fs) ∧ fs.length < 1000 ∧ D.nx ρ (updL L2 a (.ins C (putFD g y fs)))
theorem ds_fld {g : Str} {pos' : Pos} (hK : X.K = K) (c : Cls K C) (hn : NoAttr K C g) (ho : DE X K ta o da) (hv : DE X K tb b db) (hs : swapsWith b (some (.Attribute o g pos')) pos.line X.env = pure false) : DS X K (fun W => sFld K (ta W) (tb W) g) (.Assign [.Attribute o g pos'] b pos) (dSFld C g da db) := by
  subst hK
  refine ⟨fun W t => ps_fld (ho.pe W t) (hv.pe W t) hs, fun W ew S σ ρ D d I R h => ?_⟩
  refine hv.sim W ew S σ ρ _ _ I (fun S1 v y e1 k1 r1 h1 => ?_) h
  refine ho.sim W ew S1 σ ρ _ _ (I.ev e1 k1) (fun S2 u x e2 k2 r2 h2 => ?_) h1
  obtain ⟨a, fs, rfl, hL, hl, h2⟩ := h2
  cases r2
  obtain ⟨_, dx, gs, h3, h4⟩ := k2.cell a _ hL
  have T : TabR X.K S2.H S2.Λ gs fs := h4
  have ev := ev_put (o := .ins C dx (L2.putF g v gs)) (c := .ins C (putFD g y fs)) hL k2
  exact ⟨a, C, dx, gs, rfl, h3, c, hn, by rw [T.len]; exact hl, R.nx (S2.put a (.ins C dx (L2.putF g v gs)) (.ins C (putFD g y fs))) σ ρ ((e1.trans e2).trans ev) (ok_put hL k2 ⟨dx, _, upd_same, (T.putF g (r1.ev e2)).ev ev⟩) (I.sl.ev ((e1.trans e2).trans ev)) h2⟩
end
end Ed

set_option Elab.async false
set_option linter.all false
set_option maxRecDepth 100000
set_option maxHeartbeats 2000000
/-! New instances; methods of built-in types; isinstance; empty dicts. -/
namespace Ed
open PySem PySem.Spec PyProof.Rows L2 Dz
theorem Gh.less {d : D} {L L' : Lc} (hL : ∀ a c, L' a = some c → L a = some c) : Gh d L d L' := fun K S v k e r => by
  subst e
  exact ⟨S.gone L', rfl, rfl, ev_gone hL, ok_gone hL k, r⟩
section
variable {X : Cx} {K : PySem.W.Frag} {k n nn : Nat} {f C : Addr} {ps ks : List Str} {sp : DSp} {x m qual : Str} {p pos apos : Pos} {e o a b : Expr} {es : List Expr} {kws : List Keyword} {tr tk : WX → TA} {dr dk : DTA} {st : Stmt} {dvs : List V} {kwd : List (Str × V)} {ta tb : WX → TE} {da db : DTE}
def dNew (C : Addr) (sp : DSp) (n mm : Nat) (g : List D → List D → List D) (np : Nat) (a b : DTA) : DTE := fun w ρ L q => a w ρ L fun ds L1 => b w ρ L1 fun es L2 => ds.length = n ∧ es.length = mm ∧ ∀ x, L2 x = none → (g (.ref x :: ds) es).length = np ∧
  sp (g (.ref x :: ds) es) (updL L2 x (.ins C [])) (fun d L3 => d = .non ∧ ∃ d' L4, Gh (.ref x) L3 d' L4 ∧ q d' L4) fun E gs L3 => ∃ L4, (∀ a c, L4 a = some c → L3 a = some c) ∧ w E gs ρ L4
theorem sim_new {is : List Nat} {ms : List V} {md : List D} (hm' : CRL K ms md) (ha : SimA K tr dr) (hk : SimA K tk dk) :
    SimE K (fun W => tCKS n ks.length (fun σ vs zs H Q => NewI C (spD K nn sp) (fun x => gPerm is ms (x :: vs) zs) H Q (WE W σ)) (tr W) (tk W)) (dNew C sp n ks.length (gPerm is md) nn dr dk) := fun W ew S σ ρ Q q I R h => by
  refine ha W ew S σ ρ _ _ I (fun S1 vs xs e1 k1 r1 h1 => ?_) h
  refine hk W ew S1 σ ρ _ _ (I.ev e1 k1) (fun S2 zs ys e2 k2 r2 h2 => ?_) h1
  obtain ⟨l1, l2, h2⟩ := h2
  refine ⟨by rw [r1.length]; exact l1, by rw [r2.length]; exact l2, fun x dx nx nd ne => ?_⟩
  have a1 := ev_new (o := .own x) nd k2
  have b1 := ok_new (o := .own x) nd k2
  have nx' : (S2.new dx (.own x)).H x = none := by
    show upd S2.H dx (.own x) x = none
    rw [upd_ne ne.symm]; exact nx
  have a2 := ev_newc (o := .ins C dx []) (c := .ins C []) nx' b1
  have b2 := ok_newc (K := K) (o := .ins C dx []) (c := .ins C []) nx' b1 ⟨dx, [], upd_same, rfl, .nil⟩
  have ee := (e1.trans e2).trans (a1.trans a2)
  obtain ⟨l3, h3⟩ := h2 x (k2.lno nx)
  refine ⟨(S2.new dx (.own x)).newc x (.ins C dx []) (.ins C []), gPerm is md (.ref x :: xs) ys, _, _, rfl, b2, gPerm_rp hm' (.cons (.ref x) ((r1.ev e2).ev (a1.trans a2))) (r2.ev (a1.trans a2)), l3, fun S' v d ev ok r hq => ?_, fun S' C' dd fs gs ev ok n1 n2 n3 n4 he => ?_, h3⟩
  · obtain ⟨rfl, d', L4, g, hq⟩ := hq
    cases r
    refine ⟨rfl, ?_⟩
    obtain ⟨T, t1, t2, e3, k3, r3⟩ := g K S' (.ref x) ok rfl (.ref x)
    subst t2
    have := R T _ d' ((ee.trans ev).trans e3) k3 r3 hq
    rw [t1] at this
    exact this
  · obtain ⟨L4, less, he⟩ := he
    have g1 := ev_gone (S := S') less
    exact I.wi (S'.gone L4) C' dd fs gs σ ρ ((ee.trans ev).trans g1) (ok_gone less ok) (I.sl.ev ((ee.trans ev).trans g1)) n1 n2 n3 (n4.ev g1) he
/-- C(e, .., k = v), a new instance -/
theorem d_new {is : List Nat} {ms : List V} {md : List D} (hm' : CRL K ms md) (G : Kx X.prog X.w X.K X.mg X.base (L2.CX X.prog X.w) k m qual st dvs kwd f ps (spD K nn sp)) (M : Mk X.K C f) (hcl : Calm X.A) (hr : Room (k + 1) X.A) (hb : ∀ fd, FunD X.K m qual (defArgs st) (defBody st) (defScope st) dvs kwd f fd → ∃ g, KBn X.K fd ps (n + 1) ks g (gPerm is ms))
    (hl : Gl X x) (hm : X.mg x = some (.ref C)) (ha : DA X K tr (e :: es) dr) (hkw : DK X K tk kws dk)
    (hall : (backToKw pos (keywordEach kws X.env)).all (·.1.isSome) = true := by rfl) (hks : (backToKw pos (keywordEach kws X.env)).filterMap (·.1) = ks := by rfl) (hdb : (x == ("__debug__" : Str)) = false := by decide)
    (he : starEach (e :: es) X.env = (false, eval e X.env) :: starEach es X.env := by rfl) (hpl : ((backTo pos (starEach (e :: es) X.env)).any (·.1) || (backToKw pos (keywordEach kws X.env)).any (·.1.isNone)) = false := by rfl) :
    DE X K (fun W => tCKS n ks.length (fun σ vs zs H Q => NewI C (spD K nn sp) (fun x => gPerm is ms (x :: vs) zs) H Q (WE W σ)) (tr W) (tk W)) (.Call (.Name x p) (e :: es) kws pos) (dNew C sp n ks.length (gPerm is md) nn dr dk) :=
  ⟨fun W t => pe_fnKS (callKS_mk G M hcl hr hb t) hl hm M.kp (ha.pa W t) (hkw.pk W t) hall hks hdb he hpl, sim_new hm' ha.sim hkw.sim⟩
theorem d_new0 {is : List Nat} {ms : List V} {md : List D} (hm' : CRL K ms md) (G : Kx X.prog X.w X.K X.mg X.base (L2.CX X.prog X.w) k m qual st dvs kwd f ps (spD K nn sp)) (M : Mk X.K C f) (hcl : Calm X.A) (hr : Room (k + 1) X.A) (hb : ∀ fd, FunD X.K m qual (defArgs st) (defBody st) (defScope st) dvs kwd f fd → ∃ g, KBn X.K fd ps (0 + 1) ks g (gPerm is ms))
    (hl : Gl X x) (hm : X.mg x = some (.ref C)) (hkw : DK X K tk kws dk)
    (hall : (backToKw pos (keywordEach kws X.env)).all (·.1.isSome) = true := by rfl) (hks : (backToKw pos (keywordEach kws X.env)).filterMap (·.1) = ks := by rfl) (hdb : (x == ("__debug__" : Str)) = false := by decide)
    (hpl : ((backTo pos (starEach [] X.env)).any (·.1) || (backToKw pos (keywordEach kws X.env)).any (·.1.isNone)) = false := by rfl) :
    DE X K (fun W => tCKS 0 ks.length (fun σ vs zs H Q => NewI C (spD K nn sp) (fun x => gPerm is ms (x :: vs) zs) H Q (WE W σ)) tNil (tk W)) (.Call (.Name x p) [] kws pos) (dNew C sp 0 ks.length (gPerm is md) nn dNil dk) :=
  ⟨fun W t => pe_fnKS0 (callKS_mk G M hcl hr hb t) hl hm M.kp (hkw.pk W t) hall hks hdb hpl, sim_new hm' (da_nil (X := X)).sim hkw.sim⟩
theorem dk_cons {kw : Keyword} (hp : ∀ W, Takes X W → PK X (kw :: kws) (tCons (ta W) (tr W))) (ha : SimE K ta da) (hr : SimA K tr dr) : DK X K (fun W => tCons (ta W) (tr W)) (kw :: kws) (dCons da dr) := ⟨hp, sim_cons ha hr⟩
/-! ### methods of built-in types -/
abbrev DRM := D → List D → Lc → DQ → Prop
def SimRM (K : PySem.W.Frag) (T : String) (r : V → List V → Hp → VK → Prop) (f : DRM) : Prop := ∀ (S S2 : Sta) (x : V) (a : D) (xs : List V) (as : List D) (Q : VK) (q : DQ), Ev S S2 → Ok K S → Ok K S2 → Rp K S.H S.Λ x a → RpL K S2.H S2.Λ xs as → RelQ K S2 Q q → f a as S2.L q → r x xs S2.H Q
/-- the receiver is of that type, ahead of the arguments -/
def tyD (L : Lc) (T : String) : D → Prop
  | .str _ => T = "str"
  | .lst _ => T = "list"
  | .dK _ => T = "dict"
  | .dT _ => T = "dict"
  | .ref a => (T = "list" ∧ ∃ ds, L a = some (.lst ds)) ∨ (T = "dict" ∧ ((∃ es, L a = some (.dK es)) ∨ ∃ es, L a = some (.dT es)))
  | _ => False
def dBM (T : String) (f : DRM) (o : DTE) (a : DTA) : DTE := fun w ρ L q => o w ρ L fun x L1 => tyD L1 T x ∧ a w ρ L1 fun ds L2 => f x ds L2 q
theorem tyD_ok {S : Sta} {T : String} {v : V} {d : D} (k : Ok K S) (r : Rp K S.H S.Λ v d) (h : tyD S.L T d) (nf : ∀ a, v = .ref a → ∀ o u, S.H a ≠ some (.frz o u)) : tyV K T v S.H := by
  cases r with
  | str x => exact h
  | lst n h1 h2 => exact .inl ⟨h, _, .of h1⟩
  | @dK a ks es n h1 h2 h3 =>
    rcases h1 with h1 | ⟨o, h1⟩
    · exact .inr (.inr (.inl ⟨h, .inl ⟨_, h1⟩⟩))
    · exact absurd h1 (nf _ rfl _ _)
  | @dT a ks es n h1 h2 h3 =>
    rcases h1 with h1 | ⟨o, h1⟩
    · exact .inr (.inr (.inl ⟨h, .inr ⟨_, h1⟩⟩))
    · exact absurd h1 (nf _ rfl _ _)
  | ref a =>
    rcases h with ⟨e, ds, h⟩ | ⟨e, h⟩
    · obtain ⟨_, xs, h1, h2⟩ := k.cell a _ h
      exact .inl ⟨e, _, .of h1⟩
    · rcases h with ⟨es, h⟩ | ⟨es, h⟩
      · obtain ⟨_, ks, h1, h2⟩ := k.cell a _ h
        exact .inr (.inr (.inl ⟨e, .inl ⟨_, h1⟩⟩))
      · obtain ⟨_, ks, h1, h2⟩ := k.cell a _ h
        exact .inr (.inr (.inl ⟨e, .inr ⟨_, h1⟩⟩))
  | _ => exact False.elim h
/-- lists and texts alone -/
def tyLS (L : Lc) (T : String) : D → Prop
  | .str _ => T = "str"
  | .lst _ => T = "list"
  | .ref a => T = "list" ∧ ∃ ds, L a = some (.lst ds)
  | _ => False
theorem tyLS_ok {S : Sta} {T : String} {v : V} {d : D} (k : Ok K S) (r : Rp K S.H S.Λ v d) (h : tyLS S.L T d) : tyV K T v S.H := by
  cases r with
  | str x => exact h
  | lst n h1 h2 => exact .inl ⟨h, _, .of h1⟩
  | ref a =>
    obtain ⟨e, ds, h⟩ := h
    obtain ⟨_, xs, h1, h2⟩ := k.cell a _ h
    exact .inl ⟨e, _, .of h1⟩
  | _ => exact False.elim h
def dBML (T : String) (f : DRM) (o : DTE) (a : DTA) : DTE := fun w ρ L q => o w ρ L fun x L1 => tyLS L1 T x ∧ a w ρ L1 fun ds L2 => f x ds L2 q
theorem d_bm {T id : String} {name : Str} {cpos : Pos} {r : V → List V → Hp → VK → Prop} {g : DRM} (hK : X.K = K) (pa : PlainAttrs T) (slot : Slot T name id) (hty : typeOf (.builtin id) = pure (.type "method_descriptor")) (hm : MtR X id r) (hs : SimRM K T r g) (ho : DE X K ta o da) (ha : DA X K tr (e :: es) dr)
    (hbase : attributeBase o name X.env (eval o X.env) = eval o X.env := by rfl)
    (hfew : ((backTo cpos (starEach (e :: es) X.env)).all (fun x => !x.1) && (backToKw cpos (keywordEach [] X.env)).all (fun x => x.1.isSome)
      && decide ((e :: es).length + ([] : List Keyword).length + (if ([] : List Keyword).isEmpty then 0 else 1) < 30)) = true := by rfl)
    (hline : (apos.endLine == cpos.line) = true := by rfl) (hst : starEach (e :: es) X.env = (false, eval e X.env) :: starEach es X.env := by rfl) (hplain : (backTo cpos (starEach es X.env)).any (·.1) = false := by rfl) :
    DE X K (fun W => tBM K T r (ta W) (tr W)) (.Call (.Attribute o name apos) (e :: es) [] cpos) (dBML T g da dr) := by
  subst hK
  refine ⟨fun W t => pe_bm pa slot hty hm (ho.pe W t) (ha.pa W t) hbase hfew hline hst hplain, fun W ew S σ ρ Q q I R h => ?_⟩
  refine ho.sim W ew S σ ρ _ _ I (fun S1 v x e1 k1 r1 h1 => ?_) h
  refine ⟨tyLS_ok k1 r1 h1.1, ?_⟩
  refine ha.sim W ew S1 σ ρ _ _ (I.ev e1 k1) (fun S2 vs xs e2 k2 r2 h2 => ?_) h1.2
  exact hs S1 S2 v x vs xs Q q e2 k1 k2 r1 r2 (R.ev (e1.trans e2)) h2
theorem d_bm0 {T id : String} {name : Str} {cpos : Pos} {r : V → List V → Hp → VK → Prop} {g : DRM} (hK : X.K = K) (pa : PlainAttrs T) (slot : Slot T name id) (hty : typeOf (.builtin id) = pure (.type "method_descriptor")) (hm : MtR X id r) (hs : SimRM K T r g) (ho : DE X K ta o da)
    (hbase : attributeBase o name X.env (eval o X.env) = eval o X.env := by rfl) (hline : (apos.endLine == cpos.line) = true := by rfl) :
    DE X K (fun W => tBM0 K T r (ta W)) (.Call (.Attribute o name apos) [] [] cpos) (dBML T g da dNil) := by
  subst hK
  refine ⟨fun W t => pe_bm0 pa slot hty hm (ho.pe W t) hbase hline, fun W ew S σ ρ Q q I R h => ?_⟩
  refine ho.sim W ew S σ ρ _ _ I (fun S1 v x e1 k1 r1 h1 => ?_) h
  exact ⟨tyLS_ok k1 r1 h1.1, hs S1 S1 v x [] [] Q q (.refl S1) k1 k1 r1 .nil (R.ev e1) h1.2⟩
/-- a cell's list is changed -/
def appendD : DRM := fun x xs L q => ∃ a ds y, x = .ref a ∧ xs = [y] ∧ L a = some (.lst ds) ∧ ds.length < sizeLine ∧ q .non (updL L a (.lst (ds ++ [y])))
theorem sim_append : SimRM K "list" rAppend appendD := by
  rintro S S2 x a xs as Q q e k k2 r rs R ⟨p, ds, y, rfl, rfl, h1, h2, h⟩
  cases r
  obtain ⟨v, rfl, rv⟩ := vals1R rs
  obtain ⟨_, us, h3, h4⟩ := k2.cell p _ h1
  have ev := ev_put (o := .lst (us ++ [v])) (c := .lst (ds ++ [y])) h1 k2
  exact ⟨p, us, v, rfl, rfl, h3, by rw [h4.length]; exact h2, R (S2.put p (.lst (us ++ [v])) (.lst (ds ++ [y]))) _ _ ev (ok_put h1 k2 ⟨_, upd_same, (h4.append (.cons rv .nil)).ev ev⟩) .non h⟩
def extendD : DRM := fun x xs L q => ∃ a ds y es, x = .ref a ∧ xs = [y] ∧ L a = some (.lst ds) ∧ vLst L y = some es ∧ ds.length + es.length ≤ sizeLine ∧ q .non (updL L a (.lst (ds ++ es)))
theorem sim_extend : SimRM K "list" rExtend extendD := by
  rintro S S2 x a xs as Q q e k k2 r rs R ⟨p, ds, y, es, rfl, rfl, h1, hy, h2, h⟩
  cases r
  obtain ⟨v, rfl, rv⟩ := vals1R rs
  obtain ⟨b, ws, rfl, h5, h6⟩ := vLst_ok k2 rv hy
  obtain ⟨_, us, h3, h4⟩ := k2.cell p _ h1
  have ev := ev_put (o := .lst (us ++ ws)) (c := .lst (ds ++ es)) h1 k2
  exact ⟨p, b, us, ws, rfl, rfl, h3, h5, by rw [h4.length, h6.length]; exact h2, R (S2.put p (.lst (us ++ ws)) (.lst (ds ++ es))) _ _ ev (ok_put h1 k2 ⟨_, upd_same, (h4.append h6).ev ev⟩) .non h⟩
def popAtD : DRM := fun x xs L q => ∃ a ds i j y, x = .ref a ∧ xs = [.int i] ∧ L a = some (.lst ds) ∧ -(2 ^ 63) ≤ i ∧ i < 2 ^ 63 ∧ seqIndex? i ds.length = some j ∧ ds[j]? = some y ∧ q y (updL L a (.lst (ds.eraseIdx j)))
theorem sim_popAt : SimRM K "list" rPopAt popAtD := by
  rintro S S2 x a xs as Q q e k k2 r rs R ⟨p, ds, i, j, y, rfl, rfl, h1, b1, b2, h2, hy, h⟩
  cases r
  obtain ⟨v, rfl, rv⟩ := vals1R rs
  cases rv
  obtain ⟨_, us, h3, h4⟩ := k2.cell p _ h1
  obtain ⟨u, hu, ru⟩ := h4.get hy
  have ev := ev_put (o := .lst (us.eraseIdx j)) (c := .lst (ds.eraseIdx j)) h1 k2
  exact ⟨p, us, i, j, u, rfl, rfl, h3, b1, b2, by rw [h4.length]; exact h2, hu, R (S2.put p (.lst (us.eraseIdx j)) (.lst (ds.eraseIdx j))) _ _ ev (ok_put h1 k2 ⟨_, upd_same, (h4.eraseIdx j).ev ev⟩) (ru.ev ev) h⟩
def reverseD : DRM := fun x xs L q => ∃ a ds, x = .ref a ∧ xs = [] ∧ L a = some (.lst ds) ∧ q .non (updL L a (.lst ds.reverse))
theorem sim_reverse : SimRM K "list" rReverse reverseD := by
  rintro S S2 x a xs as Q q e k k2 r rs R ⟨p, ds, rfl, rfl, h1, h⟩
  cases r; cases rs
  obtain ⟨_, us, h3, h4⟩ := k2.cell p _ h1
  have ev := ev_put (o := .lst us.reverse) (c := .lst ds.reverse) h1 k2
  exact ⟨p, us, rfl, rfl, h3, R (S2.put p (.lst us.reverse) (.lst ds.reverse)) _ _ ev (ok_put h1 k2 ⟨_, upd_same, h4.reverse.ev ev⟩) .non h⟩
/-- texts -/
def joinD : DRM := fun x xs L q => ∃ a y ys, x = .str a ∧ xs = [y] ∧ vSeq L y = some (List.map D.str ys) ∧ (ys.map (·.length)).sum + ys.length * a.length ≤ 16777216 ∧ q (.str (Txt.join a ys)) L
end
end Ed

set_option Elab.async false
set_option linter.all false
set_option maxRecDepth 100000
set_option maxHeartbeats 2000000
/-! Stars; texts; more methods; isinstance; dicts; raise, try. -/
namespace Ed
open PySem PySem.Spec PyProof.Rows L2 Dz
section
variable {X : Cx} {K : PySem.W.Frag} {k n : Nat} {f C : Addr} {ps ks : List Str} {sp : DSp} {x m qual : Str} {p pos apos cpos : Pos} {e o a b c : Expr} {es : List Expr} {kws : List Keyword} {tr tk : WX → TA} {dr dk : DTA} {st : Stmt} {dvs : List V} {kwd : List (Str × V)} {ta tb tc : WX → TE} {da db dc : DTE}
theorem dk_one {nm : Option Str} {kpos : Pos} (ha : DE X K ta e da) (hr : DK X K tr kws dr) : DK X K (fun W => tCons (ta W) (tr W)) (⟨nm, e, kpos⟩ :: kws) (dCons da dr) := ⟨fun W t => pk_cons (ha.pe W t) (hr.pk W t), sim_cons ha.sim hr.sim⟩
/-! stars -/
def dStar (a : DTE) (r : DTA) : DTA := fun w ρ L q => a w ρ L fun x L1 => ∃ ds, vSeq L1 x = some ds ∧ r w ρ L1 fun es L2 => q (ds ++ es) L2
theorem da_star {sp_ : Pos} (hK : X.K = K) (ha : DE X K ta a da) (hr : DA X K tr es dr) (hs : starEach (.Starred a sp_ :: es) X.env = (true, eval a X.env) :: starEach es X.env := by rfl) : DA X K (fun W => StX.tStar K (ta W) (tr W)) (.Starred a sp_ :: es) (dStar da dr) := by
  subst hK
  refine ⟨fun W t => StX.pa_star (ha.pe W t) (hr.pa W t) hs, fun W ew S σ ρ Q q I R h => ?_⟩
  refine ha.sim W ew S σ ρ _ _ I (fun S1 v x e1 k1 r1 h1 => ?_) h
  obtain ⟨ds, hv, h1⟩ := h1
  obtain ⟨p, xs, rfl, h2, h3⟩ := vSeq_ok k1 r1 hv
  refine ⟨p, xs, rfl, h2.symm, hr.sim W ew S1 σ ρ _ _ (I.ev e1 k1) (fun S2 vs ys e2 k2 r2 h4 => ?_) h1⟩
  exact R S2 _ _ (e1.trans e2) k2 ((h3.ev e2).append r2) h4
/-! texts -/
def rJoinA (K : PySem.W.Frag) : V → List V → Hp → VK → Prop := fun x xs H Q => ∃ a p, ∃ ys : List Str, x = .str a ∧ xs = [.ref p] ∧ (SqL K H p (ys.map V.str) ∨ SqT K H p (ys.map V.str)) ∧ (ys.map (·.length)).sum + ys.length * a.length ≤ 16777216 ∧ Q (.str (Txt.join a ys)) H
theorem mt_joinA (hK : X.K = K) : MtR X "str.join" (rJoinA K) := by subst hK; exact mt_join
theorem sim_join : SimRM K "str" (rJoinA K) joinD := by
  rintro S S2 x a xs as Q q e k k2 r rs R ⟨z, y, ys, rfl, rfl, h1, h2, h⟩
  cases r
  obtain ⟨v, rfl, rv⟩ := vals1R rs
  obtain ⟨p, us, rfl, h3, h4⟩ := vSeq_ok k2 rv h1
  exact ⟨z, p, ys, rfl, rfl, by rw [← h4.str_of]; exact h3, h2, R S2 _ _ (.refl S2) k2 (.str _) h⟩
def splitD : DRM := fun x xs L q => ∃ a b, x = .str a ∧ xs = [.str b] ∧ (b.length == 0) = false ∧ a.length + 2 ≤ sizeLine ∧ q (.lst ((Txt.split a b).map .str)) L
def rSplitA : V → List V → Hp → VK → Prop := fun x xs H Q => ∃ a b, x = .str a ∧ xs = [.str b] ∧ (b.length == 0) = false ∧ a.length + 2 ≤ sizeLine ∧ rNewStrs (Txt.split a b) H Q
theorem sim_split : SimRM K "str" rSplitA splitD := by
  rintro S S2 x a xs as Q q e k k2 r rs R ⟨z, b, rfl, rfl, h1, h2, h⟩
  cases r
  obtain ⟨v, rfl, rv⟩ := vals1R rs
  cases rv
  refine ⟨z, b, rfl, rfl, h1, h2, fun p np => ?_⟩
  have ev := ev_new (o := .lst ((Txt.split z b).map V.str)) np k2
  exact R _ _ _ ev (ok_new np k2) (.lst (k2.lam np) upd_same (RpL.strs (S := S2.new p _) _)) h
def upperD : DRM := fun x xs L q => ∃ a, x = .str a ∧ xs = [] ∧ a.length ≤ 5592405 ∧ q (.str (Txt.upper a)) L
theorem sim_upper : SimRM K "str" (fun x xs H Q => ∃ a, x = .str a ∧ xs = [] ∧ a.length ≤ 5592405 ∧ Q (.str (Txt.upper a)) H) upperD := by
  rintro S S2 x a xs as Q q e k k2 r rs R ⟨z, rfl, rfl, h1, h⟩
  cases r; cases rs
  exact ⟨z, rfl, rfl, h1, R S2 _ _ (.refl S2) k2 (.str _) h⟩
/-! lists -/
def insertD : DRM := fun x xs L q => ∃ a ds i y, x = .ref a ∧ xs = [.int i, y] ∧ L a = some (.lst ds) ∧ ds.length < sizeLine ∧ 0 ≤ i ∧ i < 2 ^ 63 ∧ q .non (updL L a (.lst (ds.take i.toNat ++ [y] ++ ds.drop i.toNat)))
def rInsert : V → List V → Hp → VK → Prop := fun x vs H Q => ∃ (l : Addr) (xs : List V) (i : Int) (y : V), x = .ref l ∧ vs = [.int i, y] ∧ H l = some (.lst xs) ∧ xs.length < sizeLine ∧ 0 ≤ i ∧ i < 2 ^ 63 ∧ Q .non (upd H l (.lst (xs.take i.toNat ++ [y] ++ xs.drop i.toNat)))
theorem sim_insert : SimRM K "list" rInsert insertD := by
  rintro S S2 x a xs as Q q e k k2 r rs R ⟨p, ds, i, y, rfl, rfl, h1, h2, b1, b2, h⟩
  cases r
  obtain ⟨v, w, rfl, rv, rw'⟩ := vals2R rs
  cases rv
  obtain ⟨_, us, h3, h4⟩ := k2.cell p _ h1
  have ev := ev_put (o := .lst (us.take i.toNat ++ [w] ++ us.drop i.toNat)) (c := .lst (ds.take i.toNat ++ [y] ++ ds.drop i.toNat)) h1 k2
  exact ⟨p, us, i, w, rfl, rfl, h3, by rw [h4.length]; exact h2, b1, b2, R (S2.put p _ _) _ _ ev (ok_put h1 k2 ⟨_, upd_same, (((h4.take _).append (.cons rw' .nil)).append (h4.drop _)).ev ev⟩) .non h⟩
def indexD : DRM := fun x xs L q => ∃ ds y us u j z, vRd L x = some ds ∧ xs = [y] ∧ scA ds = some us ∧ sc y = some u ∧ us[j]? = some z ∧ eqV z u = true ∧ (∀ m z', m < j → us[m]? = some z' → eqV z' u = false) ∧ q (.int (j : Nat)) L
/-! isinstance -/
def kindD (L : Lc) : D → Option String
  | .non => some "NoneType"
  | .bl _ => some "bool"
  | .int _ => some "int"
  | .str _ => some "str"
  | .lst _ => some "list"
  | .tup _ => some "tuple"
  | .ctup _ => some "tuple"
  | .scr _ => some "list"
  | .dK _ => some "dict"
  | .ref a => match L a with
    | some (.lst _) => some "list"
    | some (.dK _) => some "dict"
    | some (.dT _) => some "dict"
    | _ => none
  | _ => none
theorem kind_ok {S : Sta} {v : V} {d : D} {s : String} (k : Ok K S) (r : Rp K S.H S.Λ v d) (h : kindD S.L d = some s) : TyX K S.H v (.type s) := by
  cases r with
  | non => cases h; exact .base .non
  | bl b => cases h; exact .base (.bl b)
  | int i => cases h; exact .base (.int i)
  | str x => cases h; exact .base (.str x)
  | lst n h1 h2 => cases h; exact .base (.lst h1)
  | tup n h1 h2 => cases h; exact .base (.tup h1)
  | ctup h1 h2 =>
    cases h
    obtain ⟨o, its, n, l, c, _⟩ := h1
    exact .kTuple l c
  | scr h1 _ =>
    cases h
    rcases h1 with ⟨_, h1 | ⟨o, h1⟩⟩ | ⟨o, its, n, l, c, _⟩
    · exact .base (.lst h1)
    · exact .base (.frz h1)
    · exact .kList l c
  | dK n h1 h2 h3 =>
    cases h
    rcases h1 with h1 | ⟨o, h1⟩
    · exact .base (.dK h1)
    · exact .fDict h1
  | ref a =>
    unfold kindD at h
    cases e : S.L a with
    | none => simp [e] at h
    | some c =>
      cases c with
      | lst ds =>
        simp [e] at h; subst h
        obtain ⟨_, xs, h1, _⟩ := k.cell a _ e
        exact .base (.lst h1)
      | dK ds =>
        simp [e] at h; subst h
        obtain ⟨_, xs, h1, _⟩ := k.cell a _ e
        exact .base (.dK h1)
      | dT ds =>
        simp [e] at h; subst h
        obtain ⟨_, xs, h1, _⟩ := k.cell a _ e
        exact .base (.dT h1)
      | ins C fs => simp [e] at h
  | _ => cases h
/-- what a class of errors tells of itself -/
structure EIs (K : PySem.W.Frag) (C : Addr) : Prop where
  ei : EI K C
/-- isinstance(x, T), T a built-in class -/
def isiD : DRL := fun xs L q => ∃ x T s b, xs = [x, .ty T] ∧ kindD L x = some s ∧ kitB s T = some b ∧ q (.bl b) L
def rIsiB (K : PySem.W.Frag) : List V → Hp → VK → Prop := fun xs H Q => rIsi K xs H Q ∨ rIsiT K xs H Q
theorem call_isiA (hK : X.K = K) : CallR X (.builtin "isinstance") (rIsiB K) := by subst hK; exact call_isi.or call_isiT
theorem sim_isi : SimRL K (rIsiB K) isiD := by
  rintro S xs as Q q k r R ⟨x, T, s, b, rfl, h1, h2, h⟩
  obtain ⟨v, w, rfl, rv, rw'⟩ := vals2R r
  cases rw'
  exact .inl ⟨v, .ty T, .type s, .type T, b, rfl, .ty T, kind_ok k rv h1, kit_ty h2, R S _ _ (.refl S) k (.bl _) h⟩
/-- isinstance(x, (T, U)) -/
def isi2D : DRL := fun xs L q => ∃ x T U s b c, xs = [x, .tup [.ty T, .ty U]] ∧ kindD L x = some s ∧ kitB s T = some b ∧ kitB s U = some c ∧ q (.bl (b || c)) L
theorem sim_isi2 : SimRL K (rIsiB K) isi2D := by
  rintro S xs as Q q k r R ⟨x, T, U, s, b, c, rfl, h1, h2, h3, h⟩
  obtain ⟨v, w, rfl, rv, rw'⟩ := vals2R r
  cases rw' with
  | @tup tp us _ _ t1 r1 =>
  obtain ⟨u1, u2, rfl, ra, rb⟩ := vals2R r1
  cases ra; cases rb
  refine .inr ⟨v, tp, [.ty T, .ty U], .type s, [.type T, .type U], b || c, rfl, t1, .cons (.ty T) (.cons (.ty U) .nil), kind_ok k rv h1, ?_, R S _ _ (.refl S) k (.bl _) h⟩
  refine kitAny_cons (kit_ty h2) (fun hb => ?_) (fun hb => by rw [hb]; rfl)
  refine kitAny_cons (kit_ty h3) (fun hc => ?_) (fun hc => by rw [hc]; simp)
  rw [hb, hc]; rfl
/-! ### dicts -/
def dDK : DTE := fun _ _ L q => q (.dK []) L
def dDT : DTE := fun _ _ L q => q (.dT []) L
def dDKC : DTE := fun _ _ L q => ∀ p, L p = none → q (.ref p) (updL L p (.dK []))
def dDTC : DTE := fun _ _ L q => ∀ p, L p = none → q (.ref p) (updL L p (.dT []))
theorem d_dK : DE X K (fun _ => tDNewK) (.Dict [] [] pos) dDK := ⟨fun _ _ => pe_dnewK, fun W ew S σ ρ Q q I R h p np => R (S.new p (.dK [])) _ _ (ev_new np I.ok) (ok_new np I.ok) (.dK (I.ok.lam np) (.inl upd_same) rfl .nil) h⟩
theorem d_dT : DE X K (fun _ => tDNewT) (.Dict [] [] pos) dDT := ⟨fun _ _ => pe_dnewT, fun W ew S σ ρ Q q I R h p np => R (S.new p (.dT [])) _ _ (ev_new np I.ok) (ok_new np I.ok) (.dT (I.ok.lam np) (.inl upd_same) rfl .nil) h⟩
theorem d_dKC : DE X K (fun _ => tDNewK) (.Dict [] [] pos) dDKC := ⟨fun _ _ => pe_dnewK, fun W ew S σ ρ Q q I R h p np => R (S.newc p (.dK []) (.dK [])) _ _ (ev_newc np I.ok) (ok_newc np I.ok ⟨[], upd_same, rfl, .nil⟩) (.ref p) (h p (I.ok.lno np))⟩
theorem d_dTC : DE X K (fun _ => tDNewT) (.Dict [] [] pos) dDTC := ⟨fun _ _ => pe_dnewT, fun W ew S σ ρ Q q I R h p np => R (S.newc p (.dT []) (.dT [])) _ _ (ev_newc np I.ok) (ok_newc np I.ok ⟨[], upd_same, rfl, .nil⟩) (.ref p) (h p (I.ok.lno np))⟩
/-- d.get(k), d.get(k, x) -/
def isDD (L : Lc) (x : D) : Prop := (∃ es, vDK L x = some es) ∨ ∃ es, vDT L x = some es
theorem isDD_ok {S : Sta} {v : V} {d : D} (k : Ok K S) (r : Rp K S.H S.Λ v d) (h : isDD S.L d) : ∃ a, v = .ref a ∧ IsD S.H a := by
  rcases h with ⟨es, h⟩ | ⟨es, h⟩
  · obtain ⟨a, ks, rfl, h1, _⟩ := vDK_ok k r h
    exact ⟨a, rfl, .inl ⟨ks, h1⟩⟩
  · obtain ⟨a, ks, rfl, h1, _⟩ := vDT_ok k r h
    exact ⟨a, rfl, .inr ⟨ks, h1⟩⟩
def dGet1 (o y : DTE) : DTE := fun w ρ L q => o w ρ L fun x L1 => isDD L1 x ∧ y w ρ L1 fun z L2 => ∃ r, DGetD L2 x z r ∧ q (r.getD .non) L2
def dGet2 (o y u : DTE) : DTE := fun w ρ L q => o w ρ L fun x L1 => isDD L1 x ∧ y w ρ L1 fun z L2 => u w ρ L2 fun d L3 => ∃ r, DGetD L3 x z r ∧ q (r.getD d) L3
theorem d_get1 (hu : X.A.units + 1 < cLine) (ho : DE X K ta o da) (he : DE X K tb b db) (m : M1 X o "get" apos b cpos) : DE X K (fun W => tDGet1 (ta W) (tb W)) (.Call (.Attribute o "get" apos) [b] [] cpos) (dGet1 da db) := by
  refine ⟨fun W t => pe_dget1 hu (ho.pe W t) (he.pe W t) m, fun W ew S σ ρ Q q I R h => ?_⟩
  refine ho.sim W ew S σ ρ _ _ I (fun S1 v x e1 k1 r1 h1 => ?_) h
  obtain ⟨a, rfl, hd⟩ := isDD_ok k1 r1 h1.1
  refine ⟨a, rfl, hd, he.sim W ew S1 σ ρ _ _ (I.ev e1 k1) (fun S2 u y e2 k2 r2 h2 => ?_) h1.2⟩
  obtain ⟨r, g, h2⟩ := h2
  obtain ⟨a', w, ea, g', hw⟩ := g.ok k2 (r1.ev e2) r2
  cases ea
  refine ⟨w, g', ?_⟩
  rcases hw with ⟨rfl, rfl⟩ | ⟨d, z, rfl, rfl, rz⟩
  · exact R S2 _ _ (e1.trans e2) k2 .non h2
  · exact R S2 _ _ (e1.trans e2) k2 rz h2
theorem d_get2 (hu : X.A.units + 1 < cLine) (ho : DE X K ta o da) (he : DE X K tb b db) (hc : DE X K tc c dc) (m : M2 X o "get" apos b c cpos) : DE X K (fun W => tDGet2 (ta W) (tb W) (tc W)) (.Call (.Attribute o "get" apos) [b, c] [] cpos) (dGet2 da db dc) := by
  refine ⟨fun W t => pe_dget2 hu (ho.pe W t) (he.pe W t) (hc.pe W t) m, fun W ew S σ ρ Q q I R h => ?_⟩
  refine ho.sim W ew S σ ρ _ _ I (fun S1 v x e1 k1 r1 h1 => ?_) h
  obtain ⟨a, rfl, hd⟩ := isDD_ok k1 r1 h1.1
  refine ⟨a, rfl, hd, he.sim W ew S1 σ ρ _ _ (I.ev e1 k1) (fun S2 u y e2 k2 r2 h2 => ?_) h1.2⟩
  refine hc.sim W ew S2 σ ρ _ _ (I.ev (e1.trans e2) k2) (fun S3 t d e3 k3 r3 h3 => ?_) h2
  obtain ⟨r, g, h3⟩ := h3
  obtain ⟨a', w, ea, g', hw⟩ := g.ok k3 ((r1.ev e2).ev e3) (r2.ev e3)
  cases ea
  refine ⟨w, g', ?_⟩
  rcases hw with ⟨rfl, rfl⟩ | ⟨d, z, rfl, rfl, rz⟩
  · exact R S3 _ _ ((e1.trans e2).trans e3) k3 r3 h3
  · exact R S3 _ _ ((e1.trans e2).trans e3) k3 rz h3
/-! ### raise, try -/
def dRaise (C : Addr) (g : Str) (a : DTA) : DTS := fun w _ ρ L => a w ρ L fun xs L1 => ∃ y, xs = [y] ∧ w C [(g, y)] ρ L1
theorem ds_raise {g : Str} {fI : Addr} (T : Er X.K X.mg x g C fI) (G : Kp X.prog X.w X.K X.mg X.base CX0 k fI ["self", "found"] [] (spErr g C)) (hc : X.calm = true) (hcl : Calm X.A) (hr : Room (k + 1) X.A) (hg : Gl X x) (ha : DA X K tr (e :: es) dr)
    (hdb : (x == ("__debug__" : Str)) = false := by decide) (hst : starEach (e :: es) X.env = (false, eval e X.env) :: starEach es X.env := by rfl) (hpl : (backTo pos (starEach es X.env)).any (·.1) = false := by rfl) {pos' : Pos} :
    DS X K (fun W => tRz W (tMkE C g (tr W))) (.Raise (some (.Call (.Name x p) (e :: es) [] pos)) none pos') (dRaise C g dr) := by
  refine ⟨fun W t => ps_rz hc t (pmk_err T G hcl hr hg (ha.pa W t) hdb hst hpl), fun W ew S σ ρ D d I R h => ?_⟩
  refine ha.sim W ew S σ ρ _ _ I (fun S1 vs xs e1 k1 r1 h1 => ?_) h
  obtain ⟨y, rfl, h1⟩ := h1
  obtain ⟨v, rfl, rv⟩ := vals1R r1
  refine ⟨v, rfl, fun dd nd => ?_⟩
  have ev := ev_new (o := .xd [(g, v)]) nd k1
  exact I.wi (S1.new dd (.xd [(g, v)])) C dd [(g, v)] [(g, y)] σ ρ (e1.trans ev) (ok_new nd k1) (I.sl.ev (e1.trans ev)) (k1.lam nd) upd_same rfl (.cons (rv.ev ev) .nil) h1
/-- a clause: its class, its name's slot, its suite (by the error's own places) -/
structure DCl where
  c : Addr
  i : Option Nat
  ds : Addr → Addr → Addr → DTS
def DEnds.gone (D : DEnds) : Option Nat → DEnds
  | some i => ⟨fun ρ L => D.nx (ρ.set i none) L, D.rt, fun ρ L => D.bk (ρ.set i none) L, fun ρ L => D.ct (ρ.set i none) L⟩
  | none => D
def dput (ρ : Dv) (d : D) : Option Nat → Dv
  | some i => ρ.set i (some d)
  | none => ρ
/-- the clauses, one behind the other -/
def dCls (K : PySem.W.Frag) (w : EW) (D : DEnds) : List (Option DCl) → EW
  | [] => w
  | none :: _ => fun _ _ _ _ => False
  | some q :: l => fun C gs ρ L => ∃ b, PySem.W.exmOne K (.ref C) (.ref q.c) = some b ∧ (b = true → ∀ a dd, q.ds a dd C noW (D.gone q.i) (dput ρ (.exo a dd C gs) q.i) L) ∧ (b = false → dCls K w D l C gs ρ L)
def dTry (K : PySem.W.Frag) (tb : DTS) (l : List (Option DCl)) : DTS := fun w D ρ L => tb (dCls K w D l) D ρ L
inductive DHds (X : Cx) (K : PySem.W.Frag) : List ExceptHandler → List (Option Cl) → List (Option DCl) → Prop
  | nil : DHds X K [] [] []
  | never {hds : List ExceptHandler} : DHds X K hds [none] [none]
  | as_ {x n : Str} {c : Addr} {i : Nat} {ts : Addr → Value → Option Addr → WX → TS} {ds : Addr → Addr → Addr → DTS} {b₀ : Stmt} {suite : List Stmt} {np pos' : Pos} {hds : List ExceptHandler} {l : List (Option Cl)} {dl : List (Option DCl)} (hi : X.N[i]? = some n) (hln : X.env.kindOf n = some .local) (hc : Names X x (.ref c))
      (hsu : ∀ (a : Addr) (oe : Obj) (cls : Value) (d : Option Addr) (pn : List (Addr × Obj)), Zc cls d oe → (∃ vs, oe.data = .fields vs) → ∀ W, Takes (X.suite a ((a, oe) :: pn)) W → PSs (X.suite a ((a, oe) :: pn)) (b₀ :: suite) (ts a cls d W))
      (sim : ∀ a dd C, SimS K (ts a (.ref C) (some dd)) (ds a dd C)) (r : DHds X K hds l dl) :
      DHds X K (.ExceptHandler (some (.Name x np)) (some n) (b₀ :: suite) pos' :: hds) (some ⟨.ref c, some i, fun a cls d => ts a cls d fun _ _ _ _ => False⟩ :: l) (some ⟨c, some i, ds⟩ :: dl)
  | plain {x : Str} {c : Addr} {ts : Addr → Value → Option Addr → WX → TS} {ds : Addr → Addr → Addr → DTS} {b₀ : Stmt} {suite : List Stmt} {np pos' : Pos} {hds : List ExceptHandler} {l : List (Option Cl)} {dl : List (Option DCl)} (hc : Names X x (.ref c))
      (hsu : ∀ (a : Addr) (oe : Obj) (cls : Value) (d : Option Addr) (pn : List (Addr × Obj)), Zc cls d oe → (∃ vs, oe.data = .fields vs) → ∀ W, Takes (X.suite a ((a, oe) :: pn)) W → PSs (X.suite a ((a, oe) :: pn)) (b₀ :: suite) (ts a cls d W))
      (sim : ∀ a dd C, SimS K (ts a (.ref C) (some dd)) (ds a dd C)) (r : DHds X K hds l dl) :
      DHds X K (.ExceptHandler (some (.Name x np)) none (b₀ :: suite) pos' :: hds) (some ⟨.ref c, none, fun a cls d => ts a cls d fun _ _ _ _ => False⟩ :: l) (some ⟨c, none, ds⟩ :: dl)
theorem DHds.hds {hds : List ExceptHandler} {l : List (Option Cl)} {dl : List (Option DCl)} (h : DHds X K hds l dl) : Hds X hds l := by
  induction h with
  | nil => exact .nil
  | never => exact .never
  | as_ hi hln hc hsu sim r ih => exact .as_ hi hln hc (fun a oe cls d pn hz hf => hsu a oe cls d pn hz hf _ takes0) ih
  | plain hc hsu sim r ih => exact .plain hc (fun a oe cls d pn hz hf => hsu a oe cls d pn hz hf _ takes0) ih
theorem noW_rel {S : Sta} : RelW K S (fun _ _ _ _ => False) noW := fun _ _ _ _ _ _ _ _ _ _ _ _ _ _ z => z.elim
/-- what the clauses wish, of both levels -/
theorem cls_rel {hds : List ExceptHandler} {l : List (Option Cl)} {dl : List (Option DCl)} (h : DHds X K hds l dl) {S : Sta} {W : WX} {ew : EW} {D : Ends} {d : DEnds} (hw : RelW K S W ew) (hd : RelD K S D d) : RelW K S (wN K W D l) (dCls K ew d dl) := by
  induction h with
  | nil => exact hw
  | never => exact fun _ _ _ _ _ _ _ _ _ _ _ _ _ _ z => z.elim
  | @as_ x n c i ts ds b₀ suite np pos' hds l dl hi hln hc hsu sim r ih =>
    intro S' C dd fs gs σ ρ ev ok s n1 n2 n3 n4 hh
    obtain ⟨b, hb, yes, no⟩ := hh
    refine ⟨b, hb, fun e a na => ?_, fun e => ih S' C dd fs gs σ ρ ev ok s n1 n2 n3 n4 (no e)⟩
    refine sim a dd C _ noW S' (σ.set i (some (.ref a))) (ρ.set i (some (.exo a dd C gs))) (Ends.gone D (some i)) (DEnds.gone d (some i)) ⟨ok, s.set (.exo n1 n2 n3 n4), noW_rel⟩ ⟨fun T σ2 ρ2 ev2 ok2 s2 h2 => ?_, hd.rt.ev ev, fun T σ2 ρ2 ev2 ok2 s2 h2 => ?_, fun T σ2 ρ2 ev2 ok2 s2 h2 => ?_⟩ (yes e a dd)
    · exact hd.nx T _ _ (ev.trans ev2) ok2 s2.unset h2
    · exact hd.bk T _ _ (ev.trans ev2) ok2 s2.unset h2
    · exact hd.ct T _ _ (ev.trans ev2) ok2 s2.unset h2
  | @plain x c ts ds b₀ suite np pos' hds l dl hc hsu sim r ih =>
    intro S' C dd fs gs σ ρ ev ok s n1 n2 n3 n4 hh
    obtain ⟨b, hb, yes, no⟩ := hh
    refine ⟨b, hb, fun e a na => ?_, fun e => ih S' C dd fs gs σ ρ ev ok s n1 n2 n3 n4 (no e)⟩
    exact sim a dd C _ noW S' σ ρ _ _ ⟨ok, s, noW_rel⟩ (hd.ev ev) (yes e a dd)
theorem ds_try {body : List Stmt} {h₀ : ExceptHandler} {hds : List ExceptHandler} {l : List (Option Cl)} {dl : List (Option DCl)} {tb : WX → TS} {db : DTS} (hK : X.K = K) (hs : X.stack = X.env :: X.outer) (hf : X.env.frame = some X.env.locals) (hN : X.N.Nodup)
    (hb : ∀ (pn : List (Addr × Obj)) (xe : Value → Shared → Prop), PassesOwn (model X.prog X.w) X.A X.env xe → DSs (X.tr pn xe) K tb body db) (hh : DHds X K (h₀ :: hds) l dl) :
    DS X K (fun W => tTryN tb K W l) (.Try body (h₀ :: hds) [] [] pos) (dTry K db dl) := by
  subst hK
  refine ⟨fun W t => ps_tryN hs hf hN t (fun W pn xe tk po => (hb pn xe po).ps W tk) hh.hds, fun W ew S σ ρ D d I R h => ?_⟩
  have B := hb [] (fun _ _ => False) PassesOwn.never
  exact B.sim _ _ S σ ρ D d ⟨I.ok, I.sl, cls_rel hh I.wi R⟩ R h
/-- e.f of a caught error -/
def dXf (a dd C : Addr) (g : Str) (o : DTE) : DTE := fun w ρ L q => o w ρ L fun x L1 => ∃ gs d, x = .exo a dd C gs ∧ gs.lookup g = some d ∧ q d L1
end
end Ed

set_option Elab.async false
set_option linter.all false
set_option maxRecDepth 100000
set_option maxHeartbeats 2000000
/-! x in l, where one turn may change the state. -/
namespace Ed
open PySem PySem.Spec PySem.SeqAt
open AutoSeq1 (wpAny_loadPart')
open MeetsSeq MeetsSeq2 MeetsSeq3 SeqRoads2
section
variable {prog : Program} {w : World} {A : Around} {R : Result → Shared → Prop}
def TurnI (prog : Program) (w : World) (A : Around) (E : Value → Shared → Prop) (l : Addr) (x : Value) (N : Nat) (I : Nat → Shared → Prop) (Y : Shared → Prop) : Prop :=
  ∀ i s, I i s → ∃ (items : Array Value) (n : Nat), s.heap.get? l = some { cls := .type "list", data := .seq items n } ∧ items.size = N ∧
    ∀ h1 : i < items.size, wpAny (model prog w) A.in1 (eqBool items[i] x) (fun r s' => (r = true → Y s') ∧ (r = false → I (i + 1) s')) E s
theorem contains_loopG (l : Addr) (x : Value) (N : Nat) (I : Nat → Shared → Prop) (Y : Shared → Prop) (hl : TurnI prog w A (fun e s' => R (.error e) s') l x N I Y)
    (yes : ∀ s, Y s → R (.ok (.ret (.bool true))) s) (fin : ∀ s, I N s → R (.ok (.ret (.bool false))) s) (k : Nat) :
    ∀ i : Nat, N - i = k → i ≤ N → ∀ s, I i s →
      wpAny (model prog w) A.in1 (Builtin.«list.__contains__.loop» ⟨[.ref l, x, rawInt i], []⟩) (GQ.FinOf prog w A R) (fun e s' => R (.error e) s') s := by
  induction k with
  | zero =>
    intro i hk hi s h
    obtain ⟨items, n, hl1, hs1, _⟩ := hl _ _ h
    have hi' : i = N := by omega
    have hR : R (.ok (.ret (.bool false))) s := fin s (hi' ▸ h)
    obtain ⟨hp, g, d, tk, os⟩ := s
    wp_walk using wpAny_loadPart' hl1
    have hi1 : items[((i : Nat) : Int).toNat]? = none := by simp; omega
    rw [hi1]
    wp_walk
    exact hR
  | succ k ih =>
    intro i hk hi s h
    obtain ⟨items, n, hl1, hs1, turn⟩ := hl _ _ h
    have hlt : i < items.size := by omega
    have ht := turn hlt
    obtain ⟨hp, g, d, tk, os⟩ := s
    wp_walk using wpAny_loadPart' hl1
    have hi1 : items[((i : Nat) : Int).toNat]? = some items[i] := by simp [hlt]
    have hc : ((i : Int) + 1) = ((i + 1 : Nat) : Int) := by omega
    rw [hi1]
    refine wpAny_bind (wpAny_mono ht (fun r s2 h2 => ?_) fun _ _ x => x)
    cases r with
    | true =>
      have y := yes s2 (h2.1 rfl)
      obtain ⟨hp2, g2, d2, tk2, os2⟩ := s2
      wp_walk
      exact y
    | false =>
      have hrec := ih (i + 1) (by omega) (by omega) s2 (h2.2 rfl)
      obtain ⟨hp2, g2, d2, tk2, os2⟩ := s2
      wp_walk
      rw [hc]
      exact ⟨plainId_quiet plain_contains_loop _, codeAny_builtin entry_contains_loop (by
        rw [Around.under_plainId plain_contains_loop _]
        exact hrec)⟩
theorem list_containsG (l : Addr) (x : Value) (N : Nat) (I : Nat → Shared → Prop) (Y : Shared → Prop) (hl : TurnI prog w A (fun e s' => R (.error e) s') l x N I Y)
    (yes : ∀ s, Y s → R (.ok (.ret (.bool true))) s) (fin : ∀ s, I N s → R (.ok (.ret (.bool false))) s) {s : Shared} (h : I 0 s) :
    wpAny (model prog w) A.in1 (Builtin.«list.__contains__» ⟨[.ref l, x], []⟩) (GQ.FinOf prog w A R) (fun e s' => R (.error e) s') s := by
  obtain ⟨items, n, hl1, hs1, _⟩ := hl _ _ h
  have hrec := contains_loopG (A := A) (R := R) l x N I Y hl yes fin _ 0 rfl (Nat.zero_le _) s h
  obtain ⟨hp, g, d, tk, os⟩ := s
  wp_walk using wpAny_loadPart' hl1
  exact ⟨plainId_quiet plain_contains_loop _, codeAny_builtin entry_contains_loop (by
    rw [Around.under_plainId plain_contains_loop _]
    exact hrec)⟩
end
section
variable {prog : Program} {w : World} {A : Around} {E : Value → Shared → Prop} {s : Shared}
theorem call_containsG {l : Addr} {x : Value} {N : Nat} {Q : Value → Shared → Prop} (I : Nat → Shared → Prop) (Y : Shared → Prop) (hl : TurnI prog w A E l x N I Y)
    (yes : ∀ s, Y s → Q (.bool true) s) (fin : ∀ s, I N s → Q (.bool false) s) (h : I 0 s) : wpAny (model prog w) A (call (.builtin "list.__contains__") [.ref l, x]) Q E s := by
  obtain ⟨items, n, hl1, _, _⟩ := hl _ _ h
  refine GQ.call_here F.slot_list_contains ⟨_, hl1, rfl⟩ F.entry_list_contains (F.args_list_contains_2 _ _) ?_
  exact list_containsG (R := wants Q E) l x N I Y hl (fun s' q => yes s' q) (fun s' q => fin s' q) h
end
end Ed

set_option Elab.async false
set_option linter.all false
set_option maxRecDepth 100000
set_option maxHeartbeats 2000000
/-! A text's own class: ==, in, isinstance, str. -/
namespace Ed
open PySem PySem.Spec PyProof.Rows L2 Dz
def noE : DE_ := fun _ _ _ => False
theorem relE_no {K : PySem.W.Frag} {S : Sta} : RelE K S E0 noE := fun _ _ _ _ _ _ _ _ _ _ _ z => z.elim
theorem passX0 {X : Cx} : Passes (L2.CX X.prog X.w) X E0 := fun _ _ _ _ _ _ _ h => by
  obtain ⟨_, _, _, _, _, _, _, _, _, _, _, _, z⟩ := h
  exact z.elim
/-- an operation as its data tell it -/
def rOf (K : PySem.W.Frag) (f : DR2) : R2 := fun x y H Q => ∃ (S : Sta) (a b : D) (q : DQ), S.H = H ∧ Ok K S ∧ Rp K S.H S.Λ x a ∧ Rp K S.H S.Λ y b ∧ RelQ K S Q q ∧ f a b S.L q
theorem sim_of {K : PySem.W.Frag} {f : DR2} : SimR2 K (rOf K f) f := fun S x y a b Q q k rx ry R h => ⟨S, a, b, q, rfl, k, rx, ry, R, h⟩
def rOfL (K : PySem.W.Frag) (f : DRL) : List V → Hp → VK → Prop := fun xs H Q => ∃ (S : Sta) (as : List D) (q : DQ), S.H = H ∧ Ok K S ∧ RpL K S.H S.Λ xs as ∧ RelQ K S Q q ∧ f as S.L q
theorem sim_ofL {K : PySem.W.Frag} {f : DRL} : SimRL K (rOfL K f) f := fun S xs as Q q k r R h => ⟨S, as, q, rfl, k, r, R, h⟩
/-- kinds of built-in things whose type is known -/
def kind5 (L : Lc) : D → Option String
  | .non => some "NoneType"
  | .bl _ => some "bool"
  | .int _ => some "int"
  | .str _ => some "str"
  | .lst _ => some "list"
  | .tup _ => some "tuple"
  | .ref a => match L a with
    | some (.lst _) => some "list"
    | some (.dK _) => some "dict"
    | _ => none
  | _ => none
theorem kind5_ok {K : PySem.W.Frag} {S : Sta} {v : V} {d : D} {s : String} (k : Ok K S) (r : Rp K S.H S.Λ v d) (h : kind5 S.L d = some s) : Ty5 S.H v (.type s) := by
  cases r with
  | non => cases h; exact .non
  | bl b => cases h; exact .bl b
  | int i => cases h; exact .int i
  | str x => cases h; exact .str x
  | lst n h1 h2 => cases h; exact .lst h1
  | tup n h1 h2 => cases h; exact .tup h1
  | ref a =>
    unfold kind5 at h
    cases e : S.L a with
    | none => simp [e] at h
    | some c =>
      cases c with
      | lst ds =>
        simp [e] at h; subst h
        obtain ⟨_, xs, h1, _⟩ := k.cell a _ e
        exact .lst h1
      | dK ds =>
        simp [e] at h; subst h
        obtain ⟨_, xs, h1, _⟩ := k.cell a _ e
        exact .dK h1
      | dT ds => simp [e] at h
      | ins C fs => simp [e] at h
  | _ => cases h
def b7 : List String := ["NoneType", "bool", "int", "str", "list", "tuple", "dict"]
theorem kind5_b7 {L : Lc} {d : D} {s : String} (h : kind5 L d = some s) : s ∈ b7 := by
  unfold kind5 at h
  split at h
  any_goals (cases h; simp [b7])
  · split at h <;> first | cases h; done | (cases h; simp [b7])
  · cases h
theorem kindD_b7 {L : Lc} {d : D} {s : String} (h : kindD L d = some s) : s ∈ b7 := by
  unfold kindD at h
  split at h
  any_goals (cases h; simp [b7])
  · split at h <;> first | cases h; done | (cases h; simp [b7])
  · cases h
/-- what the top tells of an own class with its own == -/
structure OwnC (K : PySem.W.Frag) (C : Addr) : Prop where
  cl : Cls K C
  ca : PySem.W.findIn K (.ref C) "__class__" = some (some (.builtin "object.__class__"))
  cn : PySem.W.specialIn K (.builtin "object.__class__") "__get__" = some (some (.builtin "getset_descriptor.__get__"))
  ct : PySem.W.takesIn K (.builtin "object.__class__") = some true
  cm : PySem.W.mroIn K C (.type "object") = some true
  ic : PySem.W.isClsIn K C = true
  ty : PySem.W.typeIn K (.ref C) = some (.type "type")
  ns : NoSub K C
  nb : ∀ T, T ∈ b7 → PySem.W.subIn K (.type T) (.ref C) = some false
  nf : ∀ T, T ∈ b7 → PySem.W.notFirst K C (.type T) = true
theorem nf_self {K : PySem.W.Frag} {C : Addr} : PySem.W.notFirst K C (.ref C) = true := by simp [PySem.W.notFirst]
theorem kitOwn {K : PySem.W.Frag} {C : Addr} (c : OwnC K C) {T : String} (h : T ∈ b7) : PySem.W.kitOne K (.type T) (.ref C) = some false := by
  unfold PySem.W.kitOne PySem.W.kitCls
  rw [if_neg (by intro z; cases z)]
  have e : ((PySem.W.clsIn K C).isSome && PySem.W.typeIn K (.ref C) == some (.type "type")) = true := by
    rw [c.ty]
    have := c.ic
    unfold PySem.W.isClsIn at this
    simp [this]
  show (if _ = true then _ else none) = _
  rw [if_pos e]
  exact c.nb T h
theorem kitSelf {K : PySem.W.Frag} {C : Addr} : PySem.W.kitOne K (.ref C) (.ref C) = some true := by
  unfold PySem.W.kitOne
  rw [if_pos (by simp)]
theorem tyx_own {K : PySem.W.Frag} {C : Addr} (c : OwnC K C) {H : Hp} {a dx : Addr} {fs : List (Str × V)} (h : H a = some (.ins C dx fs)) : TyX K H (.ref a) (.ref C) :=
  .base (.ins h c.cl c.ca c.cn c.ct c.cm)
/-- isinstance(x, C) -/
def isiOD (C : Addr) : DRL := fun xs L q => ∃ x, xs = [x, .ref C] ∧ ((∃ s, kindD L x = some s ∧ q (.bl false) L) ∨ ∃ fs, vIns L x = some (C, fs) ∧ q (.bl true) L)
theorem sim_isiO {K : PySem.W.Frag} {C : Addr} (c : OwnC K C) : SimRL K (rIsiB K) (isiOD C) := by
  rintro S xs as Q q k r R ⟨x, rfl, h⟩
  obtain ⟨v, w, rfl, rv, rw'⟩ := vals2R r
  cases rw'
  rcases h with ⟨s, h1, h⟩ | ⟨fs, h1, h⟩
  · exact .inl ⟨v, .ref C, .type s, .ref C, false, rfl, .own C, kind_ok k rv h1, kitOwn c (kindD_b7 h1), R S _ _ (.refl S) k (.bl _) h⟩
  · obtain ⟨a, dx, gs, rfl, h2, _⟩ := vIns_ok k rv h1
    exact .inl ⟨.ref a, .ref C, .ref C, .ref C, true, rfl, .own C, tyx_own c h2, kitSelf, R S _ _ (.refl S) k (.bl _) h⟩
/-- .. a built-in class -/
def isiBD (C : Addr) : DRL := fun xs L q => ∃ x T fs, xs = [x, .ty T] ∧ vIns L x = some (C, fs) ∧ (T = "int" ∨ T = "bool" ∨ T = "str" ∨ T = "list" ∨ T = "tuple" ∨ T = "dict") ∧ q (.bl false) L
theorem sim_isiOB {K : PySem.W.Frag} {C : Addr} (c : OwnC K C) : SimRL K (rIsiB K) (isiBD C) := by
  rintro S xs as Q q k r R ⟨x, T, fs, rfl, h1, hT, h⟩
  obtain ⟨v, w, rfl, rv, rw'⟩ := vals2R r
  cases rw'
  obtain ⟨a, dx, gs, rfl, h2, _⟩ := vIns_ok k rv h1
  refine .inl ⟨.ref a, .ty T, .ref C, .type T, false, rfl, .ty T, tyx_own c h2, ?_, R S _ _ (.refl S) k (.bl _) h⟩
  rcases hT with rfl | rfl | rfl | rfl | rfl | rfl
  · exact kit_no (by decide +kernel) c.ns.i
  · exact kit_no (by decide +kernel) c.ns.b
  · exact kit_no (by decide +kernel) c.ns.s
  · exact kit_no (by decide +kernel) c.ns.l
  · exact kit_no (by decide +kernel) c.ns.t
  · exact kit_no (by decide +kernel) c.ns.d
theorem SimRL.or {K : PySem.W.Frag} {r : List V → Hp → VK → Prop} {f g : DRL} (h1 : SimRL K r f) (h2 : SimRL K r g) : SimRL K r (fun xs L q => f xs L q ∨ g xs L q) := fun S xs as Q q k rr R h =>
  h.elim (h1 S xs as Q q k rr R) (h2 S xs as Q q k rr R)
theorem SimR2.or {K : PySem.W.Frag} {r r' : R2} {f g : DR2} (h1 : SimR2 K r f) (h2 : SimR2 K r' g) : SimR2 K (fun x y H Q => r x y H Q ∨ r' x y H Q) (fun x y L q => f x y L q ∨ g x y L q) := fun S x y a b Q q k rx ry R h =>
  h.elim (fun h => .inl (h1 S x y a b Q q k rx ry R h)) fun h => .inr (h2 S x y a b Q q k rx ry R h)
/-! ### == -/
section
variable {X : Cx} {K : PySem.W.Frag} {C f : Addr} {k : Nat} {ps : List Str} {sp : DSp}
/-- an answer that is a truth -/
def qB (q : Bool → Lc → Prop) : DQ := fun d L => ∃ b, d = .bl b ∧ q b L
/-- x == y, x an instance with its own == -/
def eqID (C : Addr) (sp : DSp) : DR2 := fun x y L q => ∃ fs, vIns L x = some (C, fs) ∧ ((∃ s, kind5 L y = some s) ∨ ∃ gs, vIns L y = some (C, gs)) ∧ sp [x, y] L (qB fun b L' => q (.bl b) L') noE
/-- y == x, y a built-in thing -/
def eqRD (C : Addr) (sp : DSp) : DR2 := fun y x L q => ∃ fs, vIns L x = some (C, fs) ∧ (∃ s, kind5 L y = some s) ∧ sp [x, y] L (qB fun b L' => q (.bl b) L') noE
theorem spD_q {S : Sta} {vs : List V} {ds : List D} {Q : VK} {q : DQ} (k1 : Ok K S) (r : RpL K S.H S.Λ vs ds) (hl : ds.length = 2) (R : RelQ K S Q q) (h : sp ds S.L (qB fun b L' => q (.bl b) L') noE) : spD K 2 sp vs S.H (fun v H' => (∃ b, v = .bl b) ∧ Q v H') E0 :=
  ⟨S, ds, _, noE, rfl, k1, r, hl, fun S' v d e k2 r2 h2 => by
    obtain ⟨b, rfl, h2⟩ := h2
    cases r2
    exact ⟨⟨b, rfl⟩, R S' _ _ e k2 (.bl b) h2⟩, relE_no, h⟩
theorem op_eqID (hK : X.K = K) (c : OwnC K C) (hs : PySem.W.findIn K (.ref C) "__eq__" = some (some (.ref f))) (hf : PySem.W.isFn K (.ref f) = true) (G : Kp X.prog X.w X.K X.mg X.base (L2.CX X.prog X.w) k f ps [] (spD K 2 sp)) (hcl : Calm X.A) (hr : Room k X.A) (hu : X.A.units < cLine) :
    OpR X (compareOp .Eq) (rOf K (eqID C sp)) := by
  subst hK
  rintro pins s σ H x y v u Q I rx ry ⟨S, a, b, q, rfl, k1, ra, rb, R, fs, h1, ht, h⟩
  obtain ⟨ad, dx, gs, rfl, h2, _⟩ := vIns_ok k1 ra h1
  have hsp := spD_q k1 (.cons ra (.cons rb .nil)) rfl R h
  have hc := callK0 G hcl hr (passX0 (X := X))
  rcases ht with ⟨t, ht⟩ | ⟨gs', ht⟩
  · exact op_eqI hs hf hc hu pins s σ S.H (.ref ad) y v u Q I rx ry ⟨ad, dx, gs, .type t, rfl, h2, kind5_ok k1 rb ht, c.nf t (kind5_b7 ht), hsp⟩
  · obtain ⟨bd, dy, hs', rfl, h3, _⟩ := vIns_ok k1 rb ht
    exact op_eqI hs hf hc hu pins s σ S.H (.ref ad) (.ref bd) v u Q I rx ry ⟨ad, dx, gs, .ref C, rfl, h2, .ins h3, nf_self, hsp⟩
theorem op_eqRD (hK : X.K = K) (c : OwnC K C) (hs : PySem.W.findIn K (.ref C) "__eq__" = some (some (.ref f))) (hf : PySem.W.isFn K (.ref f) = true) (G : Kp X.prog X.w X.K X.mg X.base (L2.CX X.prog X.w) k f ps [] (spD K 2 sp)) (hcl : Calm X.A) (hr : Room k X.A) (hu : X.A.units < cLine) :
    OpR X (compareOp .Eq) (rOf K (eqRD C sp)) := by
  subst hK
  rintro pins s σ H y x v u Q I ry rx ⟨S, b, a, q, rfl, k1, rb, ra, R, fs, h1, ⟨t, ht⟩, h⟩
  obtain ⟨ad, dx, gs, rfl, h2, _⟩ := vIns_ok k1 ra h1
  exact op_eqR c.ns hs hf (callK0 G hcl hr (passX0 (X := X))) hu pins s σ S.H y (.ref ad) v u Q I ry rx ⟨ad, dx, gs, t, rfl, h2, kind5_ok k1 rb ht, spD_q k1 (.cons ra (.cons rb .nil)) rfl R h⟩
/-- both, and data -/
def eqAD (C : Addr) (sp : DSp) : DR2 := fun x y L q => eqD x y L q ∨ eqID C sp x y L q ∨ eqRD C sp x y L q
theorem op_eqAD (hK : X.K = K) (c : OwnC K C) (hs : PySem.W.findIn K (.ref C) "__eq__" = some (some (.ref f))) (hf : PySem.W.isFn K (.ref f) = true) (G : Kp X.prog X.w X.K X.mg X.base (L2.CX X.prog X.w) k f ps [] (spD K 2 sp)) (hcl : Calm X.A) (hr : Room k X.A) (hu : X.A.units + 64 < cLine) :
    OpR X (compareOp .Eq) (fun x y H Q => rEqA K x y H Q ∨ rOf K (eqID C sp) x y H Q ∨ rOf K (eqRD C sp) x y H Q) :=
  (op_eqA hK hu).or ((op_eqID hK c hs hf G hcl hr (by omega)).or (op_eqRD hK c hs hf G hcl hr (by omega)))
theorem sim_eqA : SimR2 K (fun x y H Q => rEqA K x y H Q ∨ rOf K (eqID C sp) x y H Q ∨ rOf K (eqRD C sp) x y H Q) (eqAD C sp) := sim_eq.or (sim_of.or sim_of)
/-! ### in -/
def inGo (C : Addr) (sp : DSp) (x : D) (q : Bool → Lc → Prop) : List D → Lc → Prop
  | [], L => q false L
  | d :: ds, L => q true L ∧ ∃ fs gs, vIns L x = some (C, fs) ∧ vIns L d = some (C, gs) ∧ sp [d, x] L (qB fun b L' => if b = true then q true L' else inGo C sp x q ds L') noE
def inOD (C : Addr) (sp : DSp) (neg : Bool) : DR2 := fun x y L q => ∃ ds, y = .lst ds ∧ inGo C sp x (fun b L' => q (.bl (if neg then !b else b)) L') ds L
theorem turn_own (hK : X.K = K) (c : OwnC K C) (hs : PySem.W.findIn K (.ref C) "__eq__" = some (some (.ref f))) (hf : PySem.W.isFn K (.ref f) = true) (G : Kp X.prog X.w X.K X.mg X.base (L2.CX X.prog X.w) k f ps [] (spD K 2 sp)) (hcl : Calm X.A) (hr : Room (k + 1) X.A)
    {pins : List (Addr × Obj)} {σ : L2.St} {S0 : Sta} {ad : Addr} {x : D} {l : Addr} {xs : List V} {ds : List D} {q : Bool → Lc → Prop} (rx : Rp K S0.H S0.Λ (.ref ad) x) (hl : S0.H l = some (.lst xs)) (nl : ¬ S0.Λ l) (rl : RpL K S0.H S0.Λ xs ds) :
    TurnI X.prog X.w X.A X.xe l (.ref ad) ds.length (fun i s => ∃ S, Inv X pins σ S.H s ∧ Ev S0 S ∧ Ok K S ∧ inGo C sp x q (ds.drop i) S.L) (fun s => ∃ S, Inv X pins σ S.H s ∧ Ev S0 S ∧ Ok K S ∧ q true S.L) := by
  subst hK
  rintro i s ⟨S, I, e, k1, h⟩
  obtain ⟨_, hl'⟩ := e.one hl nl (fun z => z) (by intro o w z; cases z)
  obtain ⟨z, its, n, rr, hle, e2⟩ := I.lstM hl'
  have hlen : its.length = ds.length := by rw [← rl.length]; exact rr.length.symm
  refine ⟨its.toArray, n, ?_, by simpa using hlen, fun h1 => ?_⟩
  · exact e2
  have hi : i < ds.length := by simpa [hlen] using h1
  rw [List.drop_eq_getElem_cons hi] at h
  obtain ⟨yes, fs, gs, hx, hd, hq⟩ := h
  have rl' := rl.ev e
  have rx' := rx.ev e
  obtain ⟨v, hv, rv⟩ := rl'.get (List.getElem?_eq_getElem hi)
  obtain ⟨u, hu, ru⟩ := rr.get hv
  have hu' : its.toArray[i] = u := by
    have : its[i]? = some its.toArray[i] := by
      have h1' : i < its.length := by simpa using h1
      rw [List.getElem?_eq_getElem h1'] <;> simp
    rw [this] at hu
    exact Option.some.inj hu
  rw [hu']
  obtain ⟨bd, dy, hs', rfl, h3, _⟩ := vIns_ok k1 rv hd
  obtain ⟨ad', dx, hs2, eq, h2, _⟩ := vIns_ok k1 rx' hx
  cases eq
  cases ru
  by_cases hab : bd = ad
  · subst hab
    exact SeqAt.EqAt.same (A := X.A.in1) (s := s) (.ref bd) X.prog X.w X.xe _ ⟨fun _ => ⟨S, I, e, k1, yes⟩, fun z => nomatch z⟩
  · have hr1 := hr.in1
    refine GQ.eqBool_refG hab ?_
    obtain ⟨mA, J, _⟩ := ins_get I.hok h3
    obtain ⟨mB, J', _⟩ := ins_get I.hok h2
    obtain ⟨od, J, _⟩ := J.look
    obtain ⟨od', J', _⟩ := J'.look
    obtain ⟨m, hF⟩ := I.fr
    refine PySem.W.cmp_K (op := .Eq) (tb := .ref C) hr1.units0 hF I.ok.mod.kin J J'.type nf_self hs hf ?_
    obtain ⟨fd, Gf, b⟩ := G.ex
    have hsp : spD X.K 2 sp [.ref bd, .ref ad] S.H (fun v H' => ∃ b S', v = .bl b ∧ S'.H = H' ∧ Ev S S' ∧ Ok X.K S' ∧ if b = true then q true S'.L else inGo C sp x q (ds.drop (i + 1)) S'.L) E0 :=
      ⟨S, _, _, noE, rfl, k1, .cons rv (.cons rx' .nil), rfl, fun S' v d e k2 r2 h2 => by
        obtain ⟨b, rfl, h2⟩ := h2
        cases r2
        exact ⟨b, S', rfl, rfl, e, k2, h2⟩, relE_no, hq⟩
    have hl2 : ([Value.ref bd, Value.ref ad] ++ []).length = ps.length := Gf.ln _ _ _ _ hsp
    have bb := b s [.ref bd, .ref ad] I.kIn hl2
    refine wpAny_call (codeAny_mono (Gf.go X.A.in1 X.stack s S.H ⟨[.ref bd, .ref ad], []⟩ [.ref bd, .ref ad] [.ref bd, .ref ad] _ E0 hcl.in1 hr1 I.env0.in1 bb (.cons rfl (.cons rfl .nil)) hsp) ?_)
    intro rs s' hh
    match rs, hh with
    | .error e, hh => exact passX0 pins σ S.H s e s' I hh
    | .ok (.ret w), hh =>
      obtain ⟨z, H', I', rz, b, S', rfl, rfl, e3, k3, h4⟩ := I.after hh
      cases rz
      refine ⟨b, rfl, fun hb => ⟨S', I', e.trans e3, k3, ?_⟩, fun hb => ⟨S', I', e.trans e3, k3, ?_⟩⟩
      · subst hb; exact h4
      · subst hb; exact h4
theorem op_inOD (neg : Bool) (hK : X.K = K) (c : OwnC K C) (hs : PySem.W.findIn K (.ref C) "__eq__" = some (some (.ref f))) (hf : PySem.W.isFn K (.ref f) = true) (G : Kp X.prog X.w X.K X.mg X.base (L2.CX X.prog X.w) k f ps [] (spD K 2 sp)) (hcl : Calm X.A) (hr : Room (k + 1) X.A) :
    OpR X (compareOp (if neg then .NotIn else .In)) (rOf K (inOD C sp neg)) := by
  rintro pins s σ H x y v u Q I rx ry ⟨S, a, b, q, rfl, k1, ra, rb, R, ds, rfl, h⟩
  have hx : (∃ ad, x = .ref ad) ∨ ds = [] := by
    cases ds with
    | nil => exact .inr rfl
    | cons d ds =>
      obtain ⟨_, fs, gs, hx, _⟩ := h
      obtain ⟨ad, _, _, rfl, _⟩ := vIns_ok k1 ra hx
      exact .inl ⟨ad, rfl⟩
  cases rb with
  | @lst l xs _ nl h1 h2 =>
  cases ry
  obtain ⟨z, its, n, rr, hle, e2⟩ := I.lstM h1
  have ti : s.TypeIs (.ref l) "list" := ⟨_, e2, rfl⟩
  have key : ∀ (Qv : Value → Shared → Prop), (∀ s' b S', Inv X pins σ S'.H s' → Ev S S' → Ok K S' → q (.bl (if neg then !b else b)) S'.L → Qv (.bool b) s') → wpAny (model X.prog X.w) X.A (call (.builtin "list.__contains__") [.ref l, v]) Qv X.xe s := by
    intro Qv fin
    rcases hx with ⟨ad, rfl⟩ | rfl
    · cases rx
      exact call_containsG _ _ (turn_own hK c hs hf G hcl hr ra h1 nl h2) (fun s' ⟨S', I', e, k', hh⟩ => fin s' true S' I' e k' hh) (fun s' ⟨S', I', e, k', hh⟩ => fin s' false S' I' e k' (by rw [List.drop_length] at hh; exact hh)) ⟨S, I, .refl S, k1, h⟩
    · have hx0 : xs = [] := by cases h2; rfl
      subst hx0
      have hi0 : its = [] := by cases rr; rfl
      subst hi0
      exact call_containsG (N := 0) (fun i s' => i = 0 ∧ s' = s) (fun _ => False) (fun i s' hi => ⟨#[], n, by rw [hi.2]; exact e2, rfl, fun hlt => by simp at hlt⟩) (fun _ z => z.elim) (fun s' z => by rw [z.2]; exact fin s false S I (.refl S) k1 h) ⟨rfl, rfl⟩
  cases neg with
  | false =>
    exact In_slot ti PySem.F.slot_list_contains (key _ fun s' b S' I' e k' hh => wpAny_truthy_bool ⟨.bl b, S'.H, I', rfl, R S' _ _ e k' (.bl b) hh⟩)
  | true =>
    exact NotIn_slot ti PySem.F.slot_list_contains (key _ fun s' b S' I' e k' hh => wpAny_truthy_bool ⟨.bl (!b), S'.H, I', rfl, R S' _ _ e k' (.bl (!b)) hh⟩)
/-- str(o) by an own __str__ -/
def strOD (C : Addr) (sp : DSp) : DRL := fun xs L q => ∃ x fs, xs = [x] ∧ vIns L x = some (C, fs) ∧ sp [x] L (fun d L' => (∃ z, d = .str z) ∧ q d L') noE
theorem call_strOD (hK : X.K = K) (hs : PySem.W.findIn K (.ref C) "__str__" = some (some (.ref f))) (hf : PySem.W.isFn K (.ref f) = true) (G : Kp X.prog X.w X.K X.mg X.base (L2.CX X.prog X.w) k f ["self"] [] (spD K 1 sp)) (hcl : Calm X.A) (hr : Room (k + 2) X.A) :
    CallR X (.type "str") (rOfL K (strOD C sp)) := by
  subst hK
  rintro pins s σ H xs us Q I r ⟨S, as, q, rfl, k1, ra, R, x, fs, rfl, hx, h⟩
  obtain ⟨v, rfl, rv⟩ := vals1R ra
  obtain ⟨a, dx, gs, rfl, h2, _⟩ := vIns_ok k1 rv hx
  cases r with
  | @cons _ u _ _ ru rn =>
  cases rn
  cases (show u = Value.ref a from ru)
  obtain ⟨mA, J, _⟩ := ins_get I.hok h2
  obtain ⟨od, J, _⟩ := J.look
  obtain ⟨fd, Gf, b⟩ := G.ex
  have r2 := hr.in1.in1
  have hsp : spD X.K 1 sp [.ref a] S.H (fun v H' => (∃ z, v = .str z) ∧ Q v H') E0 :=
    ⟨S, _, _, noE, rfl, k1, ra, rfl, fun S' v d e k2 rr h2 => by
      obtain ⟨⟨z, rfl⟩, h2⟩ := h2
      cases rr
      exact ⟨⟨z, rfl⟩, R S' _ _ e k2 (.str z) h2⟩, relE_no, h⟩
  refine PySem.W.kso_call r2.units0 I.kIn J hs hf ?_
  have bb := b s [.ref a] I.kIn rfl
  refine wpAny_call (codeAny_mono (Gf.go X.A.in1.in1 X.stack s S.H ⟨[.ref a], []⟩ [.ref a] [.ref a] _ E0 hcl.in1.in1 r2 I.env0.in1.in1 bb (.cons rfl .nil) hsp) ?_)
  intro rs s' hq
  match rs, hq with
  | .error e, hq => exact passX0 pins σ S.H s e s' I hq
  | .ok (.ret u), hq =>
    obtain ⟨v, H', I', rw', ⟨z, rfl⟩, q'⟩ := I.after hq
    obtain ⟨t, rfl⟩ := rw'
    exact ⟨.str z, H', I', ⟨t, rfl⟩, q'⟩
end
end Ed

set_option Elab.async false
set_option linter.all false
set_option maxRecDepth 100000
set_option maxHeartbeats 2000000
/-! f-strings; tests in chains; fields of errors; in a tuple. -/
namespace Ed
open PySem PySem.Spec PyProof.Rows L2 Dz
section
variable {X : Cx} {K : PySem.W.Frag} {e a b c v1 v2 : Expr} {es rest : List Expr} {te ta tb tc : WX → TE} {de da db dc : DTE} {pos : Pos}
inductive DJ (X : Cx) (K : PySem.W.Frag) : List Expr → List (WX → TE) → List DTE → Prop
  | nil : DJ X K [] [] []
  | cons {e : Expr} {t : WX → TE} {d : DTE} {es : List Expr} {ts : List (WX → TE)} {ds : List DTE} (h : DE X K t e d) (r : DJ X K es ts ds) : DJ X K (e :: es) (t :: ts) (d :: ds)
def dJs : List DTE → Str → EW → Dv → Lc → (Str → Lc → Prop) → Prop
  | [], acc, _, _, L, q => q acc L
  | d :: ds, acc, w, ρ, L, q => d w ρ L fun x L1 => ∃ y, x = .str y ∧ (acc ++ y).length ≤ sizeLine ∧ dJs ds (acc ++ y) w ρ L1 q
def dFmt (a : DTE) : DTE := fun w ρ L q => a w ρ L fun x L1 => (∃ y, x = .str y ∧ y.length ≤ sizeLine ∧ q (.str y) L1) ∨ ∃ i, x = .int i ∧ i.natAbs.log2 < 1920 ∧ q (.str (toString i)) L1
def dJoined (ds : List DTE) : DTE := fun w ρ L q => dJs ds Str.empty w ρ L fun out L1 => q (.str out) L1
theorem d_fmt (ha : DE X K ta e da) : DE X K (fun W => tFmt (ta W)) (.FormattedValue e (-1) none pos) (dFmt da) := by
  refine ⟨fun W t => pe_fmt (ha.pe W t), fun W ew S σ ρ Q q I R h => ?_⟩
  refine ha.sim W ew S σ ρ _ _ I (fun S1 v x e1 k1 r1 h1 => ?_) h
  rcases h1 with ⟨y, rfl, hy, h1⟩ | ⟨i, rfl, hi, h1⟩
  · cases r1; exact .inl ⟨y, rfl, hy, R S1 _ _ e1 k1 (.str _) h1⟩
  · cases r1; exact .inr ⟨i, rfl, hi, R S1 _ _ e1 k1 (.str _) h1⟩
theorem DJ.pj {es : List Expr} {ts : List (WX → TE)} {ds : List DTE} (h : DJ X K es ts ds) (W : WX) (t : Takes X W) : PJ X es (ts.map fun f => f W) := by
  induction h with
  | nil => exact .nil
  | cons h r ih => exact .cons (h.pe W t) ih
theorem DJ.sim {es : List Expr} {ts : List (WX → TE)} {ds : List DTE} (h : DJ X K es ts ds) (W : WX) (ew : EW) (σ : L2.St) (ρ : Dv) : ∀ (S : Sta) (acc : Str) (Q : Str → Hp → Prop) (q : Str → Lc → Prop), In K W ew S σ ρ →
    (∀ S' out, Ev S S' → Ok K S' → q out S'.L → Q out S'.H) → dJs ds acc ew ρ S.L q → tJs (ts.map fun f => f W) acc σ S.H Q := by
  induction h with
  | nil => exact fun S acc Q q I R h => R S acc (.refl S) I.ok h
  | @cons e t d es ts ds h r ih =>
    intro S acc Q q I R hh
    refine h.sim W ew S σ ρ _ _ I (fun S1 v x e1 k1 r1 h1 => ?_) hh
    obtain ⟨y, rfl, hy, h1⟩ := h1
    cases r1
    exact ⟨y, rfl, hy, ih S1 (acc ++ y) Q q (I.ev e1 k1) (fun S' out e k => R S' out (e1.trans e) k) h1⟩
theorem d_joined {ts : List (WX → TE)} {ds : List DTE} (h : DJ X K (v1 :: v2 :: rest) ts ds) : DE X K (fun W σ H Q => tJs (ts.map fun f => f W) Str.empty σ H fun out H1 => Q (.str out) H1) (.JoinedStr (v1 :: v2 :: rest) pos) (dJoined ds) :=
  ⟨fun W t => pe_joined (h.pj W t), fun W ew S σ ρ Q q I R hh => h.sim W ew σ ρ S _ _ _ I (fun S' out e k hq => R S' _ _ e k (.str out) hq) hh⟩
theorem d_tchain {op op' : CmpOp} {r r' : R2} {f g : DR2} (ho : OpR X (compareOp op) r) (hs : SimR2 K r f) (ho' : OpR X (compareOp op') r') (hs' : SimR2 K r' g) (ha : DE X K ta a da) (hb : DE X K tb b db) (hc : DE X K tc c dc)
    (hm : lastMarks [op, op'] [b, c] = false := by with_unfolding_all rfl) : DT X K (fun W => tTest (tChain r r' (ta W) (tb W) (tc W))) (.Compare a [op, op'] [b, c] pos) (dTest (dChain f g da db dc)) := by
  refine ⟨fun W t => pt_chain ho ho' (ha.pe W t) (hb.pe W t) (hc.pe W t) hm, fun W ew S σ ρ Q q I R h => ?_⟩
  refine (d_chain ho hs ho' hs' ha hb hc hm (pos := pos)).sim W ew S σ ρ _ _ I (fun S1 v x e1 k1 r1 h1 => ?_) h
  obtain ⟨c, rfl, h1⟩ := h1
  cases r1
  exact ⟨c, rfl, R S1 c e1 k1 h1⟩
end
end Ed

set_option Elab.async false
set_option linter.all false
set_option maxRecDepth 100000
set_option maxHeartbeats 2000000
/-! Names for the operations; the law's end. -/
namespace Ed
open PySem PySem.Spec PyProof.Rows L2 Dz
section
variable {K : PySem.W.Frag}
def subD : DR2 := iopD (fun _ _ => True) fun i j => i - j
def modD : DR2 := iopD (fun _ j => 0 < j) fun i j => i % j
def powD : DR2 := iopD CPow fun i j => i ^ j.toNat
def fdivD : DR2 := iopD CDivW fun i j => i / j
def ltD : DR2 := icmpD fun i j => decide (i < j)
def leD : DR2 := icmpD fun i j => decide (i ≤ j)
def gtD : DR2 := icmpD fun i j => decide (j < i)
def geD : DR2 := icmpD fun i j => decide (j ≤ i)
theorem sim_sub : SimR2 K (rI0 fun i j => .int (i - j)) subD := sim_iop0
theorem sim_mod : SimR2 K (rI (fun _ j => 0 < j) fun i j => .int (i % j)) modD := sim_iop
theorem sim_pow : SimR2 K (rI CPow fun i j => .int (i ^ j.toNat)) powD := sim_iop
theorem sim_fdiv : SimR2 K (rI CDivW fun i j => .int (i / j)) fdivD := sim_iop
theorem sim_lt : SimR2 K (rI0 fun i j => .bl (decide (i < j))) ltD := sim_icmp
theorem sim_le : SimR2 K (rI0 fun i j => .bl (decide (i ≤ j))) leD := sim_icmp
theorem sim_gt : SimR2 K (rI0 fun i j => .bl (decide (j < i))) gtD := sim_icmp
theorem sim_ge : SimR2 K (rI0 fun i j => .bl (decide (j ≤ i))) geD := sim_icmp
end
/-- isinstance of one built-in class, whatever the thing is -/
def isiAD (C : Addr) : DRL := fun xs L q => isiOD C xs L q ∨ isiBD C xs L q ∨ isiD xs L q
theorem sim_isiA {K : PySem.W.Frag} {C : Addr} (c : OwnC K C) : SimRL K (rIsiB K) (isiAD C) := fun S xs as Q q k rr R h =>
  h.elim (sim_isiO c S xs as Q q k rr R) fun h => h.elim (sim_isiOB c S xs as Q q k rr R) (sim_isi S xs as Q q k rr R)
/-! ### the law -/
theorem fnG_x0 {P : Program} {w : World} {K : PySem.W.Frag} {mg : Str → Option Value} {base : Heap} {k n : Nat} {f : Addr} {fd : FuncData} {ps : List Str} {sp : DSp} (F : FnG P w K mg base (L2.CX P w) k f fd ps (spD K n sp)) :
    FnG P w K mg base CX0 k f fd ps (fun vs H Q _ => spD K n sp vs H Q E0) :=
  ⟨fun vs H Q E h => F.ln _ _ _ _ h, fun A out s H ar us vs Q E g r e b v h => codeAny_mono (F.go A out s H ar us vs Q E0 g r e b v h) fun rs s' hh => by
    match rs, hh with
    | .error e, hh =>
      obtain ⟨_, _, _, _, _, _, _, _, _, _, _, _, z⟩ := hh
      exact z.elim
    | .ok (.ret u), hh => exact hh⟩
theorem kl_mk {P : Program} {w : World} {K : PySem.W.Frag} {mg : Str → Option Value} {base : Heap} {x qual : Str} {st : Stmt} {f : Addr} {fd : FuncData} {N ps : List Str} {k : Nat} {sp : DSp} {b : DTS} {ts : WX → TS} (F : Fun K x qual st f fd) (SC : FnScope N ps (defScope st)) (hb : ∀ (cdv : Value) (A : Around) (outer : List Env) (s : Shared) (H : Hp) (E : XK), Calm A → Room k (A.deeper (envOfC qual (defScope st) s.heap.objs.size f cdv)) → DSs (cxOf (L2.CX P w) P w K mg base N qual (defScope st) f cdv A outer s H E) K ts (defBody st) b)
    (htk : ∀ (cdv : Value) (A : Around) (outer : List Env) (s : Shared) (H : Hp) (E : XK), Takes (cxOf (L2.CX P w) P w K mg base N qual (defScope st) f cdv A outer s H E) (fun cls d _ H => E cls d H)) (rd : Keeps N b ps.length sp) : FnG P w K mg base CX0 (k + 1) f fd ps (fun vs H Q _ => spD K ps.length sp vs H Q E0) :=
  fnG_x0 (fnG_of F SC (fun vs H Q E h => by obtain ⟨S, ds, q, e, rfl, k1, r1, hl, _⟩ := h; rw [r1.length]; exact hl) fun cdv A outer s H vs Q E hg hr h => fnD_walk hb rd htk cdv A outer s H vs Q E hg hr h)
def spLaw : DSp := fun ds _ q _ => ∃ ns, ds = [.scr ns] ∧ ns.length ≤ 63 ∧ ∀ L', q (.bl true) L'
theorem law_sp {K : PySem.W.Frag} {H : Hp} {a : Addr} {ns : List Int} (hl : ns.length ≤ 63) (h : SqL K H a (ns.map V.int)) : spD K 1 spLaw [.ref a] H (fun v _ => v = .bl true) E0 := by
  refine ⟨⟨H, fun _ => none, fun _ => False⟩, [.scr ns], fun d _ => d = .bl true, noE, rfl, ⟨fun a c h => (by cases h), fun a h => h.elim⟩, .cons (.scr ?_ hl) .nil, rfl, fun S' v d e k2 r2 h2 => ?_, relE_no, ns, rfl, hl, fun _ => rfl⟩
  · rcases h with h | h
    · exact .inl ⟨fun z => z, h⟩
    · exact .inr h
  · subst h2
    cases r2
    rfl
end Ed

set_option Elab.async false
set_option linter.all false
set_option maxRecDepth 100000
set_option maxHeartbeats 2000000
namespace Ed
open PySem PySem.Spec PyProof.Rows L2 Dz
theorem dv {X : Cx} {K : PySem.W.Frag} (i : Nat) {x : Str} {pos : Pos} (hN : X.N[i]? = some x := by rfl) (hv : Vis X.env.scope x := by first | exact Or.inl rfl | exact Or.inr (Or.inl rfl) | exact Or.inr (Or.inr rfl)) (hd : (x == ("__debug__" : Str)) = false := by decide) (hcd : (x == ("__classdict__" : Str)) = false := by decide) : DE X K (fun _ => tVar i) (.Name x pos) (dVar i) := d_var hN hv hd hcd
theorem all7 {p : String → Prop} (h0 : p "NoneType") (h1 : p "bool") (h2 : p "int") (h3 : p "str") (h4 : p "list") (h5 : p "tuple") (h6 : p "dict") : ∀ T, T ∈ b7 → p T := fun T h => by
  simp only [b7, List.mem_cons, List.not_mem_nil, or_false] at h
  rcases h with rfl | rfl | rfl | rfl | rfl | rfl | rfl
  · exact h0
  · exact h1
  · exact h2
  · exact h3
  · exact h4
  · exact h5
  · exact h6
end Ed

set_option Elab.async false
set_option linter.all false
set_option maxRecDepth 100000
set_option maxHeartbeats 2000000
/-! The steps of a reading. -/
namespace Ed
open PySem PySem.Spec PyProof.Rows L2 Dz
section
variable {w : EW} {D0 : DEnds} {ρ : Dv} {L : Lc} {q : DQ} {t u : DTS} {a b c o v : DTE} {es ks : DTA} {x y z : D} {i j : Int} {n : Dv → Lc → Prop}
theorem v_seq (h : t w ⟨fun ρ1 L1 => u w D0 ρ1 L1, D0.rt, D0.bk, D0.ct⟩ ρ L) : dSeq t u w D0 ρ L := h
theorem v_next (h : D0.nx ρ L) : dNext w D0 ρ L := h
theorem v_brk (h : D0.bk ρ L) : dBreak w D0 ρ L := h
theorem v_cnt (h : D0.ct ρ L) : dCont w D0 ρ L := h
theorem v_drop (h : a w ρ L fun _ L1 => D0.nx ρ L1) : dDrop a w D0 ρ L := h
theorem v_ret (h : a w ρ L D0.rt) : dRet a w D0 ρ L := h
theorem v_retN (h : D0.rt .non L) : dRetN w D0 ρ L := h
theorem v_ifS {k : DTT} (h : k w ρ L fun b L1 => if b = true then t w D0 ρ L1 else u w D0 ρ L1) : dIfS k t u w D0 ρ L := h
theorem v_set {i : Nat} (h : a w ρ L fun x L1 => D0.nx (ρ.set i (some x)) L1) : dSet i a w D0 ρ L := h
theorem v_asg {g : DTG} (h : a w ρ L fun x L1 => g w x ρ L1 D0.nx) : dAsg a g w D0 ρ L := h
theorem v_par {i j : Nat} (h : es w ρ L fun xs L1 => ∃ x y, xs = [x, y] ∧ D0.nx ((ρ.set i (some x)).set j (some y)) L1) : dPar i j es w D0 ρ L := h
theorem v_gn {i : Nat} (h : n (ρ.set i (some x)) L) : dgName i w x ρ L n := h
theorem v_gtup {k : Nat} {r : DTGs} {ds : List D} (h : ds.length = k ∧ r w ds ρ L n) : dgTup k r w (.tup ds) ρ L n := ⟨ds, .inl rfl, h⟩
theorem v_gcons {g : DTG} {r : DTGs} {ds : List D} (h : g w x ρ L fun ρ1 L1 => r w ds ρ1 L1 n) : dgCons g r w (x :: ds) ρ L n := ⟨x, ds, rfl, h⟩
theorem v_gnil (h : n ρ L) : dgNil w [] ρ L n := ⟨rfl, h⟩
theorem v_gsub {f : D → D → D → Lc → (Lc → Prop) → Prop} (h : o w ρ L fun y L1 => v w ρ L1 fun z L2 => f y z x L2 fun L3 => n ρ L3) : dgSub f o v w x ρ L n := h
theorem v_var {i : Nat} (h : ∃ d, ρ[i]? = some (some d) ∧ q d L) : dVar i w ρ L q := h
theorem v_c (h : q x L) : dC x w ρ L q := h
theorem v_op {f : DR2} (h : a w ρ L fun x L1 => b w ρ L1 fun y L2 => f x y L2 q) : dOp f a b w ρ L q := h
theorem v_un {f : DR1} (h : a w ρ L fun x L1 => f x L1 q) : dUn f a w ρ L q := h
theorem v_nil {q : List D → Lc → Prop} (h : q [] L) : dNil w ρ L q := h
theorem v_cons {q : List D → Lc → Prop} (h : a w ρ L fun x L1 => es w ρ L1 fun xs L2 => q (x :: xs) L2) : dCons a es w ρ L q := h
theorem v_cb {f : DRL} (h : es w ρ L fun xs L1 => f xs L1 q) : dCB f es w ρ L q := h
theorem v_not (h : a w ρ L fun x L1 => ∃ c, x = .bl c ∧ q (.bl (!c)) L1) : dNot a w ρ L q := h
theorem v_and (h : a w ρ L fun x L1 => ∃ c, x = .bl c ∧ if c = true then b w ρ L1 q else q (.bl false) L1) : dAnd a b w ρ L q := h
theorem v_or (h : a w ρ L fun x L1 => ∃ c, x = .bl c ∧ if c = true then q (.bl true) L1 else b w ρ L1 q) : dOr a b w ρ L q := h
theorem v_test {q : Bool → Lc → Prop} (h : a w ρ L fun x L1 => ∃ c, x = .bl c ∧ q c L1) : dTest a w ρ L q := h
theorem v_tnot {t : DTT} {q : Bool → Lc → Prop} (h : t w ρ L fun c L1 => q (!c) L1) : dtNot t w ρ L q := h
theorem v_tand {t u : DTT} {q : Bool → Lc → Prop} (h : t w ρ L fun c L1 => if c = true then u w ρ L1 q else q false L1) : dtAnd t u w ρ L q := h
theorem v_tor {t u : DTT} {q : Bool → Lc → Prop} (h : t w ρ L fun c L1 => if c = true then q true L1 else u w ρ L1 q) : dtOr t u w ρ L q := h
theorem v_ifE {k : DTT} (h : k w ρ L fun c L1 => if c = true then a w ρ L1 q else b w ρ L1 q) : dIfE k a b w ρ L q := h
theorem v_chain {f g : DR2} (h : a w ρ L fun x L1 => b w ρ L1 fun y L2 => f x y L2 fun z L3 => ∃ k, z = .bl k ∧ if k = true then c w ρ L3 fun u L4 => g y u L4 q else q (.bl false) L3) : dChain f g a b c w ρ L q := h
theorem v_tup (h : es w ρ L fun xs L1 => xs.length ≤ sizeLine ∧ q (.tup xs) L1) : dTup es w ρ L q := h
theorem v_lst (h : es w ρ L fun xs L1 => xs.length ≤ sizeLine ∧ q (.lst xs) L1) : dLst es w ρ L q := h
theorem v_lstC (h : es w ρ L fun xs L1 => xs.length ≤ sizeLine ∧ ∀ p, L1 p = none → q (.ref p) (updL L1 p (.lst xs))) : dLstC es w ρ L q := h
theorem v_bl {b : Bool} {p : Bool → Prop} (h : p b) : ∃ c, D.bl b = .bl c ∧ p c := ⟨b, rfl, h⟩
theorem v_int {p : Int → Prop} (h : p i) : ∃ c, D.int i = .int c ∧ p c := ⟨i, rfl, h⟩
theorem v_pair {p : D → D → Prop} (h : p x y) : ∃ a b, [x, y] = [a, b] ∧ p a b := ⟨x, y, rfl, h⟩
/-! operations -/
theorem v_addI (h : q (.int (i + j)) L) : addD (.int i) (.int j) L q := .inl ⟨i, j, rfl, rfl, h⟩
theorem v_addS {a b : Str} (hl : a.length + b.length ≤ sizeLine) (h : q (.str (a ++ b)) L) : addD (.str a) (.str b) L q := .inr (.inl ⟨a, b, rfl, rfl, hl, h⟩)
theorem v_addL {x y : D} {xs ys : List D} (h1 : vLst L x = some xs) (h2 : vLst L y = some ys) (hl : xs.length + ys.length ≤ sizeLine) (h : q (.lst (xs ++ ys)) L) : addD x y L q := .inr (.inr (.inl ⟨xs, ys, h1, h2, hl, h⟩))
theorem v_addT {xs ys : List D} (hl : xs.length + ys.length ≤ sizeLine) (h : q (.tup (xs ++ ys)) L) : addD (.tup xs) (.tup ys) L q := .inr (.inr (.inr ⟨xs, ys, rfl, rfl, hl, h⟩))
theorem v_sub (h : q (.int (i - j)) L) : subD (.int i) (.int j) L q := ⟨i, j, rfl, rfl, trivial, h⟩
theorem v_mod (hj : 0 < j) (h : q (.int (i % j)) L) : modD (.int i) (.int j) L q := ⟨i, j, rfl, rfl, hj, h⟩
theorem v_fdiv (hj : CDivW i j) (h : q (.int (i / j)) L) : fdivD (.int i) (.int j) L q := ⟨i, j, rfl, rfl, hj, h⟩
theorem v_pow (hj : CPow i j) (h : q (.int (i ^ j.toNat)) L) : powD (.int i) (.int j) L q := ⟨i, j, rfl, rfl, hj, h⟩
theorem v_mulI (hj : CMulW i j) (h : q (.int (i * j)) L) : mulD (.int i) (.int j) L q := .inl ⟨i, j, rfl, rfl, hj, h⟩
theorem v_neg (h : q (.int (-i)) L) : negD (.int i) L q := ⟨i, rfl, h⟩
theorem v_lt (h : q (.bl (decide (i < j))) L) : ltD (.int i) (.int j) L q := ⟨i, j, rfl, rfl, h⟩
theorem v_le (h : q (.bl (decide (i ≤ j))) L) : leD (.int i) (.int j) L q := ⟨i, j, rfl, rfl, h⟩
theorem v_gt (h : q (.bl (decide (j < i))) L) : gtD (.int i) (.int j) L q := ⟨i, j, rfl, rfl, h⟩
theorem v_ge (h : q (.bl (decide (j ≤ i))) L) : geD (.int i) (.int j) L q := ⟨i, j, rfl, rfl, h⟩
theorem v_eqI (h : q (.bl (decide (i = j))) L) : eqD (.int i) (.int j) L q := .inl ⟨.int i, .int j, rfl, rfl, rfl, by rw [show decide (V.int i = V.int j) = decide (i = j) by simp]; exact h⟩
theorem v_neI (h : q (.bl (!decide (i = j))) L) : neD (.int i) (.int j) L q := .inl ⟨.int i, .int j, rfl, rfl, rfl, by rw [show decide (V.int i = V.int j) = decide (i = j) by simp]; exact h⟩
theorem v_eqS {a b : Str} (h : q (.bl (decide (a = b))) L) : eqD (.str a) (.str b) L q := .inl ⟨.str a, .str b, rfl, rfl, rfl, by rw [show decide (V.str a = V.str b) = decide (a = b) by simp]; exact h⟩
theorem v_neS {a b : Str} (h : q (.bl (!decide (a = b))) L) : neD (.str a) (.str b) L q := .inl ⟨.str a, .str b, rfl, rfl, rfl, by rw [show decide (V.str a = V.str b) = decide (a = b) by simp]; exact h⟩
theorem v_isN (h : q (.bl true) L) : isND .non .non L q := ⟨rfl, .inl ⟨rfl, h⟩⟩
theorem v_isN' (hx : x ≠ .non) (h : q (.bl false) L) : isND x .non L q := ⟨rfl, .inr ⟨hx, h⟩⟩
theorem v_notN (h : q (.bl false) L) : notND .non .non L q := ⟨rfl, .inl ⟨rfl, h⟩⟩
theorem v_notN' (hx : x ≠ .non) (h : q (.bl true) L) : notND x .non L q := ⟨rfl, .inr ⟨hx, h⟩⟩
theorem v_isB {a b : Bool} (h : q (.bl (decide (a = b))) L) : isBD (.bl a) (.bl b) L q := ⟨a, b, rfl, rfl, h⟩
theorem v_notB {a b : Bool} (h : q (.bl (!decide (a = b))) L) : notBD (.bl a) (.bl b) L q := ⟨a, b, rfl, rfl, h⟩
theorem v_ix {x : D} {ds : List D} {d : D} (h1 : vSeq L x = some ds) (h2 : atI ds i = some d) (h : q d L) : ixD x (.int i) L q := .inl ⟨ds, i, d, h1, rfl, h2, h⟩
theorem v_ixS {z : Str} {c : Nat} (hl : z.length ≤ sizeLine) (h2 : atI z.cps.toList i = some c) (h : q (.str ⟨#[c]⟩) L) : ixD (.str z) (.int i) L q := .inr (.inl ⟨z, i, c, rfl, rfl, hl, h2, h⟩)
theorem v_sl {f : D → Option Int → Option Int → Lc → DQ → Prop} {l r : DTO} (h : a w ρ L fun x L1 => l w ρ L1 fun lo L2 => r w ρ L2 fun hi L3 => f x lo hi L3 q) : dSl f a l r w ρ L q := h
theorem v_nopart {q : Option Int → Lc → Prop} (h : q none L) : dNoPart w ρ L q := h
theorem v_part {q : Option Int → Lc → Prop} (h : a w ρ L fun x L1 => ∃ i, x = .int i ∧ q (some i) L1) : dPart a w ρ L q := h
theorem v_slS {z : Str} {lo hi : Option Int} (hl : z.length ≤ sizeLine) (h : q (.str (cutS z lo hi)) L) : slD (.str z) lo hi L q := .inr (.inr ⟨z, rfl, hl, h⟩)
theorem v_slL {x : D} {ds : List D} {lo hi : Option Int} (h1 : vRd L x = some ds) (h : q (.lst (cutD ds lo hi)) L) : slD x lo hi L q := .inl ⟨ds, h1, h⟩
theorem v_slT {ds : List D} {lo hi : Option Int} (h : q (.tup (cutD ds lo hi)) L) : slD (.tup ds) lo hi L q := .inr (.inl ⟨ds, rfl, h⟩)
/-! calls -/
theorem v_call {sp : DSp} {m : Nat} (h : es w ρ L fun ds L1 => ds.length = m ∧ sp ds L1 q fun C gs L2 => w C gs ρ L2) : dCall sp m es w ρ L q := h
theorem v_callD {sp : DSp} {m : Nat} {ms : List D} (h : es w ρ L fun ds L1 => (ds ++ ms).length = m ∧ sp (ds ++ ms) L1 q fun C gs L2 => w C gs ρ L2) : dCallD sp m ms es w ρ L q := h
theorem v_mth {C : Addr} {m : Str} {sp : DSp} {n : Nat} {ms : List D} (h : o w ρ L fun x L1 => ∃ fs, vIns L1 x = some (C, fs) ∧ fs.lookup m = none ∧ es w ρ L1 fun ds L2 => (x :: ds ++ ms).length = n ∧ sp (x :: ds ++ ms) L2 q fun E gs L3 => w E gs ρ L3) : dMth C m sp n ms o es w ρ L q := h
theorem v_fld {C : Addr} {g : Str} (h : o w ρ L fun x L1 => ∃ fs d, vIns L1 x = some (C, fs) ∧ fs.lookup g = some d ∧ q d L1) : dFld C g o w ρ L q := h
theorem v_sfld {C : Addr} {g : Str} (h : v w ρ L fun y L1 => o w ρ L1 fun x L2 => ∃ a fs, x = .ref a ∧ L2 a = some (.ins C fs) ∧ fs.length < 1000 ∧ D0.nx ρ (updL L2 a (.ins C (putFD g y fs)))) : dSFld C g o v w D0 ρ L := h
theorem v_new {C : Addr} {sp : DSp} {n mm np : Nat} {g : List D → List D → List D} (h : es w ρ L fun ds L1 => ks w ρ L1 fun zs L2 => ds.length = n ∧ zs.length = mm ∧ ∀ x, L2 x = none → (g (.ref x :: ds) zs).length = np ∧
  sp (g (.ref x :: ds) zs) (updL L2 x (.ins C [])) (fun d L3 => d = .non ∧ ∃ d' L4, Gh (.ref x) L3 d' L4 ∧ q d' L4) fun E gs L3 => ∃ L4, (∀ a c, L4 a = some c → L3 a = some c) ∧ w E gs ρ L4) : dNew C sp n mm g np es ks w ρ L q := h
theorem v_bm {T : String} {f : DRM} (h : o w ρ L fun x L1 => tyLS L1 T x ∧ es w ρ L1 fun ds L2 => f x ds L2 q) : dBML T f o es w ρ L q := h
theorem v_raise {C : Addr} {g : Str} (h : es w ρ L fun xs L1 => ∃ y, xs = [y] ∧ w C [(g, y)] ρ L1) : dRaise C g es w D0 ρ L := h
theorem v_one {p : D → Prop} (h : p x) : ∃ y, [x] = [y] ∧ p y := ⟨x, rfl, h⟩
theorem v_for {di : DTI} {g : DTG} {tb : DTS} (h : di w ρ L fun ds G L1 => forD (g w) (tb w) G D0 ds ρ L1) : dFor di g tb w D0 ρ L := h
theorem v_lc {di : DTI} {g : DTG} {tt : DTT} {te : DTE} {vs : List Nat} (h : di w ρ L fun ds G L1 => lcD (g noW) (tt noW) (te noW) G (dwipe ρ vs) (fun acc L2 => q (.lst acc) L2) ds [] L1) : dLc di g tt te vs w ρ L q := h
theorem v_lcC {di : DTI} {g : DTG} {tt : DTT} {te : DTE} {vs : List Nat} (h : di w ρ L fun ds G L1 => lcD (g noW) (tt noW) (te noW) G (dwipe ρ vs) (fun acc L2 => ∀ p, L2 p = none → q (.ref p) (updL L2 p (.lst acc))) ds [] L1) : dLcC di g tt te vs w ρ L q := h
theorem v_yes {q : Bool → Lc → Prop} (h : q true L) : dYes w ρ L q := h
theorem v_rng1 {k : List D → (Lc → Prop) → Lc → Prop} (h : es w ρ L fun xs L1 => ∃ j : Int, xs = [.int j] ∧ -(2 ^ 62) ≤ j ∧ j < 2 ^ 62 ∧ k ((List.range j.toNat).map fun i => .int (i : Nat)) (fun _ => True) L1) : diRng1 es w ρ L k := h
theorem v_iseq {k : List D → (Lc → Prop) → Lc → Prop} (h : a w ρ L fun x L1 => ∃ ds, vRd L1 x = some ds ∧ k ds (fun L' => vRd L' x = some ds) L1) : diSeq a w ρ L k := h
theorem v_itup {k : List D → (Lc → Prop) → Lc → Prop} (h : a w ρ L fun x L1 => ∃ ds, (x = .tup ds ∨ x = .ctup ds) ∧ k ds (fun _ => True) L1) : diTup a w ρ L k := h
theorem v_istr {k : List D → (Lc → Prop) → Lc → Prop} (h : a w ρ L fun x L1 => ∃ z : Str, x = .str z ∧ k (z.cps.toList.map fun c => .str ⟨#[c]⟩) (fun _ => True) L1) : diStr a w ρ L k := h
theorem v_joined {ds : List DTE} (h : dJs ds Str.empty w ρ L fun out L1 => q (.str out) L1) : dJoined ds w ρ L q := h
theorem v_jnil {acc : Str} {q : Str → Lc → Prop} (h : q acc L) : dJs [] acc w ρ L q := h
theorem v_jcons {d : DTE} {ds : List DTE} {acc : Str} {q : Str → Lc → Prop} (h : d w ρ L fun x L1 => ∃ y, x = .str y ∧ (acc ++ y).length ≤ sizeLine ∧ dJs ds (acc ++ y) w ρ L1 q) : dJs (d :: ds) acc w ρ L q := h
theorem v_str1 {a : Str} {p : Str → Prop} (h : p a) : ∃ y, D.str a = .str y ∧ p y := ⟨a, rfl, h⟩
theorem v_fmtS {d : DTE} (h : d w ρ L fun x L1 => (∃ y, x = .str y ∧ y.length ≤ sizeLine ∧ q (.str y) L1) ∨ ∃ i, x = .int i ∧ i.natAbs.log2 < 1920 ∧ q (.str (toString i)) L1) : dFmt d w ρ L q := h
theorem v_dKC (h : ∀ p, L p = none → q (.ref p) (updL L p (.dK []))) : dDKC w ρ L q := h
theorem v_dK (h : q (.dK []) L) : dDK w ρ L q := h
theorem v_rt {q : DQ} (h : q x L) : (dEnd q).rt x L := ⟨x, L, Gh.refl, h⟩
theorem v_gh {q : DQ} {d' : D} {L' : Lc} (g : Gh x L d' L') (h : q d' L') : (dEnd q).rt x L := ⟨d', L', g, h⟩
/-! branches -/
theorem v_ite {c : Bool} {p r : Prop} (h1 : c = true → p) (h2 : c = false → r) : if c = true then p else r := by
  cases c with
  | true => exact h1 rfl
  | false => exact h2 rfl
theorem v_itT {c : Bool} {p r : Prop} (e : c = true) (h : p) : if c = true then p else r := by subst e; exact h
theorem v_itF {c : Bool} {p r : Prop} (e : c = false) (h : r) : if c = true then p else r := by subst e; exact h
/-! walks -/
/-- a for whose turns keep P -/
theorem for_go {g : D → Dv → Lc → (Dv → Lc → Prop) → Prop} {tb : DEnds → Dv → Lc → Prop} {G : Lc → Prop} {E : DEnds} {ds : List D} (P : Nat → Dv → Lc → Prop) (h0 : P 0 ρ L) (hG : ∀ i ρ L, P i ρ L → G L)
    (hs : ∀ (i : Nat) (d : D) (ρ : Dv) (L : Lc) (R : Dv → Lc → Prop), ds[i]? = some d → P i ρ L → (∀ ρ L, P (i + 1) ρ L → R ρ L) → g d ρ L fun ρ1 L1 => tb ⟨R, E.rt, E.nx, R⟩ ρ1 L1) (hn : ∀ ρ L, P ds.length ρ L → E.nx ρ L) : forD g tb G E ds ρ L := by
  have key : ∀ (es : List D) (k : Nat) (ρ : Dv) (L : Lc), ds.drop k = es → k ≤ ds.length → P k ρ L → forD g tb G E es ρ L := by
    intro es
    induction es with
    | nil =>
      intro k ρ L hd hk p
      have hk' : k = ds.length := by
        have := congrArg List.length hd
        rw [List.length_drop, List.length_nil] at this
        omega
      rw [hk'] at p
      exact ⟨hG _ _ _ p, hn ρ L p⟩
    | cons e es ih =>
      intro k ρ L hd hk p
      have hlt : k < ds.length := by
        by_cases z : k < ds.length
        · exact z
        · rw [List.drop_eq_nil_of_le (by omega)] at hd; cases hd
      rw [List.drop_eq_getElem_cons hlt] at hd
      cases hd
      refine ⟨hG _ _ _ p, ?_⟩
      exact hs k _ ρ L (forD g tb G E (ds.drop (k + 1))) (List.getElem?_eq_getElem hlt) p fun ρ L p' => ih (k + 1) ρ L rfl hlt p'
  exact key ds 0 ρ L rfl (Nat.zero_le _) h0
/-- a comprehension whose turns keep P; P i acc L -/
theorem lc_go {g : D → Dv → Lc → (Dv → Lc → Prop) → Prop} {tt : Dv → Lc → (Bool → Lc → Prop) → Prop} {te : Dv → Lc → DQ → Prop} {G : Lc → Prop} {q : List D → Lc → Prop} {ds : List D} (P : Nat → List D → Lc → Prop) (h0 : P 0 [] L) (hG : ∀ i acc L, P i acc L → G L)
    (hs : ∀ (i : Nat) (d : D) (acc : List D) (L : Lc) (R S : Lc → Prop) (Rq : D → Lc → Prop), ds[i]? = some d → P i acc L → (∀ y L, P (i + 1) (acc ++ [y]) L → Rq y L) → (∀ L, P (i + 1) acc L → S L) → g d ρ L fun ρ2 L2 => tt ρ2 L2 fun b L3 => if b = true then te ρ2 L3 fun y L4 => acc.length < sizeLine ∧ Rq y L4 else S L3)
    (hn : ∀ acc L, P ds.length acc L → q acc L) : lcD g tt te G ρ q ds [] L := by
  have key : ∀ (es : List D) (k : Nat) (acc : List D) (L : Lc), ds.drop k = es → k ≤ ds.length → P k acc L → lcD g tt te G ρ q es acc L := by
    intro es
    induction es with
    | nil =>
      intro k acc L hd hk p
      have hk' : k = ds.length := by
        have := congrArg List.length hd
        rw [List.length_drop, List.length_nil] at this
        omega
      rw [hk'] at p
      exact ⟨hG _ _ _ p, hn acc L p⟩
    | cons e es ih =>
      intro k acc L hd hk p
      have hlt : k < ds.length := by
        by_cases z : k < ds.length
        · exact z
        · rw [List.drop_eq_nil_of_le (by omega)] at hd; cases hd
      rw [List.drop_eq_getElem_cons hlt] at hd
      cases hd
      refine ⟨hG _ _ _ p, ?_⟩
      exact hs k _ acc L (fun _ => True) _ (fun y L4 => lcD g tt te G ρ q (ds.drop (k + 1)) (acc ++ [y]) L4) (List.getElem?_eq_getElem hlt) p (fun y L p' => ih (k + 1) _ L rfl hlt p') fun L p' => ih (k + 1) _ L rfl hlt p'
  exact key ds 0 [] L rfl (Nat.zero_le _) h0
/-- one that changes no cell -/
theorem lc_pure {g : D → Dv → Lc → (Dv → Lc → Prop) → Prop} {tt : Dv → Lc → (Bool → Lc → Prop) → Prop} {te : Dv → Lc → DQ → Prop} {G : Lc → Prop} {q : List D → Lc → Prop} {ds : List D} (keep : D → Bool) (f : D → D) (hG : G L) (hl : ds.length ≤ sizeLine)
    (hs : ∀ d, d ∈ ds → ∀ (acc : List D) (Rq : D → Lc → Prop) (S : Lc → Prop), acc.length < sizeLine → (keep d = true → Rq (f d) L) → (keep d = false → S L) → g d ρ L fun ρ2 L2 => tt ρ2 L2 fun b L3 => if b = true then te ρ2 L3 fun y L4 => acc.length < sizeLine ∧ Rq y L4 else S L3)
    (hn : q ((ds.filter keep).map f) L) : lcD g tt te G ρ q ds [] L := by
  have key : ∀ (es acc : List D), (∀ d, d ∈ es → d ∈ ds) → acc.length + es.length ≤ sizeLine → q (acc ++ (es.filter keep).map f) L → lcD g tt te G ρ q es acc L := by
    intro es
    induction es with
    | nil =>
      intro acc _ _ h
      rw [List.filter_nil, List.map_nil, List.append_nil] at h
      exact ⟨hG, h⟩
    | cons e es ih =>
      intro acc hm hz h
      rw [List.length_cons] at hz
      refine ⟨hG, hs e (hm e List.mem_cons_self) acc (fun y L4 => lcD g tt te G ρ q es (acc ++ [y]) L4) _ (by omega) (fun hk => ?_) fun hk => ?_⟩
      · refine ih _ (fun d hd => hm d (List.mem_cons_of_mem _ hd)) (by rw [List.length_append, List.length_singleton]; omega) ?_
        rw [List.filter_cons_of_pos hk, List.map_cons] at h
        rw [List.append_assoc]
        exact h
      · refine ih _ (fun d hd => hm d (List.mem_cons_of_mem _ hd)) (by omega) ?_
        rw [List.filter_cons_of_neg (by rw [hk]; decide)] at h
        exact h
  exact key ds [] (fun _ h => h) (by simpa using hl) hn
end
/-! bags of draws -/
def BagC (c : Int) (x : Cell) : Prop := ∃ a b k, x = .lst [.int a, .int b, .int k] ∧ 0 ≤ a ∧ 0 ≤ b ∧ b < 2147483629 ∧ 0 ≤ k ∧ k ≤ c
theorem BagC.more {c d : Int} {x : Cell} (h : BagC c x) (l : c ≤ d) : BagC d x := by
  obtain ⟨a, b, k, e, h1, h2, h3, h4, h5⟩ := h
  exact ⟨a, b, k, e, h1, h2, h3, h4, by omega⟩
/-- at p a bag from which at most c numbers were made; it is all that changed since M -/
structure Bag (M L : Lc) (p : Addr) (c : Int) : Prop where
  bag : ∃ x, L p = some x ∧ BagC c x
  rest : ∀ a, a ≠ p → L a = M a
theorem Bag.more {M L : Lc} {p : Addr} {c d : Int} (h : Bag M L p c) (l : c ≤ d) : Bag M L p d := by
  obtain ⟨⟨x, e, b⟩, r⟩ := h
  exact ⟨⟨x, e, b.more l⟩, r⟩
theorem Bag.take {M L : Lc} {p : Addr} {c d : Int} {x : Cell} (h : Bag M L p c) (b : BagC d x) : Bag M (updL L p x) p d :=
  ⟨⟨x, updL_same, b⟩, fun a n => by rw [updL_ne n]; exact h.rest a n⟩
theorem Bag.at_ {M L : Lc} {p a : Addr} {c : Int} {x : Cell} (h : Bag M L p c) (hm : M p = none ∨ a ≠ p) (e : M a = some x) : L a = some x := by
  have n : a ≠ p := by
    rcases hm with hm | hm
    · intro z; rw [z, hm] at e; cases e
    · exact hm
  rw [h.rest a n]; exact e
def spTakeD (y m : Int) : DSp := fun ds L q _ => ∃ p n c, ds = [.ref p, .int n] ∧ (∃ x, L p = some x ∧ BagC c x) ∧ 0 ≤ c ∧ c ≤ 900000 ∧ 0 < n ∧ n.natAbs.log2 < 9000 ∧ ∀ i x, 0 ≤ i → i < n → BagC (c + 1) x → q (.int i) (updL L p x)
def spBagD : DSp := fun ds L q _ => ∃ z, ds = [.int z] ∧ ∀ p x, L p = none → BagC 0 x → q (.ref p) (updL L p x)
def spCellD : DSp := fun ds L q _ => ∃ ns k, ds = [.scr ns, .int k] ∧ 0 ≤ k ∧ k ≤ 1000000 ∧ ∀ i, q (.int i) L
end Ed

set_option Elab.async false
set_option linter.all false
set_option maxRecDepth 100000
set_option maxHeartbeats 2000000
/-! Draws; letters; cells read and set. -/
namespace Ed
open PySem PySem.Spec PyProof.Rows L2 Dz
theorem ixN_of {n : Nat} {i : Int} (h0 : 0 ≤ i) (h1 : i < n) : ixN n i = some i.toNat := by
  unfold ixN
  rw [if_pos h0]
  rw [if_pos (by omega)]
theorem atI_ofD {α : Type} {l : List α} {i : Int} {x : α} (h0 : 0 ≤ i) (h : l[i.toNat]? = some x) : atI l i = some x := by
  have hi := (List.getElem?_eq_some_iff.mp h).1
  unfold L2.atI
  rw [ixN_of h0 (by omega)]
  exact h
theorem at0 {α : Type} {x : α} {l : List α} : atI (x :: l) 0 = some x := atI_ofD (Int.le_refl _) rfl
theorem at1 {α : Type} {x y : α} {l : List α} : atI (x :: y :: l) 1 = some y := atI_ofD (by decide) rfl
theorem at2 {α : Type} {x y z : α} {l : List α} : atI (x :: y :: z :: l) 2 = some z := atI_ofD (by decide) rfl
theorem at3 {α : Type} {x y z u : α} {l : List α} : atI (x :: y :: z :: u :: l) 3 = some u := atI_ofD (by decide) rfl
/-- an index from 0 on -/
theorem at_lt {α : Type} {l : List α} {i : Int} (h0 : 0 ≤ i) (h1 : i < l.length) : ∃ x, atI l i = some x ∧ l[i.toNat]? = some x ∧ x ∈ l := by
  have hi : i.toNat < l.length := by omega
  exact ⟨l[i.toNat], atI_ofD h0 (List.getElem?_eq_getElem hi), List.getElem?_eq_getElem hi, List.getElem_mem hi⟩
section
variable {L : Lc} {p : Addr} {ds : List D}
theorem vs_ref (h : L p = some (.lst ds)) : vSeq L (.ref p) = some ds := by simp [vSeq, vLst, h]
theorem vr_ref (h : L p = some (.lst ds)) : vRd L (.ref p) = some ds := by simp [vRd, vLst, h]
theorem vl_ref (h : L p = some (.lst ds)) : vLst L (.ref p) = some ds := by simp [vLst, h]
theorem v_setL {n : Lc → Prop} {i : Int} {j : Nat} {v : D} (h : L p = some (.lst ds)) (hi : ixN ds.length i = some j) (k : n (updL L p (.lst (ds.set j v)))) : setD (.ref p) (.int i) v L n :=
  .inl ⟨p, ds, i, j, rfl, h, rfl, hi, k⟩
end
theorem Bag.trans {M L L' : Lc} {p : Addr} {c d : Int} (h : Bag M L p c) (h' : Bag L L' p d) : Bag M L' p d := ⟨h'.bag, fun a n => (h'.rest a n).trans (h.rest a n)⟩
theorem Bag.self {L : Lc} {p : Addr} {c : Int} (h : ∃ x, L p = some x ∧ BagC c x) : Bag L L p c := ⟨h, fun _ _ => rfl⟩
/-- a new cell beside -/
theorem Bag.new {M L : Lc} {p a : Addr} {c : Int} {x : Cell} (h : Bag M L p c) (n : L a = none) : Bag (updL M a x) (updL L a x) p c := by
  obtain ⟨⟨y, hy, b⟩, r⟩ := h
  have ne : p ≠ a := fun z => by rw [← z, hy] at n; cases n
  refine ⟨⟨y, by rw [updL_ne ne]; exact hy, b⟩, fun b hb => ?_⟩
  by_cases z : b = a
  · rw [z, updL_same, updL_same]
  · rw [updL_ne z, updL_ne z, r b hb]
def spTk : DSp := spTakeD 0 0
theorem take_d {M L : Lc} {p : Addr} {c : Nat} {n : Int} {q : DQ} {e : DE_} (h : Bag M L p c) (hc : c ≤ 900000) (n0 : 0 < n) (nn : n.natAbs.log2 < 9000) (k : ∀ i L', 0 ≤ i → i < n → Bag M L' p ((c + 1 : Nat) : Int) → q (.int i) L') : spTk [.ref p, .int n] L q e :=
  ⟨p, n, c, rfl, h.bag, by omega, by omega, n0, nn, fun i x h0 h1 b => k i _ h0 h1 (h.take (by rw [show ((c + 1 : Nat) : Int) = (c : Int) + 1 by omega]; exact b))⟩
def LTR : Str := "abcdefghijklmnopqrstuvwxyz"
theorem ltr_len : LTR.length = 26 := by decide +kernel
def LetS (z : Str) : Prop := ∀ c ∈ z.cps.toList, c ∈ LTR.cps.toList
def Nm (z : Str) : Prop := 1 ≤ z.length ∧ z.length ≤ 8 ∧ LetS z
theorem len_app (x y : Str) : (x ++ y).length = x.length + y.length := by
  show (x.cps ++ y.cps).size = _
  rw [Array.size_append]; rfl
theorem let_app {x y : Str} (hx : LetS x) (hy : LetS y) : LetS (x ++ y) := fun c hc => by
  have e : (x ++ y).cps.toList = x.cps.toList ++ y.cps.toList := by
    show (x.cps ++ y.cps).toList = _
    simp
  rw [e] at hc
  rcases List.mem_append.mp hc with h | h
  · exact hx c h
  · exact hy c h
theorem let_cut {z : Str} {lo hi : Option Int} (h : LetS z) : LetS (cutS z lo hi) := fun c hc => h c (cut_mem hc)
theorem let_one {c : Nat} (h : c ∈ LTR.cps.toList) : LetS ⟨#[c]⟩ := fun d hd => by
  have : d = c := by simpa using hd
  rw [this]; exact h
theorem cut_take {z : Str} {k : Int} (h : 0 ≤ k) : ((cutS z none (some k)).length : Int) ≤ k := by
  have e : (cutS z none (some k)).length = ((z.cps.toList.drop (HT.sIx z.length 0 none)).take (HT.sIx z.length z.length (some k) - HT.sIx z.length 0 none)).length := by
    show Array.size _ = _
    simp [cutS]
  rw [e, List.length_take]
  obtain ⟨n, rfl⟩ : ∃ n : Nat, k = n := ⟨k.toNat, (Int.toNat_of_nonneg h).symm⟩
  rw [HT.sIx_nat]
  show ((min (min n z.length - 0) _ : Nat) : Int) ≤ n
  omega
theorem cut_two {z : Str} {k : Int} (h : 0 ≤ k) : (cutS z none (some k)).length + (cutS z (some k) none).length ≤ z.length := by
  obtain ⟨n, rfl⟩ : ∃ n : Nat, k = n := ⟨k.toNat, (Int.toNat_of_nonneg h).symm⟩
  have e1 : (cutS z none (some (n : Int))).length = ((z.cps.toList.drop (HT.sIx z.length 0 none)).take (HT.sIx z.length z.length (some (n : Int)) - HT.sIx z.length 0 none)).length := by
    show Array.size _ = _
    simp [cutS]
  have e2 : (cutS z (some (n : Int)) none).length = ((z.cps.toList.drop (HT.sIx z.length 0 (some (n : Int)))).take (HT.sIx z.length z.length none - HT.sIx z.length 0 (some (n : Int)))).length := by
    show Array.size _ = _
    simp [cutS]
  have lz : z.cps.toList.length = z.length := Array.length_toList
  rw [e1, e2, List.length_take, List.length_take, List.length_drop, List.length_drop, HT.sIx_nat, HT.sIx_nat, lz]
  show min (min n z.length - 0) (z.length - 0) + min (z.length - min n z.length) (z.length - min n z.length) ≤ z.length
  omega
/-- one of the letters -/
theorem ltr_at {i : Int} (h0 : 0 ≤ i) (h1 : i < 26) : ∃ c, atI LTR.cps.toList i = some c ∧ LetS ⟨#[c]⟩ := by
  have l : LTR.cps.toList.length = 26 := by rw [Array.length_toList]; exact ltr_len
  obtain ⟨c, hc, _, m⟩ := at_lt (l := LTR.cps.toList) h0 (by rw [l]; exact h1)
  exact ⟨c, hc, let_one m⟩
theorem sz_lt {n : Nat} (h : n ≤ 1000) : n ≤ sizeLine := Nat.le_trans h (by decide)
theorem join_nil {zs : List Str} (h1 : ∀ z ∈ zs, z.length = 1 ∧ LetS z) : (Txt.join "" zs).length = zs.length ∧ LetS (Txt.join "" zs) ∧ (zs.map (·.length)).sum = zs.length := by
  have hsum : (zs.map (·.length)).sum = zs.length := by
    induction zs with
    | nil => rfl
    | cons z zs ih =>
      rw [List.map_cons, List.sum_cons, (h1 z List.mem_cons_self).1, ih fun y hy => h1 y (List.mem_cons_of_mem _ hy), List.length_cons]
      omega
  refine ⟨by rw [TL.join_eq]; exact (join_len "" rfl zs).trans hsum, fun c hc => ?_, hsum⟩
  rw [TL.join_eq] at hc
  obtain ⟨y, hy, hc'⟩ := join_mem "" rfl zs c hc
  exact (h1 y hy).2 c hc'
end Ed

set_option Elab.async false
set_option linter.all false
set_option maxRecDepth 100000
set_option maxHeartbeats 2000000
/-! Lists unpacked; letters by their numbers. -/
namespace Ed
open PySem PySem.Spec PyProof.Rows L2 Dz
def dgUnl (k : Nat) (r : DTGs) : DTG := fun w x ρ L n => ∃ ds, vRd L x = some ds ∧ ds.length = k ∧ r w ds ρ L n
theorem dg_unl {X : Cx} {K : PySem.W.Frag} {es : List Expr} {pos : Pos} {k m : Nat} {tgs : WX → TGs} {dgs : DTGs} (hK : X.K = K) (hc : X.calm = true) (h : DGs X K tgs es dgs) (hn : (assignEach es X.env).length = m := by rfl) (hst : (assignEach es X.env).findIdx? (·.1) = none := by rfl) :
    DG X K (fun W => L2.gUnl K m (tgs W)) (.Tuple es k pos) (dgUnl m dgs) := by
  subst hK
  refine ⟨fun W t => L2.pg_unl hc (h.pg W t) hn hst, fun W ew S σ ρ v x N n I r R hh => ?_⟩
  obtain ⟨ds, hx, hl, hh⟩ := hh
  obtain ⟨a, xs, rfl, h1, h2⟩ := vRd_ok I.ok r hx
  exact ⟨a, xs, rfl, h1, by rw [h2.length]; exact hl, h.sim W ew S σ ρ xs ds N n I h2 R hh⟩
theorem v_gunl {w : EW} {ρ : Dv} {L : Lc} {n : Dv → Lc → Prop} {k : Nat} {r : DTGs} {ds : List D} (h : ds.length = k ∧ r w ds ρ L n) : dgUnl k r w (.lst ds) ρ L n := ⟨ds, rfl, h⟩
end Ed

set_option Elab.async false
set_option linter.all false
set_option maxRecDepth 100000
set_option maxHeartbeats 2000000
/-! in a tuple, of any data; slots changed in place. -/
namespace Ed
open PySem PySem.Spec PyProof.Rows L2 Dz
def inTD (neg : Bool) : DR2 := fun x y L q => ∃ d ds, PyR L x d ∧ PyR L y (.tuple ds) ∧ SeqAt.shaped d = true ∧ SeqAt.shaped (.tuple ds) = true ∧ q (.bl (if neg then !(ds.any fun e => PyData.eqv e d) else ds.any fun e => PyData.eqv e d)) L
theorem op_inTD {X : Cx} {K : PySem.W.Frag} (hK : X.K = K) (hu : X.A.units + 65 < cLine) : OpR X (compareOp .In) (rOf K (inTD false)) := by
  subst hK
  rintro pins s σ H x y v u Q I rx ry ⟨S, a, b, q, rfl, k1, ra, rb, R, d, ds, hd, he, sd, se, h⟩
  obtain ⟨as, r1⟩ := Dp.reads I d x v (hd.dp k1 ra) rx
  obtain ⟨bs, r2⟩ := Dp.reads I (.tuple ds) y u (he.dp k1 rb) ry
  exact SeqAt.in_tuple_reads r2 r1 (SeqAt.canLay_of_shaped se) (SeqAt.canLay_of_shaped sd) (room_in_shaped sd hu) ⟨.bl _, S.H, I, rfl, R S _ _ (.refl S) k1 (.bl _) h⟩
theorem op_ninTD {X : Cx} {K : PySem.W.Frag} (hK : X.K = K) (hu : X.A.units + 65 < cLine) : OpR X (compareOp .NotIn) (rOf K (inTD true)) := by
  subst hK
  rintro pins s σ H x y v u Q I rx ry ⟨S, a, b, q, rfl, k1, ra, rb, R, d, ds, hd, he, sd, se, h⟩
  obtain ⟨as, r1⟩ := Dp.reads I d x v (hd.dp k1 ra) rx
  obtain ⟨bs, r2⟩ := Dp.reads I (.tuple ds) y u (he.dp k1 rb) ry
  exact SeqAt.notIn_tuple_reads r2 r1 (SeqAt.canLay_of_shaped se) (SeqAt.canLay_of_shaped sd) (room_in_shaped sd hu) ⟨.bl _, S.H, I, rfl, R S _ _ (.refl S) k1 (.bl _) h⟩
def inAD (neg : Bool) : DR2 := fun x y L q => inD neg x y L q ∨ inTD neg x y L q
theorem op_inAD {X : Cx} {K : PySem.W.Frag} (hK : X.K = K) (hu : X.A.units + 65 < cLine) : OpR X (compareOp .In) (fun x y H Q => rInA K false x y H Q ∨ rOf K (inTD false) x y H Q) := (op_inA hK hu).or (op_inTD hK hu)
theorem op_ninAD {X : Cx} {K : PySem.W.Frag} (hK : X.K = K) (hu : X.A.units + 65 < cLine) : OpR X (compareOp .NotIn) (fun x y H Q => rInA K true x y H Q ∨ rOf K (inTD true) x y H Q) := (op_ninA hK hu).or (op_ninTD hK hu)
theorem sim_inAD {K : PySem.W.Frag} {neg : Bool} : SimR2 K (fun x y H Q => rInA K neg x y H Q ∨ rOf K (inTD neg) x y H Q) (inAD neg) := sim_in.or sim_of
/-! x += e -/
def dAug (i : Nat) (f : DR2) (a : DTE) : DTS := fun w D ρ L => ∃ x, ρ[i]? = some (some x) ∧ a w ρ L fun y L1 => f x y L1 fun z L2 => D.nx (ρ.set i (some z)) L2
theorem ds_aug {X : Cx} {K : PySem.W.Frag} {i : Nat} {x : Str} {e : Expr} {ta : WX → TE} {da : DTE} {op : Operator} {ti : TIp} {f : DR2} {pos pos' : Pos} (hN : X.N.Nodup) (hi : X.N[i]? = some x) (hx : Loc X.env.scope x) (ha : DE X K ta e da) (ho : PIp X op ti) (hs : SimR2 K ti f)
    (hf : X.fn x = true ∨ X.env.scope.names.lookup x = some .local := by first | exact .inl rfl | exact .inr rfl | assumption) : DS X K (fun W => tAug i (ta W) ti) (.AugAssign (.Name x pos') op e pos) (dAug i f da) := by
  refine ⟨fun W t => ps_aug hN hi hx (ha.pe W t) ho hf, fun W ew S σ ρ D d I R h => ?_⟩
  obtain ⟨y, hy, h⟩ := h
  obtain ⟨v, hv, rv⟩ := I.sl.at_ i y hy
  refine ⟨v, hv, ha.sim W ew S σ ρ _ _ I (fun S1 u z e1 k1 r1 h1 => ?_) h⟩
  refine hs S1 v u y z _ _ k1 (rv.ev e1) r1 (fun S2 t t' e2 k2 r2 h2 => ?_) h1
  exact R.nx S2 _ _ (e1.trans e2) k2 ((I.sl.ev (e1.trans e2)).set r2) h2
def ipD (g : Int → Int → Int) : DR2 := iopD (fun _ _ => True) g
theorem sim_ip {K : PySem.W.Frag} {g : Int → Int → Int} : SimR2 K (ipI g) (ipD g) := by
  rintro S x y a b Q q k rx ry R ⟨i, j, rfl, rfl, _, h⟩
  cases rx; cases ry
  exact ⟨i, j, rfl, rfl, R S _ _ (.refl S) k (.int _) h⟩
theorem v_aug {w : EW} {D0 : DEnds} {ρ : Dv} {L : Lc} {i : Nat} {f : DR2} {a : DTE} (h : ∃ x, ρ[i]? = some (some x) ∧ a w ρ L fun y L1 => f x y L1 fun z L2 => D0.nx (ρ.set i (some z)) L2) : dAug i f a w D0 ρ L := h
theorem v_ip {g : Int → Int → Int} {i j : Int} {L : Lc} {q : DQ} (h : q (.int (g i j)) L) : ipD g (.int i) (.int j) L q := ⟨i, j, rfl, rfl, trivial, h⟩
end Ed

set_option Elab.async false
set_option linter.all false
set_option maxRecDepth 100000
set_option maxHeartbeats 2000000
/-! A try with clauses of one class, named or not, and a last one of two. -/
namespace Dz
open PySem PySem.Spec PyProof.Rows L2
inductive Ct where
  | one (q : Cl)
  | two (c1 c2 : Value) (ts : Addr → Value → Option Addr → TS)
def wT (K : PySem.W.Frag) (Wout : WX) (D : Ends) : List (Option Ct) → WX
  | [] => Wout
  | none :: _ => fun _ _ _ _ => False
  | some (.one q) :: l => fun cls d σ H => ∃ b, PySem.W.exmOne K cls q.c = some b ∧ (b = true → ∀ a, H a = none → q.ts a cls d (Ends.gone D q.i) (put σ a q.i) H) ∧ (b = false → wT K Wout D l cls d σ H)
  | some (.two c1 c2 ts) :: _ => fun cls d σ H => PySem.W.exmAny K cls [c1, c2] = some true ∧ ∀ a, H a = none → ts a cls d D σ H
inductive HdsT (X : Cx) : List ExceptHandler → List (Option Ct) → Prop
  | nil : HdsT X [] []
  | never {hds : List ExceptHandler} : HdsT X hds [none]
  | as_ {x n : Str} {c : Value} {i : Nat} {ts : Addr → Value → Option Addr → TS} {b₀ : Stmt} {suite : List Stmt} {np pos' : Pos} {hds : List ExceptHandler} {l : List (Option Ct)} (hi : X.N[i]? = some n) (hln : X.env.kindOf n = some .local) (hc : Names X x c)
      (hsu : ∀ (a : Addr) (oe : Obj) (cls : Value) (d : Option Addr) (pn : List (Addr × Obj)), Zc cls d oe → (∃ vs, oe.data = .fields vs) → PSs (X.suite a ((a, oe) :: pn)) (b₀ :: suite) (ts a cls d)) (r : HdsT X hds l) :
      HdsT X (.ExceptHandler (some (.Name x np)) (some n) (b₀ :: suite) pos' :: hds) (some (.one ⟨c, some i, ts⟩) :: l)
  | plain {x : Str} {c : Value} {ts : Addr → Value → Option Addr → TS} {b₀ : Stmt} {suite : List Stmt} {np pos' : Pos} {hds : List ExceptHandler} {l : List (Option Ct)} (hc : Names X x c)
      (hsu : ∀ (a : Addr) (oe : Obj) (cls : Value) (d : Option Addr) (pn : List (Addr × Obj)), Zc cls d oe → (∃ vs, oe.data = .fields vs) → PSs (X.suite a ((a, oe) :: pn)) (b₀ :: suite) (ts a cls d)) (r : HdsT X hds l) :
      HdsT X (.ExceptHandler (some (.Name x np)) none (b₀ :: suite) pos' :: hds) (some (.one ⟨c, none, ts⟩) :: l)
  | tup2 {x1 x2 : Str} {c1 c2 : Value} {ts : Addr → Value → Option Addr → TS} {b₀ : Stmt} {suite : List Stmt} {p1 p2 tpos pos' : Pos} {kk : Nat} {hds : List ExceptHandler} (n1 : Names X x1 c1) (n2 : Names X x2 c2)
      (hsu : ∀ (a : Addr) (oe : Obj) (cls : Value) (d : Option Addr) (pn : List (Addr × Obj)), Zc cls d oe → (∃ vs, oe.data = .fields vs) → PSs (X.suite a ((a, oe) :: pn)) (b₀ :: suite) (ts a cls d)) :
      HdsT X (.ExceptHandler (some (.Tuple [.Name x1 p1, .Name x2 p2] kk tpos)) none (b₀ :: suite) pos' :: hds) [some (.two c1 c2 ts)]
def tTryT (tb : WX → TS) (K : PySem.W.Frag) (Wout : WX) (l : List (Option Ct)) : TS := fun D σ H => tb (wT K Wout D l) D σ H
section
variable {X : Cx} {body : List Stmt} {h₀ : ExceptHandler} {hds : List ExceptHandler} {l : List (Option Ct)} {pos : Pos} {tb : WX → TS} {Wout : WX}
theorem ps_tryT (hs : X.stack = X.env :: X.outer) (hf : X.env.frame = some X.env.locals) (hN : X.N.Nodup) (tk : Takes X Wout)
    (hb : ∀ (W : WX) (pn : List (Addr × Obj)) (xe : Value → Shared → Prop), Takes (X.tr pn xe) W → PassesOwn (model X.prog X.w) X.A X.env xe → PSs (X.tr pn xe) body (tb W))
    (hh : HdsT X (h₀ :: hds) l) : PS X (.Try body (h₀ :: hds) [] [] pos) (tTryT tb X.K Wout l) := by
  constructor
  intro pins s σ H D I h
  have ok := I.ok
  have hfr : X.A.frames = some (X.env :: X.outer) := by rw [ok.frames, hs]
  refine wpAny_Try_except ?_
  refine wpAny_mono ((hb (wT X.K Wout D l) (X.pn ++ pins) (fun e s₁ => wpAny (model X.prog X.w) X.A (noteFrame e X.env) (fun _ s₂ => wpAny (model X.prog X.w) X.A (setFlight e none) (fun _ s₃ =>
    wpAny (model X.prog X.w) X.A (handleBy e X.env (h₀ :: hds)) (SP X pins D) X.xe s₃) X.xe s₂) X.xe s₁) ?_ PassesOwn.looking).run [] s σ H D (I.toTry _) h) ?_ fun e s1 he => he
  · rintro u s' ⟨a, B, sI, pins', σ', H', cls, d, rfl, J', nb, up, sky, na, os, ag, w⟩
    have J : Inv X pins σ' H' sI := J'.ofTry ok
    show wpAny (model X.prog X.w) X.A (noteFrame (.ref a) X.env) _ _ _
    refine Sky.land Zc.steady hfr hf (by rw [← hs]; exact sky) fun h3 fl3 up3 => ?_
    have J3 : Inv X pins σ' H' { s' with heap := h3 } := J.landed nb fl3.1 (up.trans up3) os ag
    obtain ⟨oe3, vs3, he3, hz3, hd3⟩ := fl3.there
    have nfr : a ∉ frs (X.env :: X.outer) := fun hm => by
      obtain ⟨_, o', e', hnf⟩ := fl3.2.2.1.mem hm
      rw [he3] at e'
      cases e'
      exact hnf _ hd3
    have nL : a ≠ X.env.locals := fun z => nfr (List.mem_filterMap.mpr ⟨X.env, List.mem_cons_self, by rw [hf, z]⟩)
    have nF : a ∉ X.fs := fun hm => by
      obtain ⟨e, he, q⟩ := List.mem_filterMap.mp hm
      exact nfr (List.mem_filterMap.mpr ⟨e, List.mem_cons_of_mem _ he, q⟩)
    have S3 := J3.suite he3 hd3 na nL nF
    have LT : PySem.W.Looks (model X.prog X.w) h3 (typeOf (.ref a)) cls := fun A Q E s k q => wpAny_typeOf_ref (k _ _ he3) (by rw [hz3.1]; exact q)
    have test : ∀ {x : Str} {c : Value} {np : Pos} {Q : Value → Shared → Prop} {E : Value → Shared → Prop}, Names X x c → Q c { s' with heap := h3 } → wpAny (model X.prog X.w) (X.A.mark (some (.ref a))) (eval (.Name x np) X.env) Q E { s' with heap := h3 } := by
      intro x c np Q E hc q
      obtain ⟨hg, hdbg, hm | ⟨hm, hv, hnn⟩⟩ := hc
      · exact ld_glob (X := X.suite a ((a, oe3) :: (X.pn ++ pins))) S3 hg hm q hdbg
      · exact ld_blt (X := X.suite a ((a, oe3) :: (X.pn ++ pins))) S3 hg hm hv q hnn hdbg
    have go : ∀ {hds' : List ExceptHandler} {l' : List (Option Ct)}, HdsT X hds' l' → wT X.K Wout D l' cls d σ' H' → wpAny (model X.prog X.w) X.A (handleBy (.ref a) X.env hds') (SP X pins D) X.xe { s' with heap := h3 } := by
      intro hds' l' hk
      induction hk with
      | never => exact fun w => w.elim
      | nil =>
        intro w
        refine wpAny_handleBy_nil ?_
        obtain ⟨k1, k2, k3, oe, vs, T, oT, ts', he, hz, hd, h1, hr⟩ := id fl3
        unfold PySem.passOn
        refine wpAny_bind (wpAny_field he hd h1 ?_)
        rw [if_neg (show ¬ ((Value.ref T == Value.none) = true) from by simp)]
        have fin : wpAny (model X.prog X.w) X.A (setFlight (.ref a) X.env.frame) (fun _ s4 => wpAny (model X.prog X.w) X.A (throw (.ref a) : Sem Flow) (SP X pins D) X.xe s4) X.xe { s' with heap := h3 } := by
          rw [hf]
          refine HandSPX.setFlight_upZ fl3 fun h4 hh4 up4 => wpAny_throw (tk _ _ ?_)
          exact ⟨a, B, sI, pins, σ', H', cls, d, rfl, J, nb, (up.trans up3).trans up4, .inr (.inr (by rw [hs]; exact hh4)), na, os, ag, w⟩
        first
          | exact wpAny_bind (wpAny_pure (wpAny_bind fin))
          | exact wpAny_bind fin
      | @as_ x n c i ts b₀ suite np pos' hds2 l2 hi hln hc hsu r ih =>
        intro w
        obtain ⟨b, hb1, hyes, hno⟩ := w
        refine wpAny_handleBy_cons (codeAny_handlers_test (test hc ((PySem.W.exm_one (M := model X.prog X.w) J3.kIn LT hb1).here ?_))) (by intro q; cases q)
        cases b with
        | false =>
          show wpAny _ X.A (handleBy (.ref a) X.env hds2) _ _ _
          exact ih (hno rfl)
        | true =>
          refine codeAny_handlers_suite_as ?_
          refine HandSPX.lands_againZ fl3 fun h4 fl4 up4 => ?_
          have J4 : Inv X pins σ' H' { s' with heap := h4 } := J.landed nb fl4.1 ((up.trans up3).trans up4) os ag
          obtain ⟨oe4, vs4, he4, hz4, hd4⟩ := fl4.there
          have S4 := J4.suite he4 hd4 na nL nF
          refine store_ok (X := X.suite a ((a, oe4) :: (X.pn ++ pins))) (v := .ref a) S4 hN hi (.inl hln) rfl (fun s5 S5 => ?_) (.inr hln)
          refine wpAny_mono ((hsu a oe4 cls d (X.pn ++ pins) hz4 ⟨_, hd4⟩).run [] s5 _ H' _ S5 (hyes rfl a na)) (fun f s6 hsp => ?_) (fun _ _ z => False.elim z)
          have end_ : ∀ {σ6 : L2.St} {H6 : Hp} {Q : Shared → Prop}, Inv (X.suite a ((a, oe4) :: (X.pn ++ pins))) [] σ6 H6 s6 → (∀ s7, Inv X pins (σ6.set i none) H6 s7 → Q s7) →
              wpAny (model X.prog X.w) X.A (do bindName X.env n .none; unbindBehindTheSuite X.env n pos') (fun _ s7 => Q s7) X.xe s6 := fun {σ6 H6 Q} S6 hq => gone_ok (S6.unsuite ok) hN hi hln hq
          cases f with
          | next =>
            obtain ⟨σ6, H6, S6, q6⟩ := hsp
            exact end_ S6 fun s7 J7 => ⟨_, _, J7, q6⟩
          | brk =>
            obtain ⟨σ6, H6, S6, q6⟩ := hsp
            exact end_ S6 fun s7 J7 => ⟨_, _, J7, q6⟩
          | cont =>
            obtain ⟨σ6, H6, S6, q6⟩ := hsp
            exact end_ S6 fun s7 J7 => ⟨_, _, J7, q6⟩
          | ret u =>
            obtain ⟨v6, σ6, H6, S6, r6, q6⟩ := hsp
            exact end_ S6 fun s7 J7 => ⟨_, _, _, J7, r6, q6⟩
      | @plain x c ts b₀ suite np pos' hds2 l2 hc hsu r ih =>
        intro w
        obtain ⟨b, hb1, hyes, hno⟩ := w
        refine wpAny_handleBy_cons (codeAny_handlers_test (test hc ((PySem.W.exm_one (M := model X.prog X.w) J3.kIn LT hb1).here ?_))) (by intro q; cases q)
        cases b with
        | false =>
          show wpAny _ X.A (handleBy (.ref a) X.env hds2) _ _ _
          exact ih (hno rfl)
        | true =>
          refine codeAny_handlers_suite ?_
          refine HandSPX.lands_againZ fl3 fun h4 fl4 up4 => ?_
          have J4 : Inv X pins σ' H' { s' with heap := h4 } := J.landed nb fl4.1 ((up.trans up3).trans up4) os ag
          obtain ⟨oe4, vs4, he4, hz4, hd4⟩ := fl4.there
          have S4 := J4.suite he4 hd4 na nL nF
          refine wpAny_mono ((hsu a oe4 cls d (X.pn ++ pins) hz4 ⟨_, hd4⟩).run [] _ _ H' _ S4 (hyes rfl a na)) (fun f s6 hsp => ?_) (fun _ _ z => False.elim z)
          cases f with
          | next =>
            obtain ⟨σ6, H6, S6, q6⟩ := hsp
            exact ⟨_, _, S6.unsuite ok, q6⟩
          | brk =>
            obtain ⟨σ6, H6, S6, q6⟩ := hsp
            exact ⟨_, _, S6.unsuite ok, q6⟩
          | cont =>
            obtain ⟨σ6, H6, S6, q6⟩ := hsp
            exact ⟨_, _, S6.unsuite ok, q6⟩
          | ret u =>
            obtain ⟨v6, σ6, H6, S6, r6, q6⟩ := hsp
            exact ⟨_, _, _, S6.unsuite ok, r6, q6⟩
      | @tup2 x1 x2 c1 c2 ts b₀ suite p1 p2 tpos pos2 kk hds2 n1 n2 hsu =>
        rintro ⟨hb1, hyes⟩
        have kp : ∀ q o, h3.get? q = some o → (h3.push { cls := .type "tuple", data := .seq [c1, c2].toArray }).get? q = some o := fun _ _ z => Heap.get?_push_of_some _ z
        refine wpAny_handleBy_cons (codeAny_handlers_test ?_) (by intro q; cases q)
        refine wpAny_Tuple ?_
        refine wpAny_items_cons (test n1 ?_)
        refine wpAny_items_cons (test n2 ?_)
        refine wpAny_items_nil ⟨by size_fits, ?_⟩
        refine (PySem.W.exm_tup2 (M := model X.prog X.w) (J3.kIn.keeps kp) (LT.keeps kp) (Heap.get?_push_size h3 rfl) hb1).here ?_
        have fl5 : HandSPX.FlyingZ B (X.env :: X.outer) a (Zc cls d) (h3.push { cls := .type "tuple", data := .seq [c1, c2].toArray }) := by
          obtain ⟨y1, y2, y3, oe, vs, T, oT, ts', he, hz, hd, h1, hn, ne, hT, hdT, h9⟩ := fl3
          exact ⟨fun b o q => kp b o (y1 b o q), y2, y3.of_keeps fun b o q _ => ⟨o, kp b o q, rfl⟩, oe, vs, T, oT, ts', kp _ _ he, hz, hd, h1, hn, ne, kp _ _ hT, hdT, h9⟩
        refine codeAny_handlers_suite ?_
        refine HandSPX.lands_againZ fl5 fun h4 fl4 up4 => ?_
        have J4 : Inv X pins σ' H' { s' with heap := h4 } := J.landed nb fl4.1 (((up.trans up3).trans (Heap.UpToSlots.of_keeps kp)).trans up4) os ag
        obtain ⟨oe4, vs4, he4, hz4, hd4⟩ := fl4.there
        have S4 := J4.suite he4 hd4 na nL nF
        refine wpAny_mono ((hsu a oe4 cls d (X.pn ++ pins) hz4 ⟨_, hd4⟩).run [] _ _ H' _ S4 (hyes a na)) (fun f s6 hsp => ?_) (fun _ _ z => False.elim z)
        cases f with
        | next =>
          obtain ⟨σ6, H6, S6, q6⟩ := hsp
          exact ⟨_, _, S6.unsuite ok, q6⟩
        | brk =>
          obtain ⟨σ6, H6, S6, q6⟩ := hsp
          exact ⟨_, _, S6.unsuite ok, q6⟩
        | cont =>
          obtain ⟨σ6, H6, S6, q6⟩ := hsp
          exact ⟨_, _, S6.unsuite ok, q6⟩
        | ret u =>
          obtain ⟨v6, σ6, H6, S6, r6, q6⟩ := hsp
          exact ⟨_, _, _, S6.unsuite ok, r6, q6⟩
    exact go hh w
  · intro f s1 hsp
    cases f with
    | next =>
      obtain ⟨σ', H', J', q⟩ := hsp
      exact wpAny_execs_nil ⟨σ', H', J'.ofTry ok, q⟩
    | brk =>
      obtain ⟨σ', H', J', q⟩ := hsp
      exact ⟨σ', H', J'.ofTry ok, q⟩
    | cont =>
      obtain ⟨σ', H', J', q⟩ := hsp
      exact ⟨σ', H', J'.ofTry ok, q⟩
    | ret u =>
      obtain ⟨v, σ', H', J', r, q⟩ := hsp
      exact ⟨v, σ', H', J'.ofTry ok, r, q⟩
end
end Dz

set_option Elab.async false
set_option linter.all false
set_option maxRecDepth 100000
set_option maxHeartbeats 2000000
/-! A try, at the level of data: which classes take which is told by mt. -/
namespace Ed
open PySem PySem.Spec PyProof.Rows L2 Dz
inductive DCt where
  | one (q : DCl)
  | two (c1 c2 : Addr) (ds : Addr → Addr → Addr → DTS)
def dClsT (mt : Addr → Addr → Bool → Prop) (w : EW) (D : DEnds) : List (Option DCt) → EW
  | [] => w
  | none :: _ => fun _ _ _ _ => False
  | some (.one q) :: l => fun C gs ρ L => ∃ b, mt C q.c b ∧ (b = true → ∀ a dd, q.ds a dd C noW (D.gone q.i) (dput ρ (.exo a dd C gs) q.i) L) ∧ (b = false → dClsT mt w D l C gs ρ L)
  | some (.two c1 c2 ds) :: _ => fun C gs ρ L => ∃ b1 b2, mt C c1 b1 ∧ mt C c2 b2 ∧ (b1 || b2) = true ∧ ∀ a dd, ds a dd C noW D ρ L
def dTryT (mt : Addr → Addr → Bool → Prop) (tb : DTS) (l : List (Option DCt)) : DTS := fun w D ρ L => tb (dClsT mt w D l) D ρ L
section
variable {X : Cx} {K : PySem.W.Frag} {pos : Pos}
inductive DHdsT (X : Cx) (K : PySem.W.Frag) : List ExceptHandler → List (Option Ct) → List (Option DCt) → Prop
  | nil : DHdsT X K [] [] []
  | never {hds : List ExceptHandler} : DHdsT X K hds [none] [none]
  | as_ {x n : Str} {c : Addr} {i : Nat} {ts : Addr → Value → Option Addr → WX → TS} {ds : Addr → Addr → Addr → DTS} {b₀ : Stmt} {suite : List Stmt} {np pos' : Pos} {hds : List ExceptHandler} {l : List (Option Ct)} {dl : List (Option DCt)} (hi : X.N[i]? = some n) (hln : X.env.kindOf n = some .local) (hc : Names X x (.ref c))
      (hsu : ∀ (a : Addr) (oe : Obj) (cls : Value) (d : Option Addr) (pn : List (Addr × Obj)), Zc cls d oe → (∃ vs, oe.data = .fields vs) → ∀ W, Takes (X.suite a ((a, oe) :: pn)) W → PSs (X.suite a ((a, oe) :: pn)) (b₀ :: suite) (ts a cls d W))
      (sim : ∀ a dd C, SimS K (ts a (.ref C) (some dd)) (ds a dd C)) (r : DHdsT X K hds l dl) :
      DHdsT X K (.ExceptHandler (some (.Name x np)) (some n) (b₀ :: suite) pos' :: hds) (some (.one ⟨.ref c, some i, fun a cls d => ts a cls d fun _ _ _ _ => False⟩) :: l) (some (.one ⟨c, some i, ds⟩) :: dl)
  | plain {x : Str} {c : Addr} {ts : Addr → Value → Option Addr → WX → TS} {ds : Addr → Addr → Addr → DTS} {b₀ : Stmt} {suite : List Stmt} {np pos' : Pos} {hds : List ExceptHandler} {l : List (Option Ct)} {dl : List (Option DCt)} (hc : Names X x (.ref c))
      (hsu : ∀ (a : Addr) (oe : Obj) (cls : Value) (d : Option Addr) (pn : List (Addr × Obj)), Zc cls d oe → (∃ vs, oe.data = .fields vs) → ∀ W, Takes (X.suite a ((a, oe) :: pn)) W → PSs (X.suite a ((a, oe) :: pn)) (b₀ :: suite) (ts a cls d W))
      (sim : ∀ a dd C, SimS K (ts a (.ref C) (some dd)) (ds a dd C)) (r : DHdsT X K hds l dl) :
      DHdsT X K (.ExceptHandler (some (.Name x np)) none (b₀ :: suite) pos' :: hds) (some (.one ⟨.ref c, none, fun a cls d => ts a cls d fun _ _ _ _ => False⟩) :: l) (some (.one ⟨c, none, ds⟩) :: dl)
  | tup2 {x1 x2 : Str} {c1 c2 : Addr} {ts : Addr → Value → Option Addr → WX → TS} {ds : Addr → Addr → Addr → DTS} {b₀ : Stmt} {suite : List Stmt} {p1 p2 tpos pos' : Pos} {kk : Nat} {hds : List ExceptHandler} (n1 : Names X x1 (.ref c1)) (n2 : Names X x2 (.ref c2))
      (hsu : ∀ (a : Addr) (oe : Obj) (cls : Value) (d : Option Addr) (pn : List (Addr × Obj)), Zc cls d oe → (∃ vs, oe.data = .fields vs) → ∀ W, Takes (X.suite a ((a, oe) :: pn)) W → PSs (X.suite a ((a, oe) :: pn)) (b₀ :: suite) (ts a cls d W))
      (sim : ∀ a dd C, SimS K (ts a (.ref C) (some dd)) (ds a dd C)) :
      DHdsT X K (.ExceptHandler (some (.Tuple [.Name x1 p1, .Name x2 p2] kk tpos)) none (b₀ :: suite) pos' :: hds) [some (.two (.ref c1) (.ref c2) fun a cls d => ts a cls d fun _ _ _ _ => False)] [some (.two c1 c2 ds)]
theorem DHdsT.hdsT {hds : List ExceptHandler} {l : List (Option Ct)} {dl : List (Option DCt)} (h : DHdsT X K hds l dl) : HdsT X hds l := by
  induction h with
  | nil => exact .nil
  | never => exact .never
  | as_ hi hln hc hsu sim r ih => exact .as_ hi hln hc (fun a oe cls d pn hz hf => hsu a oe cls d pn hz hf _ takes0) ih
  | plain hc hsu sim r ih => exact .plain hc (fun a oe cls d pn hz hf => hsu a oe cls d pn hz hf _ takes0) ih
  | tup2 n1 n2 hsu sim => exact .tup2 n1 n2 (fun a oe cls d pn hz hf => hsu a oe cls d pn hz hf _ takes0)
/-- what the clauses wish, of both levels -/
theorem clsT_rel {mt : Addr → Addr → Bool → Prop} (hm : ∀ C c b, mt C c b → PySem.W.exmOne K (.ref C) (.ref c) = some b) {hds : List ExceptHandler} {l : List (Option Ct)} {dl : List (Option DCt)} (h : DHdsT X K hds l dl) {S : Sta} {W : WX} {ew : EW} {D : Ends} {d : DEnds} (hw : RelW K S W ew) (hd : RelD K S D d) : RelW K S (wT K W D l) (dClsT mt ew d dl) := by
  induction h with
  | nil => exact hw
  | never => exact fun _ _ _ _ _ _ _ _ _ _ _ _ _ _ z => z.elim
  | @as_ x n c i ts ds b₀ suite np pos' hds l dl hi hln hc hsu sim r ih =>
    intro S' C dd fs gs σ ρ ev ok s n1 n2 n3 n4 hh
    obtain ⟨b, hb, yes, no⟩ := hh
    refine ⟨b, hm _ _ _ hb, fun e a na => ?_, fun e => ih S' C dd fs gs σ ρ ev ok s n1 n2 n3 n4 (no e)⟩
    refine sim a dd C _ noW S' (σ.set i (some (.ref a))) (ρ.set i (some (.exo a dd C gs))) (Ends.gone D (some i)) (DEnds.gone d (some i)) ⟨ok, s.set (.exo n1 n2 n3 n4), noW_rel⟩ ⟨fun T σ2 ρ2 ev2 ok2 s2 h2 => ?_, hd.rt.ev ev, fun T σ2 ρ2 ev2 ok2 s2 h2 => ?_, fun T σ2 ρ2 ev2 ok2 s2 h2 => ?_⟩ (yes e a dd)
    · exact hd.nx T _ _ (ev.trans ev2) ok2 s2.unset h2
    · exact hd.bk T _ _ (ev.trans ev2) ok2 s2.unset h2
    · exact hd.ct T _ _ (ev.trans ev2) ok2 s2.unset h2
  | @plain x c ts ds b₀ suite np pos' hds l dl hc hsu sim r ih =>
    intro S' C dd fs gs σ ρ ev ok s n1 n2 n3 n4 hh
    obtain ⟨b, hb, yes, no⟩ := hh
    refine ⟨b, hm _ _ _ hb, fun e a na => ?_, fun e => ih S' C dd fs gs σ ρ ev ok s n1 n2 n3 n4 (no e)⟩
    exact sim a dd C _ noW S' σ ρ _ _ ⟨ok, s, noW_rel⟩ (hd.ev ev) (yes e a dd)
  | @tup2 x1 x2 c1 c2 ts ds b₀ suite p1 p2 tpos pos' kk hds n1 n2 hsu sim =>
    intro S' C dd fs gs σ ρ ev ok s m1 m2 m3 m4 hh
    obtain ⟨b1, b2, h1, h2, hb, yes⟩ := hh
    refine ⟨?_, fun a na => sim a dd C _ noW S' σ ρ _ _ ⟨ok, s, noW_rel⟩ (hd.ev ev) (yes a dd)⟩
    unfold PySem.W.exmAny PySem.W.exmAny PySem.W.exmAny
    rw [hm _ _ _ h1, hm _ _ _ h2]
    show some (b1 || (b2 || false)) = some true
    rw [Bool.or_false, hb]
theorem ds_tryT {mt : Addr → Addr → Bool → Prop} (hm : ∀ C c b, mt C c b → PySem.W.exmOne K (.ref C) (.ref c) = some b) {body : List Stmt} {h₀ : ExceptHandler} {hds : List ExceptHandler} {l : List (Option Ct)} {dl : List (Option DCt)} {tb : WX → TS} {db : DTS} (hK : X.K = K) (hs : X.stack = X.env :: X.outer) (hf : X.env.frame = some X.env.locals) (hN : X.N.Nodup)
    (hb : ∀ (pn : List (Addr × Obj)) (xe : Value → Shared → Prop), PassesOwn (model X.prog X.w) X.A X.env xe → DSs (X.tr pn xe) K tb body db) (hh : DHdsT X K (h₀ :: hds) l dl) :
    DS X K (fun W => tTryT tb K W l) (.Try body (h₀ :: hds) [] [] pos) (dTryT mt db dl) := by
  subst hK
  refine ⟨fun W t => ps_tryT hs hf hN t (fun W pn xe tk po => (hb pn xe po).ps W tk) hh.hdsT, fun W ew S σ ρ D d I R h => ?_⟩
  have B := hb [] (fun _ _ => False) PassesOwn.never
  exact B.sim _ _ S σ ρ D d ⟨I.ok, I.sl, clsT_rel hm hh I.wi R⟩ R h
theorem v_try {mt : Addr → Addr → Bool → Prop} {tb : DTS} {l : List (Option DCt)} {w : EW} {D0 : DEnds} {ρ : Dv} {L : Lc} (h : tb (dClsT mt w D0 l) D0 ρ L) : dTryT mt tb l w D0 ρ L := h
end
end Ed

set_option Elab.async false
set_option linter.all false
set_option maxRecDepth 100000
set_option maxHeartbeats 2000000
/-! The suites of a try: a caught error's fields; clauses by their suites' derivations. -/
namespace Ed
open PySem PySem.Spec PyProof.Rows L2 Dz
/-- e.f of the caught error: a, dd its places, C its class; C0 the clause's -/
def dXfC (a dd C C0 : Addr) (g : Str) (o : DTE) : DTE := fun w ρ L q => o w ρ L fun x L1 => ∃ gs d, x = .exo a dd C gs ∧ C = C0 ∧ gs.lookup g = some d ∧ q d L1
theorem d_xf {X : Cx} {K : PySem.W.Frag} {a dd C C0 : Addr} {oe : Obj} {pn : List (Addr × Obj)} {e : Expr} {te : WX → TE} {de : DTE} {pos : Pos} {g : Str} (hK : X.K = K) (T : XfC K C0) (hno : PySem.W.findIn K (.ref C0) g = some none)
    (hz : Zc (.ref C) (some dd) oe) (hf : ∃ vs, oe.data = .fields vs) (he : DE (X.suite a ((a, oe) :: pn)) K te e de) (hb : attributeBase e g X.env (eval e X.env) = eval e X.env := by rfl) :
    DE (X.suite a ((a, oe) :: pn)) K (fun W => tXf a (.ref C) (some dd) C0 g (te W)) (.Attribute e g pos) (dXfC a dd C C0 g de) := by
  subst hK
  refine ⟨fun W t => pe_xf T hno hz hf (he.pe W t) hb, fun W ew S σ ρ Q q I R h => ?_⟩
  refine he.sim W ew S σ ρ _ _ I (fun S1 v x e1 k1 r1 h1 => ?_) h
  obtain ⟨gs, d, rfl, rfl, hl, h1⟩ := h1
  cases r1 with
  | @exo _ _ _ ks _ n h2 h3 h4 =>
  have T1 : TabR X.K S1.H S1.Λ ks gs := ⟨h3, h4⟩
  rcases T1.lookup g with ⟨z, _⟩ | ⟨d', v, z, y, rv⟩
  · rw [hl] at z; cases z
  · rw [hl] at z; cases z
    exact ⟨rfl, rfl, dd, ks, v, rfl, h2, y, R S1 _ _ e1 k1 rv h1⟩
/-- a suite's reading where the error's class and fields stand where they stand -/
def tsOf (ts : Addr → Addr → Addr → WX → TS) (a : Addr) (cls : Value) (d : Option Addr) (W : WX) : TS := match cls, d with
  | .ref C, some dd => ts a C dd W
  | _, _ => fun _ _ _ => False
def zoe (C dd : Addr) : Obj := { cls := .ref C, dict := some dd, data := .fields #[] }
section
variable {X : Cx} {K : PySem.W.Frag}
/-- a suite, for each error -/
def Suite (X : Cx) (K : PySem.W.Frag) (ts : Addr → Addr → Addr → WX → TS) (sts : List Stmt) (ds : Addr → Addr → Addr → DTS) : Prop :=
  ∀ (a C dd : Addr) (oe : Obj) (pn : List (Addr × Obj)), Zc (.ref C) (some dd) oe → (∃ vs, oe.data = .fields vs) → DSs (X.suite a ((a, oe) :: pn)) K (ts a C dd) sts (ds a dd C)
theorem Suite.pss {ts : Addr → Addr → Addr → WX → TS} {sts : List Stmt} {ds : Addr → Addr → Addr → DTS} (h : Suite X K ts sts ds) (a : Addr) (oe : Obj) (cls : Value) (d : Option Addr) (pn : List (Addr × Obj)) (hz : Zc cls d oe) (hf : ∃ vs, oe.data = .fields vs) (W : WX) (t : Takes (X.suite a ((a, oe) :: pn)) W) :
    PSs (X.suite a ((a, oe) :: pn)) sts (tsOf ts a cls d W) := by
  unfold tsOf
  split
  · exact (h a _ _ oe pn hz hf).ps W t
  · exact ⟨fun pins s σ H D I z => z.elim⟩
theorem Suite.sim {ts : Addr → Addr → Addr → WX → TS} {sts : List Stmt} {ds : Addr → Addr → Addr → DTS} (h : Suite X K ts sts ds) (a dd C : Addr) : SimS K (tsOf ts a (.ref C) (some dd)) (ds a dd C) :=
  (h a C dd (zoe C dd) [] ⟨rfl, rfl⟩ ⟨_, rfl⟩).sim
theorem h_nil : DHdsT X K [] [] [] := .nil
theorem h_never {hds : List ExceptHandler} : DHdsT X K hds [none] [none] := .never
theorem h_as {x n : Str} {c : Addr} {i : Nat} {ts : Addr → Addr → Addr → WX → TS} {ds : Addr → Addr → Addr → DTS} {b₀ : Stmt} {suite : List Stmt} {np pos' : Pos} {hds : List ExceptHandler} {l : List (Option Ct)} {dl : List (Option DCt)} (hi : X.N[i]? = some n) (hln : X.env.kindOf n = some .local) (hc : Names X x (.ref c))
    (h : Suite X K ts (b₀ :: suite) ds) (r : DHdsT X K hds l dl) : DHdsT X K (.ExceptHandler (some (.Name x np)) (some n) (b₀ :: suite) pos' :: hds) (some (.one ⟨.ref c, some i, fun a cls d => tsOf ts a cls d fun _ _ _ _ => False⟩) :: l) (some (.one ⟨c, some i, ds⟩) :: dl) :=
  .as_ hi hln hc (fun a oe cls d pn hz hf W t => h.pss a oe cls d pn hz hf W t) h.sim r
theorem h_plain {x : Str} {c : Addr} {ts : Addr → Addr → Addr → WX → TS} {ds : Addr → Addr → Addr → DTS} {b₀ : Stmt} {suite : List Stmt} {np pos' : Pos} {hds : List ExceptHandler} {l : List (Option Ct)} {dl : List (Option DCt)} (hc : Names X x (.ref c))
    (h : Suite X K ts (b₀ :: suite) ds) (r : DHdsT X K hds l dl) : DHdsT X K (.ExceptHandler (some (.Name x np)) none (b₀ :: suite) pos' :: hds) (some (.one ⟨.ref c, none, fun a cls d => tsOf ts a cls d fun _ _ _ _ => False⟩) :: l) (some (.one ⟨c, none, ds⟩) :: dl) :=
  .plain hc (fun a oe cls d pn hz hf W t => h.pss a oe cls d pn hz hf W t) h.sim r
theorem h_tup2 {x1 x2 : Str} {c1 c2 : Addr} {ts : Addr → Addr → Addr → WX → TS} {ds : Addr → Addr → Addr → DTS} {b₀ : Stmt} {suite : List Stmt} {p1 p2 tpos pos' : Pos} {kk : Nat} {hds : List ExceptHandler} (n1 : Names X x1 (.ref c1)) (n2 : Names X x2 (.ref c2))
    (h : Suite X K ts (b₀ :: suite) ds) : DHdsT X K (.ExceptHandler (some (.Tuple [.Name x1 p1, .Name x2 p2] kk tpos)) none (b₀ :: suite) pos' :: hds) [some (.two (.ref c1) (.ref c2) fun a cls d => tsOf ts a cls d fun _ _ _ _ => False)] [some (.two c1 c2 ds)] :=
  .tup2 n1 n2 (fun a oe cls d pn hz hf W t => h.pss a oe cls d pn hz hf W t) h.sim
end
end Ed

set_option Elab.async false
set_option linter.all false
set_option maxRecDepth 100000
set_option maxHeartbeats 2000000
/-! Constants that are tuples of texts. -/
namespace Ed
open PySem PySem.Spec PyProof.Rows L2 Dz
theorem rp_strs {K : PySem.W.Frag} {H : Hp} {Λ : Addr → Prop} (ns : List Str) : RpL K H Λ (ns.map V.str) (ns.map D.str) := RpL.strs (S := ⟨H, fun _ => none, Λ⟩) ns
theorem d_ct {X : Cx} {K : PySem.W.Frag} {a : Addr} {ns : List Str} {x : Str} {pos : Pos} (k : KTup K a (ns.map V.str)) (hg : Gl X x) (hm : X.mg x = some (.ref a)) (hd : (x == ("__debug__" : Str)) = false := by decide) : DE X K (fun _ => tC (.ref a)) (.Name x pos) (dC (.ctup (ns.map .str))) :=
  d_c (pe_glob (v := .ref a) hg hm rfl hd) fun _ _ => .ctup k (rp_strs ns)
theorem ktup_of {K : PySem.W.Frag} {a : Addr} {dd : Option Addr} {its : Array Value} {n : Nat} {sl : Array (Option Value)} {xs : List V} (h : K.lookup a = some ⟨.type "tuple", dd, .seq its n, sl⟩) (hl : its.size ≤ 1000) (r : Vals xs its.toList) : KTup K a xs :=
  ⟨_, its, n, h, rfl, rfl, sz_lt hl, r⟩
def boolD : DRL := fun xs L q => (∃ i, xs = [.int i] ∧ q (.bl (i != 0)) L) ∨ ∃ k, xs = [.bl k] ∧ q (.bl k) L
theorem sim_bool {K : PySem.W.Frag} : SimRL K (fun xs H Q => (∃ i, xs = [.int i] ∧ Q (.bl (i != 0)) H) ∨ ∃ k, xs = [.bl k] ∧ Q (.bl k) H) boolD := by
  rintro S xs as Q q k r R (⟨i, rfl, h⟩ | ⟨b, rfl, h⟩)
  · obtain ⟨v, rfl, rv⟩ := vals1R r
    cases rv
    exact .inl ⟨i, rfl, R S _ _ (.refl S) k (.bl _) h⟩
  · obtain ⟨v, rfl, rv⟩ := vals1R r
    cases rv
    exact .inr ⟨b, rfl, R S _ _ (.refl S) k (.bl _) h⟩
def dPar3 (i j l : Nat) (a : DTA) : DTS := fun w D ρ L => a w ρ L fun xs L1 => ∃ x y z, xs = [x, y, z] ∧ D.nx (((ρ.set i (some x)).set j (some y)).set l (some z)) L1
theorem ds_par3 {X : Cx} {K : PySem.W.Frag} {a b c : Expr} {tr : WX → TA} {dr : DTA} {pos : Pos} {i j l : Nat} {x y z : Str} {px py pz pt : Pos} {kt k2 pt2} (hc : X.calm = true) (hN : X.N.Nodup) (hi : X.N[i]? = some x) (hj : X.N[j]? = some y) (hl : X.N[l]? = some z) (hij : i ≠ j) (hil : i ≠ l) (hjl : j ≠ l)
    (hx : X.env.scope.names.lookup x = some .local) (hy : X.env.scope.names.lookup y = some .local) (hz : X.env.scope.names.lookup z = some .local) (ha : DA X K tr [a, b, c] dr)
    (hw : swappedStores [.Tuple [.Name x px, .Name y py, .Name z pz] kt pt] (.Tuple [a, b, c] k2 pt2) X.env = pure (some [x, y, z]))
    (hs : swapsWithSole [.Tuple [.Name x px, .Name y py, .Name z pz] kt pt] (.Tuple [a, b, c] k2 pt2) pos.line X.env = pure false := by rfl) :
    DS X K (fun W => tPar3 i j l (tr W)) (.Assign [.Tuple [.Name x px, .Name y py, .Name z pz] kt pt] (.Tuple [a, b, c] k2 pt2) pos) (dPar3 i j l dr) := by
  refine ⟨fun W t => ps_par3 hc hN hi hj hl hij hil hjl hx hy hz (ha.pa W t) hw hs, fun W ew S σ ρ D d I R h => ?_⟩
  refine ha.sim W ew S σ ρ _ _ I (fun S1 vs xs e1 k1 r1 h1 => ?_) h
  obtain ⟨x, y, z, rfl, h1⟩ := h1
  cases r1 with
  | cons r1 rr =>
  cases rr with
  | cons r2 rr =>
  cases rr with
  | cons r3 rr =>
  cases rr
  exact ⟨_, _, _, rfl, R.nx S1 _ _ e1 k1 ((((I.sl.ev e1).set r1).set r2).set r3) h1⟩
theorem v_par3 {w : EW} {D0 : DEnds} {ρ : Dv} {L : Lc} {es : DTA} {i j l : Nat} (h : es w ρ L fun xs L1 => ∃ x y z, xs = [x, y, z] ∧ D0.nx (((ρ.set i (some x)).set j (some y)).set l (some z)) L1) : dPar3 i j l es w D0 ρ L := h
theorem v_three {x y z : D} {p : D → D → D → Prop} (h : p x y z) : ∃ a b c, [x, y, z] = [a, b, c] ∧ p a b c := ⟨x, y, z, rfl, h⟩
end Ed

set_option Elab.async false
set_option linter.all false
set_option maxRecDepth 100000
set_option maxHeartbeats 2000000
/-! == of a dict and a text. -/
namespace Ed
open PySem PySem.Spec PySem.SeqAt
open AutoSeq1 (wpAny_loadPart')
open MeetsSeq MeetsSeq2 MeetsSeq3 SeqRoads2
theorem dict_eq_str (l : Addr) (es : Array DictEntry) (ep : Nat) (b : Str) (u : Tok) :
    Meets (Builtin.«dict.__eq__» ⟨[.ref l, .str b u], []⟩) (fun _ R s => s.heap.get? l = some { cls := .type "dict", data := .dict es ep } ∧ R (.ok (.ret .notImplemented)) s) :=
  .of_wp fun prog w A R s h => by
    obtain ⟨hp, g, d, tk, os⟩ := s
    obtain ⟨hl, h⟩ := h
    have f1 := F.sub_str_dict
    wp_walk using wpAny_loadPart' hl
    exact ⟨_, rfl, h⟩
theorem str_eq_dict (l : Addr) (es : Array DictEntry) (ep : Nat) (b : Str) (u : Tok) :
    Meets (Builtin.«str.__eq__» ⟨[.str b u, .ref l], []⟩) (fun _ R s => s.heap.get? l = some { cls := .type "dict", data := .dict es ep } ∧ R (.ok (.ret .notImplemented)) s) :=
  .of_wp fun prog w A R s h => by
    obtain ⟨hp, g, d, tk, os⟩ := s
    obtain ⟨hl, h⟩ := h
    wp_walk using wpAny_loadPart' hl, wpAny_load hl
    exact ⟨_, rfl, h⟩
section
variable {A : Around} {s : Shared}
theorem rc_dict_str {l : Addr} {es : Array DictEntry} {ep : Nat} (b : Str) (u : Tok) (ho : s.heap.get? l = some { cls := .type "dict", data := .dict es ep }) (hu : A.units < cLine) : RcAt A s (.ref l) (.str b u) false := fun prog w E Q h =>
  rc_eq_decline_or (k := false) ⟨_, ho, rfl⟩ (typeIs_str s b u) (by decide) F.sub_str_dict F.slot_dict_eq F.slot_str_eq_refl
    (fun _ hq => call_meets F.slot_dict_eq ⟨_, ho, rfl⟩ F.entry_dict_eq (F.args_dict_eq_2 _ _) (dict_eq_str l es ep b u) ⟨ho, hq⟩)
    (fun _ hq => call_meets F.slot_str_eq_refl (typeIs_str s b u) F.entry_str_eq (F.args_str_eq_2 _ _) (str_eq_dict l es ep b u) ⟨ho, hq⟩)
    (fun _ hq => wpAny_of_eq (rfl : isSame (.ref l) (.str b u) = pure false) hq) (.inr hu) h
theorem rc_str_dict {l : Addr} {es : Array DictEntry} {ep : Nat} (b : Str) (u : Tok) (ho : s.heap.get? l = some { cls := .type "dict", data := .dict es ep }) (hu : A.units < cLine) : RcAt A s (.str b u) (.ref l) false := fun prog w E Q h =>
  rc_eq_decline_or (k := false) (typeIs_str s b u) ⟨_, ho, rfl⟩ (by decide) F.sub_dict_str F.slot_str_eq F.slot_dict_eq_refl
    (fun _ hq => call_meets F.slot_str_eq (typeIs_str s b u) F.entry_str_eq (F.args_str_eq_2 _ _) (str_eq_dict l es ep b u) ⟨ho, hq⟩)
    (fun _ hq => call_meets F.slot_dict_eq_refl ⟨_, ho, rfl⟩ F.entry_dict_eq (F.args_dict_eq_2 _ _) (dict_eq_str l es ep b u) ⟨ho, hq⟩)
    (fun _ hq => wpAny_of_eq (rfl : isSame (.str b u) (.ref l) = pure false) hq) (.inr hu) h
theorem eqAt_str_dict {l : Addr} {es : Array DictEntry} {ep : Nat} (b : Str) (u : Tok) (ho : s.heap.get? l = some { cls := .type "dict", data := .dict es ep }) (hu : A.units < cLine) : EqAt A s (.str b u) (.ref l) false := fun prog w E Q h => by
  unfold eqBool
  refine wpAny_holding ?_
  refine wpAny_ite_split (fun hab => absurd (eq_of_beq hab) nofun) (fun _ => ?_)
  exact wpAny_bind (rc_str_dict b u ho hu prog w E _ (wpAny_truthy_bool h))
end
end Ed
namespace Ed
open PySem PySem.Spec PyProof.Rows L2 Dz
/-- a dict that may change, as it stands -/
theorem dict_at {X : Cx} {pins : List (Addr × Obj)} {σ : L2.St} {S : Sta} {s : Shared} {a : Addr} {es : List (Key × D)} {v : V} {u : Value} (I : Inv X pins σ S.H s) (k : Ok X.K S) (h : S.L a = some (.dK es)) (r : Rp X.K S.H S.Λ v (.ref a)) (rv : RelV v u) : ∃ e ep, u = .ref a ∧ s.heap.get? a = some { cls := .type "dict", data := .dict e ep } := by
  cases r
  cases (show u = Value.ref a from rv)
  obtain ⟨_, ks, h1, _⟩ := k.cell a _ h
  obtain ⟨_, _, vs, kv, o, es, ep, ho, hxd, hd, _⟩ := dk_of I.hok h1
  obtain ⟨oc, odd, odt, osl⟩ := o
  obtain ⟨h1, h2, h3⟩ := hxd
  cases h1
  cases h2
  cases h3
  cases hd
  exact ⟨_, _, rfl, ho⟩
/-- a dict == a text -/
def eqDSD : DR2 := fun x y L q => ∃ a es z, x = .ref a ∧ L a = some (.dK es) ∧ y = .str z ∧ q (.bl false) L
theorem op_eqDS {X : Cx} {K : PySem.W.Frag} (hK : X.K = K) (hu : X.A.units < cLine) : OpR X (compareOp .Eq) (rOf K eqDSD) := by
  subst hK
  rintro pins s σ H x y v u Q I rx ry ⟨S, a, b, q, rfl, k1, ra, rb, R, ad, es, z, rfl, h1, rfl, h⟩
  obtain ⟨e, ep, rfl, ho⟩ := dict_at I k1 h1 ra rx
  cases rb
  obtain ⟨t, rfl⟩ := ry
  show wpAny (model X.prog X.w) X.A (richCompare .Eq (.ref ad) (.str z t)) _ _ s
  exact rc_dict_str z t ho hu X.prog X.w X.xe _ ⟨.bl false, S.H, I, rfl, R S _ _ (.refl S) k1 (.bl _) h⟩
/-- a dict in a tuple of texts -/
def inDSD (neg : Bool) : DR2 := fun x y L q => ∃ (a : Addr) (es : List (Key × D)) (zs : List Str), x = .ref a ∧ L a = some (.dK es) ∧ (y = .ctup (zs.map .str) ∨ y = .tup (zs.map .str)) ∧ q (.bl neg) L
theorem op_inDS {X : Cx} {K : PySem.W.Frag} (hK : X.K = K) (hu : X.A.units + 1 < cLine) : OpR X (compareOp .In) (rOf K (inDSD false)) := by
  subst hK
  rintro pins s σ H x y v u Q I rx ry ⟨S, a, b, q, rfl, k1, ra, rb, R, ad, es, zs, rfl, h1, hy, h⟩
  obtain ⟨e, ep, rfl, ho⟩ := dict_at I k1 h1 ra rx
  have ht : ∃ c, y = .ref c ∧ SqT X.K S.H c (zs.map V.str) := by
    rcases hy with rfl | rfl
    · cases rb with
      | ctup t r => exact ⟨_, rfl, by rw [← r.str_of]; exact t.sq⟩
    · cases rb with
      | tup n t r => exact ⟨_, rfl, by rw [← r.str_of]; exact .of t⟩
  obtain ⟨c, rfl, ht⟩ := ht
  cases (show u = Value.ref c from ry)
  obtain ⟨its, rr, hT, _⟩ := I.tuple ht
  refine SeqAt.in_tupleAt (fun _ => false) hT (fun y hy => ?_) ?_
  · have : ∀ (l : List Value) (zs : List Str), Vals (zs.map V.str) l → ∀ y ∈ l, ∃ b u, y = .str b u := by
      intro l zs r
      induction zs generalizing l with
      | nil => cases r; intro y hy; cases hy
      | cons z zs ih =>
        cases r with
        | cons r1 r2 =>
          intro y hy
          rcases List.mem_cons.mp hy with rfl | hy
          · obtain ⟨t, rfl⟩ := r1
            exact ⟨_, _, rfl⟩
          · exact ih _ r2 y hy
    obtain ⟨b, t, rfl⟩ := this _ zs rr y (by simpa using hy)
    exact eqAt_str_dict b t ho (by show X.A.units + 1 < cLine; exact hu)
  · have : (its.toArray.any fun _ => false) = false := by simp
    first
      | rw [this]
      | skip
    exact ⟨.bl false, S.H, I, rfl, R S _ _ (.refl S) k1 (.bl _) h⟩
end Ed

set_option Elab.async false
set_option linter.all false
set_option maxRecDepth 100000
set_option maxHeartbeats 2000000
/-! repr of data with dicts in it: the modules' table stands in the base, so no list is there. -/
namespace Ed
open PySem PySem.Spec PyProof.Rows L2 Dz
theorem ns_sm {h : Heap} (x : h.NoSeer) : ∃ mm, h.Ns sysModules mm := by
  obtain ⟨mm, h, _⟩ := x.mods
  exact ⟨mm, h⟩
/-! ### the law's call -/
theorem enterS {P : Program} {w : World} {K : PySem.W.Frag} {mg mb : Str → Option Value} {CX : CXT} {k : Nat} {fa a : Addr} {fd : FuncData} {x : Str} {sp : Sp} {s₁ : Shared} {vs : List Value} {ns : List Int}
    (KX : K.In s₁.heap) (hns : s₁.heap.Ns mainGlobals mg) (hb : s₁.heap.Ns builtinsNs mb) (hbb : ∀ x : Str, x ≠ "__name__" → mb x = bootBuiltins x) (hlim : s₁.heap.NoLimit) (hsm : ∃ mm, s₁.heap.Ns sysModules mm) (hgen : s₁.gens = #[])
    (ha : s₁.heap.get? a = some { cls := .type "list", data := .seq vs.toArray }) (hi : IntsAre vs ns) (hl : ns.length ≤ sizeLine) (hr : Room k callerA)
    (F : ∀ base : Heap, K.In base → base.Ns mainGlobals mg → (∃ o, base.get? sysModules = some o) → FnG P w K mg base CX k fa fd [x] sp) (hbind : ∀ (s : Shared) (u : Value), BindsTo s fd ⟨[u], []⟩ [(x, u)])
    (hsp : ∀ H : Hp, Only H → SqL K H a (ns.map V.int) → sp [.ref a] H (fun v _ => v = .bl true) fun _ _ _ => False)
    (hCX : ∀ H e s', CX [] H s₁ (fun _ _ _ => False) e s' → False) :
    codeAny (model P w) callerA (.call (.ref fa) ⟨[.ref a], []⟩) (fun r s' => r = .ok (.ret (.bool true)) ∧ OldK s₁.heap s'.heap ∧ s'.os = s₁.os ∧ AllBare s'.gens) s₁ := by
  have rv : Vals (ns.map V.int) vs := vals_ints hi
  have lv : vs.length = ns.length := hi.length
  have run : ∀ H : Hp, Only H → SqL K H a (ns.map V.int) → HOk P w H s₁.heap → (∀ b, H b ≠ none → b = a ∧ K.lookup a = none) →
      codeAny (model P w) callerA (.call (.ref fa) ⟨[.ref a], []⟩) (fun r s' => r = .ok (.ret (.bool true)) ∧ OldK s₁.heap s'.heap ∧ s'.os = s₁.os ∧ AllBare s'.gens) s₁ := by
    intro H hO hS hok hA
    -- what stands in a namespace, or in the written part, is not tracked
    have free : ∀ {b : Addr} {o : Obj}, s₁.heap.get? b = some o → (∀ es ep, o.data = .dict es ep → True) → (b = a → False) → H b = none := fun {b o} _ _ nb => by
      cases q : H b with
      | none => rfl
      | some u => exact (nb (hA b (by rw [q]; exact fun z => by cases z)).1).elim
    have nsK : ∀ {b : Addr} {m : Str → Option Value}, s₁.heap.Ns b m → (hidT s₁.heap H).Ns b m := fun {b m} n => by
      obtain ⟨o, es, ep, e, d, rr⟩ := n
      refine ⟨o, es, ep, hidT_get e (free e (fun _ _ _ => trivial) fun z => ?_), d, rr⟩
      rw [z, ha] at e
      cases e
      cases d
    have kB : K.In (hidT s₁.heap H) := fun b o e => hidT_get (KX b o e) (by
      cases q : H b with
      | none => rfl
      | some u =>
        obtain ⟨z1, z2⟩ := hA b (by rw [q]; exact fun z => by cases z)
        rw [z1, z2] at e
        cases e)
    have hM : Mod K mg (hidT s₁.heap H) := ⟨kB, nsK hns, ⟨mb, nsK hb, hbb⟩, by obtain ⟨mc, h1, h2⟩ := hlim; exact ⟨mc, nsK h1, h2⟩⟩
    have e0 : Env0 P w K mg (hidT s₁.heap H) callerA [] s₁ H :=
      { frames := rfl, mod := hM, bs := fun b o e => of_hidT e, bsz := Nat.le_of_eq (hidT_size _ _), funs := trivial, frf := fun b hb => absurd (show b ∈ ([] : List Addr) from hb) (by simp), hok := hok, bare := .of_eq hgen }
    refine codeAny_mono ((F _ kB (nsK hns) (by obtain ⟨mm, n⟩ := hsm; obtain ⟨o, es, ep, e, _⟩ := nsK n; exact ⟨o, e⟩)).go callerA [] s₁ H ⟨[.ref a], []⟩ [.ref a] [.ref a] _ _ rfl hr e0 (hbind s₁ (.ref a)) (.cons rfl .nil) (hsp H hO hS)) ?_
    intro rs s' h
    match rs, h with
    | .error e, h => exact (hCX H e s' h).elim
    | .ok (.ret u), h =>
      obtain ⟨v, H', os, bare, un, hok', r', q⟩ := h
      cases (show v = .bl true from q)
      cases (show u = Value.bool true from r')
      refine ⟨rfl, OldK.of_keep fun b o e => ?_, os, bare⟩
      cases q : H b with
      | none => exact un.keep b o e q (fun z => absurd (show b ∈ ([] : List Addr) from z) (by simp)) (by simp)
      | some u =>
        rcases hO b with z | ⟨ob, xs, z⟩
        · rw [q] at z
          cases z
        · have h1 := (hok b _ z).1
          have h2 := (hok' b _ (un.frzs b ob _ z)).1
          rw [e] at h1
          cases h1
          exact h2
  cases hk : K.lookup a with
  | some o =>
    have e := KX a o hk
    rw [ha] at e
    cases e
    exact run (fun _ => none) (fun _ => .inl rfl) (.inr ⟨_, vs.toArray, _, hk, rfl, rfl, rfl, by rw [List.size_toArray, lv]; exact hl, by simpa using rv⟩) (fun b u z => by have z' : (none : Option HO) = some u := z; cases z') (fun b z => absurd rfl z)
  | none =>
    let Hs : Hp := fun b => if b = a then some (.frz { cls := .type "list", data := .seq vs.toArray } (.lst (ns.map V.int))) else none
    have at_a : Hs a = some (.frz { cls := .type "list", data := .seq vs.toArray } (.lst (ns.map V.int))) := if_pos rfl
    have off : ∀ b, b ≠ a → Hs b = none := fun b h => if_neg h
    refine run Hs (fun b => ?_) (.inl (.inr ⟨_, at_a⟩)) (fun b u z => ?_) (fun b z => ⟨?_, hk⟩)
    · by_cases h : b = a
      · rw [h]; exact .inr ⟨_, _, at_a⟩
      · exact .inl (off b h)
    · by_cases h : b = a
      · subst h
        rw [at_a] at z
        cases z
        exact ⟨ha, by rw [List.length_map]; exact hl, vs, _, rv, ha⟩
      · rw [off b h] at z
        cases z
    · by_cases h : b = a
      · exact h
      · exact absurd (off b h) z
theorem walkS {l : PySem.W.OpenLaw} {n k : Nat} {q : Program} {loose : List Str} {XP : (Str → Option Value) → Heap → Prop} {YP : World → Heap → Prop} {d : DefRec} {K : Params → PySem.W.Frag} {CX : World → CXT} {sp : World → Sp} {x : Str}
    (hn : l.most = some n) (hn2 : n ≤ sizeLine) (hdf : d.params.defaults = []) (hin : importsNone q = true) (hr : Room k callerA)
    (hY : ∀ (w : World) (h : Heap), YP w h → (K w.params).In h)
    (F : ∀ (w : World) (mg : Str → Option Value) (fa : Addr) (h : Heap), (K w.params).In h → h.Ns mainGlobals mg → mg d.name = some (.ref fa) →
      ∃ fd : FuncData, (∀ (s : Shared) (u : Value), BindsTo s fd ⟨[u], []⟩ [(x, u)]) ∧
        ∀ base : Heap, (K w.params).In base → base.Ns mainGlobals mg → (∃ o, base.get? sysModules = some o) → FnG l.prog w (K w.params) mg base (CX w) k fa fd [x] (sp w))
    (hsp : ∀ (w : World) (H : Hp) (a : Addr) (ns : List Int), ns.length ≤ n → (∀ z ∈ ns, Builtin.Int.intBits z ≤ 1048576) → Only H → SqL (K w.params) H a (ns.map V.int) → sp w [.ref a] H (fun v _ => v = .bl true) fun _ _ _ => False)
    (hCX : ∀ (w : World) (H : Hp) (s : Shared) (e : Value) (s' : Shared), CX w [] H s (fun _ _ _ => False) e s' → False) :
    PySem.W.WalkO q loose XP YP l.row.toRowW d [] (fun f vs => PySem.call f vs) := by
  refine Att.attach_callB hn hdf ?_
  intro w s₀ s₁ mg mb fa o pm cd doc a vs ns G Y ho hd hcd hmg hobj hints hlen hbits hgen
  obtain ⟨fd, hb, hF⟩ := F w mg fa _ (hY w _ Y) G.T.g hmg
  exact enterS (hY w _ Y) G.T.g G.T.b G.T.builtins G.T.nolimit (ns_sm (G.T.seer hin)) hgen hobj hints (Nat.le_trans hlen hn2) hr hF hb (fun H hO hS => hsp w H a ns hlen hbits hO hS) fun H e s' => hCX w H s₁ e s'
/-- the same where the promise hangs on the written part alone -/
theorem walkKS {l : PySem.W.OpenLaw} {n k : Nat} {q : Program} {loose : List Str} {XP : (Str → Option Value) → Heap → Prop} {YP : World → Heap → Prop} {d : DefRec} {K : Params → PySem.W.Frag} {CX : CXT} {sp : PySem.W.Frag → Sp} {x : Str}
    (hn : l.most = some n) (hn2 : n ≤ sizeLine) (hdf : d.params.defaults = []) (hin : importsNone q = true) (hr : Room k callerA) (hY : ∀ (w : World) (h : Heap), YP w h → (K w.params).In h)
    (F : ∀ (w : World) (mg : Str → Option Value) (fa : Addr) (h : Heap), (K w.params).In h → h.Ns mainGlobals mg → mg d.name = some (.ref fa) →
      ∃ fd : FuncData, (∀ (s : Shared) (u : Value), BindsTo s fd ⟨[u], []⟩ [(x, u)]) ∧ ∀ base : Heap, (K w.params).In base → base.Ns mainGlobals mg → (∃ o, base.get? sysModules = some o) → FnG l.prog w (K w.params) mg base CX k fa fd [x] (sp (K w.params)))
    (hsp : ∀ (K : PySem.W.Frag) (H : Hp) (a : Addr) (ns : List Int), ns.length ≤ n → Only H → SqL K H a (ns.map V.int) → sp K [.ref a] H (fun v _ => v = .bl true) fun _ _ _ => False)
    (hCX : ∀ (H : Hp) (s : Shared) (e : Value) (s' : Shared), CX [] H s (fun _ _ _ => False) e s' → False) : PySem.W.WalkO q loose XP YP l.row.toRowW d [] (fun f vs => PySem.call f vs) :=
  walkS (K := K) (CX := fun _ => CX) (sp := fun w => sp (K w.params)) hn hn2 hdf hin hr hY F (fun w H a ns h1 _ h2 h3 => hsp (K w.params) H a ns h1 h2 h3) fun _ H s e s' => hCX H s e s'

theorem no_sm {X : Cx} {pins : List (Addr × Obj)} {σ : L2.St} {H : Hp} {s : Shared} (I : Inv X pins σ H s) (hb : ∃ o, X.base.get? sysModules = some o) : H sysModules = none := by
  obtain ⟨o, e⟩ := hb
  exact (I.bs _ _ e).2
mutual
inductive Dw (K : PySem.W.Frag) (H : Hp) : V → PyData → Prop
  | non : Dw K H .non .none
  | bl (b : Bool) : Dw K H (.bl b) (.bool b)
  | int (i : Int) : Dw K H (.int i) (.int i)
  | str (x : Str) : Dw K H (.str x) (.str x)
  | lst {a : Addr} {xs : List V} {ds : List PyData} : H a = some (.lst xs) → DwAll K H xs ds → Dw K H (.ref a) (.list ds)
  | tup {a : Addr} {xs : List V} {ds : List PyData} : SqT K H a xs → DwAll K H xs ds → Dw K H (.ref a) (.tuple ds)
  | dct {a : Addr} {ks : List (Key × V)} {es : List (PyData × PyData)} : Rd H a (.dK ks) → DwK K H ks es → Dw K H (.ref a) (.dict es)
inductive DwAll (K : PySem.W.Frag) (H : Hp) : List V → List PyData → Prop
  | nil : DwAll K H [] []
  | cons {v : V} {vs : List V} {d : PyData} {ds : List PyData} : Dw K H v d → DwAll K H vs ds → DwAll K H (v :: vs) (d :: ds)
inductive DwK (K : PySem.W.Frag) (H : Hp) : List (Key × V) → List (PyData × PyData) → Prop
  | nil : DwK K H [] []
  | cons {x : Str} {v : V} {d : PyData} {ks : List (Key × V)} {es : List (PyData × PyData)} : Dw K H v d → DwK K H ks es → DwK K H ((.inr x, v) :: ks) ((.str x, d) :: es)
end
theorem mix_str {P : Program} {w : World} {x : Str} {u : Value} (h : (mixKind P w).is (.inr x) u = true) : ∃ t, u = .str x t := by
  rcases keyIs_shape (k := .inr x) h with ⟨i, t, e, _⟩ | ⟨y, t, e, e2⟩
  · cases e
  · cases e; exact ⟨t, e2⟩
theorem reads_of_str {h : Heap} {v : Value} {x : Str} {t : Tok} (e : v = .str x t) : Reads h v (.str x) [] := by rw [e]; exact .str x t
section
variable {X : Cx} {pins : List (Addr × Obj)} {σ : L2.St} {H : Hp} {s : Shared}
mutual
theorem Dw.reads (I : Inv X pins σ H s) (hb : H sysModules = none) : ∀ (d : PyData) (v : V) (u : Value), Dw X.K H v d → RelV v u → ∃ as, Reads s.heap u d as ∧ sysModules ∉ as
  | .none, _, _, h, r => by cases h; cases r; exact ⟨_, Reads.none, fun z => nomatch z⟩
  | .bool b, _, _, h, r => by cases h; cases r; exact ⟨_, Reads.bool b, fun z => nomatch z⟩
  | .int i, _, _, h, r => by
    cases h
    obtain ⟨t, rfl⟩ := r
    exact ⟨_, Reads.int i t, fun z => nomatch z⟩
  | .str x, _, _, h, r => by
    cases h
    obtain ⟨t, rfl⟩ := r
    exact ⟨_, Reads.str x t, fun z => nomatch z⟩
  | .list ds, _, _, h, r => by
    cases h with
    | lst hs ha =>
      cases r
      obtain ⟨its, rv, ⟨o, n, ho, hc, _, hd⟩, _⟩ := I.list (.of hs)
      obtain ⟨as, hr, hn⟩ := Dw.readsAll I hb ds _ its ha rv
      exact ⟨_, Reads.list ho hc hd hr, fun z => by
        rcases List.mem_cons.mp z with e | z
        · rw [e, hs] at hb; cases hb
        · exact hn z⟩
  | .tuple ds, _, _, h, r => by
    cases h with
    | tup hs ha =>
      cases r
      obtain ⟨its, rv, ⟨o, ho, hc, n, hd⟩, _⟩ := I.tuple hs
      obtain ⟨as, hr, hn⟩ := Dw.readsAll I hb ds _ its ha rv
      exact ⟨_, Reads.tuple ho hc hd hr, hn⟩
  | .dict kvs, _, _, h, r => by
    cases h with
    | dct hs ha =>
      cases r
      obtain ⟨_, na, vs, kv, o, es, ep, ho, hx, hd, _, pr, _⟩ := dk_rd I.hok hs
      obtain ⟨bs, h1, h2, hn⟩ := Dw.readsK I hb kvs _ vs es.toList ha kv pr
      obtain ⟨as, h1, hk⟩ := h1
      refine ⟨_, Reads.dict ho hx.1 hd h1 h2, fun z => ?_⟩
      rcases List.mem_cons.mp z with z | z
      · rw [← z] at na
        exact absurd na (by decide)
      · rcases List.mem_append.mp z with z | z
        · exact hk z
        · exact hn z
theorem Dw.readsAll (I : Inv X pins σ H s) (hb : H sysModules = none) : ∀ (ds : List PyData) (vs : List V) (us : List Value), DwAll X.K H vs ds → Vals vs us → ∃ as, ReadsAll s.heap us ds as ∧ sysModules ∉ as
  | [], _, _, h, r => by cases h; cases r; exact ⟨_, ReadsAll.nil, fun z => nomatch z⟩
  | d :: ds, _, _, h, r => by
    cases h with
    | cons h1 h2 =>
      cases r with
      | cons r1 r2 =>
        obtain ⟨as, q1, n1⟩ := Dw.reads I hb d _ _ h1 r1
        obtain ⟨bs, q2, n2⟩ := Dw.readsAll I hb ds _ _ h2 r2
        exact ⟨_, ReadsAll.cons q1 q2, fun z => by
          rcases List.mem_append.mp z with z | z
          · exact n1 z
          · exact n2 z⟩
theorem Dw.readsK (I : Inv X pins σ H s) (hb : H sysModules = none) : ∀ (es : List (PyData × PyData)) (ks : List (Key × V)) (vs : List (Key × Value)) (ents : List DictEntry), DwK X.K H ks es → KV ks vs → Pairs (mixKind X.prog X.w) ents vs →
    ∃ bs, (∃ as, ReadsAll s.heap (ents.map (·.key)) (es.map (·.1)) as ∧ sysModules ∉ as) ∧ ReadsAll s.heap (ents.map (·.val)) (es.map (·.2)) bs ∧ sysModules ∉ bs
  | [], _, _, _, h, kv, pr => by
    cases h
    cases kv
    cases pr
    exact ⟨_, ⟨_, ReadsAll.nil, fun z => nomatch z⟩, ReadsAll.nil, fun z => nomatch z⟩
  | (_, d) :: es, _, _, _, h, kv, pr => by
    cases h with
    | cons h1 h2 =>
      cases kv with
      | cons r1 r2 =>
        cases pr with
        | cons p1 p2 p3 =>
          obtain ⟨e1, r1⟩ := r1
          rw [← e1] at p1
          obtain ⟨t, e2⟩ := mix_str p1
          obtain ⟨as, q1, n1⟩ := Dw.reads I hb d _ _ h1 r1
          obtain ⟨bs, ⟨as2, q3, n3⟩, q2, n2⟩ := Dw.readsK I hb es _ _ _ h2 r2 p3
          refine ⟨_, ⟨_, ReadsAll.cons (reads_of_str e2) q3, n3⟩, ReadsAll.cons (by have z := q1; rw [← p2] at z; exact z) q2, fun z => ?_⟩
          rcases List.mem_append.mp z with z | z
          · exact n1 z
          · exact n2 z
end
end
/-- repr(x) -/
def rShowW (K : PySem.W.Frag) : List V → Hp → VK → Prop := fun xs H Q => ∃ v d, xs = [v] ∧ Dw K H v d ∧ d.showable = true ∧ d.depth ≤ 60 ∧ d.shown.length ≤ sizeLine ∧ Q (.str d.shown) H
theorem call_showW {X : Cx} {K : PySem.W.Frag} {k : Nat} (hK : X.K = K) (hb : ∃ o, X.base.get? sysModules = some o) (hg : Calm X.A) (hr : Room k X.A) : CallR X (.builtin "repr") (rShowW K) := by
  subst hK
  intro pins s σ H xs us Q I r h
  obtain ⟨v, d, rfl, hd, hs, hp, hz, q⟩ := h
  cases r with
  | @cons _ u _ _ rv rn =>
  cases rn
  have hu := hr.units
  obtain ⟨as, rd, nas⟩ := Dw.reads I (no_sm I hb) _ _ _ hd rv
  cases hd with
  | non => cases rv; exact PySem.P.repr_of_none ⟨.str _, H, I.tok _, ⟨_, rfl⟩, q⟩
  | bl b => cases rv; exact PySem.P.repr_of_bool ⟨.str _, H, I.tok _, ⟨_, rfl⟩, q⟩
  | int i =>
    obtain ⟨t, rfl⟩ := rv
    exact PySem.P.repr_of_int (of_decide_eq_true hs) ⟨.str _, H, I.tok _, ⟨_, rfl⟩, q⟩
  | str x =>
    obtain ⟨t, rfl⟩ := rv
    exact PySem.P.repr_of_str ⟨.str _, H, I.tok _, ⟨_, rfl⟩, q⟩ hz
  | lst h1 h2 =>
    cases rv
    exact repr_of_reads' rd hs (fun _ => nas) hg (by omega) (fun _ _ e => e) (fun h' u tk hk => ⟨.str _, H, I.kept hk, ⟨_, rfl⟩, q⟩) hz
  | tup h1 h2 =>
    cases rv
    exact repr_of_reads' rd hs (fun _ => nas) hg (by omega) (fun _ _ e => e) (fun h' u tk hk => ⟨.str _, H, I.kept hk, ⟨_, rfl⟩, q⟩) hz
  | dct h1 h2 =>
    cases rv
    exact repr_of_reads' rd hs (fun _ => nas) hg (by omega) (fun _ _ e => e) (fun h' u tk hk => ⟨.str _, H, I.kept hk, ⟨_, rfl⟩, q⟩) hz
mutual
/-- data, dicts by texts among it, as the model shows it -/
inductive PyQ (L : Lc) : D → PyData → Prop
  | non : PyQ L .non .none
  | bl (b : Bool) : PyQ L (.bl b) (.bool b)
  | int (i : Int) : PyQ L (.int i) (.int i)
  | str (x : Str) : PyQ L (.str x) (.str x)
  | lst {ds : List D} {ps : List PyData} : PyQL L ds ps → PyQ L (.lst ds) (.list ps)
  | tup {ds : List D} {ps : List PyData} : PyQL L ds ps → PyQ L (.tup ds) (.tuple ps)
  | ctup {ds : List D} {ps : List PyData} : PyQL L ds ps → PyQ L (.ctup ds) (.tuple ps)
  | ref {a : Addr} {ds : List D} {ps : List PyData} : L a = some (.lst ds) → PyQL L ds ps → PyQ L (.ref a) (.list ps)
  | dK {es : List (Key × D)} {ps : List (PyData × PyData)} : PyQK L es ps → PyQ L (.dK es) (.dict ps)
  | refK {a : Addr} {es : List (Key × D)} {ps : List (PyData × PyData)} : L a = some (.dK es) → PyQK L es ps → PyQ L (.ref a) (.dict ps)
inductive PyQL (L : Lc) : List D → List PyData → Prop
  | nil : PyQL L [] []
  | cons {d : D} {ds : List D} {p : PyData} {ps : List PyData} : PyQ L d p → PyQL L ds ps → PyQL L (d :: ds) (p :: ps)
inductive PyQK (L : Lc) : List (Key × D) → List (PyData × PyData) → Prop
  | nil : PyQK L [] []
  | cons {x : Str} {d : D} {es : List (Key × D)} {p : PyData} {ps : List (PyData × PyData)} : PyQ L d p → PyQK L es ps → PyQK L ((.inr x, d) :: es) ((.str x, p) :: ps)
end
mutual
theorem PyQ.dw {K : PySem.W.Frag} {S : Sta} (k : Ok K S) : ∀ {d : D} {p : PyData} {v : V}, PyQ S.L d p → Rp K S.H S.Λ v d → Dw K S.H v p
  | _, _, _, .non, r => by cases r; exact .non
  | _, _, _, .bl b, r => by cases r; exact .bl b
  | _, _, _, .int i, r => by cases r; exact .int i
  | _, _, _, .str x, r => by cases r; exact .str x
  | _, _, _, .lst hp, r => by
    cases r with
    | lst n h1 h2 => exact .lst h1 (PyQL.dw k hp h2)
  | _, _, _, .tup hp, r => by
    cases r with
    | tup _ h1 h2 => exact .tup (.of h1) (PyQL.dw k hp h2)
  | _, _, _, .ctup hp, r => by
    cases r with
    | ctup h1 h2 => exact .tup h1.sq (PyQL.dw k hp h2)
  | _, _, _, .ref e hp, r => by
    cases r with
    | ref a =>
      obtain ⟨_, xs, h1, h2⟩ := k.cell _ _ e
      exact .lst h1 (PyQL.dw k hp h2)
  | _, _, _, .dK hp, r => by
    cases r with
    | dK n h1 h2 h3 => exact .dct h1 (PyQK.dw k hp h2 h3)
  | _, _, _, .refK e hp, r => by
    cases r with
    | ref a =>
      obtain ⟨_, ks, h1, h2, h3⟩ := k.cell _ _ e
      exact .dct (.inl h1) (PyQK.dw k hp h2 h3)
theorem PyQL.dw {K : PySem.W.Frag} {S : Sta} (k : Ok K S) : ∀ {ds : List D} {ps : List PyData} {vs : List V}, PyQL S.L ds ps → RpL K S.H S.Λ vs ds → DwAll K S.H vs ps
  | _, _, _, .nil, r => by cases r; exact .nil
  | _, _, _, .cons h t, r => by
    cases r with
    | cons r1 r2 => exact .cons (PyQ.dw k h r1) (PyQL.dw k t r2)
theorem PyQK.dw {K : PySem.W.Frag} {S : Sta} (k : Ok K S) : ∀ {es : List (Key × D)} {ps : List (PyData × PyData)} {ks : List (Key × V)}, PyQK S.L es ps → ks.map (·.1) = es.map (·.1) → RpL K S.H S.Λ (ks.map (·.2)) (es.map (·.2)) → DwK K S.H ks ps
  | _, _, [], .nil, _, _ => .nil
  | _, _, _ :: _, .nil, e, _ => by cases e
  | _, _, [], .cons h t, e, _ => by cases e
  | _, _, (_, _) :: ks, .cons h t, e, r => by
    simp only [List.map_cons, List.cons.injEq] at e
    obtain ⟨rfl, e⟩ := e
    cases r with
    | cons r1 r2 => exact .cons (PyQ.dw k h r1) (PyQK.dw k t e r2)
end
mutual
theorem PyR.q {L : Lc} : ∀ {d : D} {p : PyData}, PyR L d p → PyQ L d p
  | _, _, .non => .non
  | _, _, .bl b => .bl b
  | _, _, .int i => .int i
  | _, _, .str x => .str x
  | _, _, .lst h => .lst (PyRL.q h)
  | _, _, .tup h => .tup (PyRL.q h)
  | _, _, .ctup h => .ctup (PyRL.q h)
  | _, _, .ref e h => .ref e (PyRL.q h)
theorem PyRL.q {L : Lc} : ∀ {d : List D} {p : List PyData}, PyRL L d p → PyQL L d p
  | _, _, .nil => .nil
  | _, _, .cons h t => .cons (PyR.q h) (PyRL.q t)
end
/-- repr, dicts among it -/
def reprQD : DRL := fun xs L q => ∃ x d, xs = [x] ∧ PyQ L x d ∧ d.showable = true ∧ d.depth ≤ 60 ∧ d.shown.length ≤ sizeLine ∧ q (.str d.shown) L
theorem sim_reprQ {K : PySem.W.Frag} : SimRL K (rShowW K) reprQD := by
  rintro S xs as Q q k r R ⟨x, d, rfl, h1, a, c, e, h⟩
  obtain ⟨v, rfl, r1⟩ := vals1R r
  exact ⟨v, d, rfl, h1.dw k r1, a, c, e, R S _ _ (.refl S) k (.str _) h⟩
theorem v_reprQ {L : Lc} {q : DQ} {x : D} {d : PyData} {B k : Nat} (h : PyQ L x d) (s : Dz.Sq d B k) (hq : q (.str d.shown) L) (hk : k ≤ 60 := by decide) (hB : B ≤ 16777216 := by decide) : reprQD [x] L q :=
  ⟨x, d, rfl, h, s.ok, Nat.le_trans s.dp hk, Nat.le_trans s.ln (Nat.le_trans hB (by decide)), hq⟩
end Ed

set_option Elab.async false
set_option linter.all false
set_option maxRecDepth 100000
set_option maxHeartbeats 2000000
/-! Pure data: what is shown of it, how long that is; == with texts, whatever the thing is. -/
namespace Ed
open PySem PySem.Spec PyProof.Rows L2 Dz
mutual
def pyOf : D → PyData
  | .bl b => .bool b
  | .int i => .int i
  | .str x => .str x
  | .lst ds => .list (pyOfL ds)
  | .tup ds => .tuple (pyOfL ds)
  | .ctup ds => .tuple (pyOfL ds)
  | .dK es => .dict (pyOfK es)
  | _ => .none
def pyOfL : List D → List PyData
  | [] => []
  | d :: ds => pyOf d :: pyOfL ds
def pyOfK : List (Key × D) → List (PyData × PyData)
  | [] => []
  | (.inl i, d) :: es => (.int i, pyOf d) :: pyOfK es
  | (.inr x, d) :: es => (.str x, pyOf d) :: pyOfK es
end
def ascB (x : Str) : Bool := x.cps.toList.all fun c => decide (c < 128)
theorem ascB_of {x : Str} (h : Asc x) : ascB x = true := List.all_eq_true.mpr fun c hc => decide_eq_true (h c hc)
theorem asc_of {x : Str} (h : ascB x = true) : Asc x := fun c hc => of_decide_eq_true (List.all_eq_true.mp h c hc)
mutual
/-- texts of letters, numbers of forty figures, lists, tuples, dicts by texts of such -/
def okD : D → Bool
  | .non => true
  | .bl _ => true
  | .int i => decide (i.natAbs ≤ 10 ^ 30)
  | .str x => ascB x && decide (x.length ≤ 5000)
  | .lst ds => okDs ds
  | .tup ds => okDs ds
  | .dK es => okDk es
  | _ => false
def okDs : List D → Bool
  | [] => true
  | d :: ds => okD d && okDs ds
def okDk : List (Key × D) → Bool
  | [] => true
  | (.inl _, _) :: _ => false
  | (.inr x, d) :: es => (ascB x && decide (x.length ≤ 5000)) && okD d && okDk es
end
mutual
/-- how long it is shown, at most -/
def wtD : D → Nat
  | .int _ => 141
  | .str x => 10 * x.length + 2
  | .lst ds => wtDs ds + 3
  | .tup ds => wtDs ds + 3
  | .ctup ds => wtDs ds + 3
  | .dK es => wtDk es + 3
  | _ => 5
def wtDs : List D → Nat
  | [] => 0
  | d :: ds => wtD d + 2 + wtDs ds
def wtDk : List (Key × D) → Nat
  | [] => 0
  | (.inl _, _) :: es => wtDk es
  | (.inr x, d) :: es => 10 * x.length + 2 + 4 + wtD d + wtDk es
end
mutual
def dpD : D → Nat
  | .lst ds => dpDs ds + 1
  | .tup ds => dpDs ds + 1
  | .ctup ds => dpDs ds + 1
  | .dK es => dpDk es + 1
  | _ => 0
def dpDs : List D → Nat
  | [] => 0
  | d :: ds => max (dpD d) (dpDs ds)
def dpDk : List (Key × D) → Nat
  | [] => 0
  | (_, d) :: es => max (dpD d) (dpDk es)
end
mutual
theorem pyQ_of (L : Lc) : ∀ d, okD d = true → PyQ L d (pyOf d)
  | .non, _ => by rw [pyOf.eq_def]; exact .non
  | .bl b, _ => by rw [pyOf.eq_def]; exact .bl b
  | .int i, _ => by rw [pyOf.eq_def]; exact .int i
  | .str x, _ => by rw [pyOf.eq_def]; exact .str x
  | .lst ds, h => by rw [pyOf.eq_def]; exact .lst (pyQL_of L ds (by rw [okD.eq_def] at h; exact h))
  | .tup ds, h => by rw [pyOf.eq_def]; exact .tup (pyQL_of L ds (by rw [okD.eq_def] at h; exact h))
  | .ctup _, h => by rw [okD.eq_def] at h; cases h
  | .dK es, h => by rw [pyOf.eq_def]; exact .dK (pyQK_of L es (by rw [okD.eq_def] at h; exact h))
  | .ty _, h => by rw [okD.eq_def] at h; cases h
  | .dT _, h => by rw [okD.eq_def] at h; cases h
  | .ins _ _, h => by rw [okD.eq_def] at h; cases h
  | .err _ _, h => by rw [okD.eq_def] at h; cases h
  | .exo _ _ _ _, h => by rw [okD.eq_def] at h; cases h
  | .scr _, h => by rw [okD.eq_def] at h; cases h
  | .ref _, h => by rw [okD.eq_def] at h; cases h
theorem pyQL_of (L : Lc) : ∀ ds, okDs ds = true → PyQL L ds (pyOfL ds)
  | [], _ => by rw [pyOfL.eq_def]; exact .nil
  | d :: ds, h => by
    rw [okDs.eq_def] at h
    rw [pyOfL.eq_def]
    obtain ⟨h1, h2⟩ := Bool.and_eq_true_iff.mp h
    exact .cons (pyQ_of L d h1) (pyQL_of L ds h2)
theorem pyQK_of (L : Lc) : ∀ es, okDk es = true → PyQK L es (pyOfK es)
  | [], _ => by rw [pyOfK.eq_def]; exact .nil
  | (.inl _, _) :: _, h => by rw [okDk.eq_def] at h; cases h
  | (.inr x, d) :: es, h => by
    rw [okDk.eq_def] at h
    rw [pyOfK.eq_def]
    obtain ⟨h1, h2⟩ := Bool.and_eq_true_iff.mp h
    obtain ⟨_, h1⟩ := Bool.and_eq_true_iff.mp h1
    exact .cons (pyQ_of L d h1) (pyQK_of L es h2)
end
theorem shownAll_sum : ∀ l : List PyData, ((PyData.shownAll l).map (·.length)).sum + 2 * l.length = (l.map fun d => d.shown.length + 2).sum
  | [] => by simp [PyData.shownAll]
  | d :: l => by
    have := shownAll_sum l
    simp only [PyData.shownAll, List.map_cons, List.sum_cons, List.length_cons]
    omega
theorem log_30 {n : Nat} (h : n ≤ 10 ^ 30) : n.log2 < 140 := by
  by_cases z : n = 0
  · rw [z]; decide
  · exact (Nat.log2_lt z).mpr (Nat.lt_of_le_of_lt h (by decide))
theorem sh_ints {i : Int} (h : i.natAbs.log2 < 140) : (PyData.int i).shown.length ≤ 141 := by
  have := int_text_length_le (a := i) (k := 140) (by decide) h
  show (Str.ofString (toString i)).length ≤ _
  rw [PySem.ofString_length]
  exact this
mutual
theorem sq_of : ∀ d, okD d = true → Sq (pyOf d) (wtD d) (dpD d)
  | .non, _ => by rw [pyOf.eq_def, wtD.eq_def, dpD.eq_def]; exact ⟨rfl, Nat.le_refl 0, by decide +kernel⟩
  | .bl b, _ => by rw [pyOf.eq_def, wtD.eq_def, dpD.eq_def]; exact ⟨rfl, Nat.le_refl 0, by cases b <;> decide +kernel⟩
  | .int i, h => by
    rw [okD.eq_def] at h
    rw [pyOf.eq_def, wtD.eq_def, dpD.eq_def]
    have h' := log_30 (of_decide_eq_true h)
    exact ⟨decide_eq_true (by omega), Nat.le_refl 0, sh_ints h'⟩
  | .str x, h => by
    rw [okD.eq_def] at h
    rw [pyOf.eq_def, wtD.eq_def, dpD.eq_def]
    exact ⟨rfl, Nat.le_refl 0, sh_str (asc_of (Bool.and_eq_true_iff.mp h).1)⟩
  | .lst ds, h => by
    rw [okD.eq_def] at h
    rw [pyOf.eq_def, wtD.eq_def, dpD.eq_def]
    obtain ⟨h1, h2, h3⟩ := sqs_of ds h
    refine ⟨h1, Nat.succ_le_succ h2, ?_⟩
    have q1 := listText_len_le (PyData.shownAll (pyOfL ds))
    have q4 := PyData.shownAll_length (pyOfL ds)
    have q5 := shownAll_sum (pyOfL ds)
    show (listText (PyData.shownAll (pyOfL ds))).length ≤ wtDs ds + 3
    omega
  | .tup ds, h => by
    rw [okD.eq_def] at h
    rw [pyOf.eq_def, wtD.eq_def, dpD.eq_def]
    obtain ⟨h1, h2, h3⟩ := sqs_of ds h
    refine ⟨h1, Nat.succ_le_succ h2, ?_⟩
    have q1 := tupleText_len_le (PyData.shownAll (pyOfL ds))
    have q4 := PyData.shownAll_length (pyOfL ds)
    have q5 := shownAll_sum (pyOfL ds)
    show (tupleText (PyData.shownAll (pyOfL ds))).length ≤ wtDs ds + 3
    omega
  | .ctup _, h => by rw [okD.eq_def] at h; cases h
  | .dK es, h => by
    rw [okD.eq_def] at h
    rw [pyOf.eq_def, wtD.eq_def, dpD.eq_def]
    obtain ⟨h1, h2, h3⟩ := sqk_of es h
    refine ⟨h1, Nat.succ_le_succ h2, ?_⟩
    have q1 := dictText_len_le (PyData.shownKv (pyOfK es))
    show (dictText (PyData.shownKv (pyOfK es))).length ≤ wtDk es + 3
    omega
  | .ty _, h => by rw [okD.eq_def] at h; cases h
  | .dT _, h => by rw [okD.eq_def] at h; cases h
  | .ins _ _, h => by rw [okD.eq_def] at h; cases h
  | .err _ _, h => by rw [okD.eq_def] at h; cases h
  | .exo _ _ _ _, h => by rw [okD.eq_def] at h; cases h
  | .scr _, h => by rw [okD.eq_def] at h; cases h
  | .ref _, h => by rw [okD.eq_def] at h; cases h
theorem sqs_of : ∀ ds, okDs ds = true → PyData.showableAll (pyOfL ds) = true ∧ PyData.depthAll (pyOfL ds) ≤ dpDs ds ∧ ((pyOfL ds).map fun d => d.shown.length + 2).sum ≤ wtDs ds
  | [], _ => by rw [pyOfL.eq_def, wtDs.eq_def, dpDs.eq_def]; exact ⟨rfl, Nat.le_refl 0, Nat.le_refl 0⟩
  | d :: ds, h => by
    rw [okDs.eq_def] at h
    rw [pyOfL.eq_def, wtDs.eq_def, dpDs.eq_def]
    obtain ⟨h1, h2⟩ := Bool.and_eq_true_iff.mp h
    have a := sq_of d h1
    obtain ⟨b1, b2, b3⟩ := sqs_of ds h2
    refine ⟨?_, ?_, ?_⟩
    · show ((pyOf d).showable && PyData.showableAll (pyOfL ds)) = true
      rw [a.ok, b1]; rfl
    · show max (pyOf d).depth (PyData.depthAll (pyOfL ds)) ≤ max (dpD d) (dpDs ds)
      have := a.dp
      omega
    · have := a.ln
      simp only [List.map_cons, List.sum_cons]
      omega
theorem sqk_of : ∀ es, okDk es = true → PyData.showableKv (pyOfK es) = true ∧ PyData.depthKv (pyOfK es) ≤ dpDk es ∧ ((PyData.shownKv (pyOfK es)).map (·.length)).sum + 2 * (PyData.shownKv (pyOfK es)).length ≤ wtDk es
  | [], _ => by rw [pyOfK.eq_def, wtDk.eq_def, dpDk.eq_def]; exact ⟨rfl, Nat.le_refl 0, by simp [PyData.shownKv]⟩
  | (.inl _, _) :: _, h => by rw [okDk.eq_def] at h; cases h
  | (.inr x, d) :: es, h => by
    rw [okDk.eq_def] at h
    rw [pyOfK.eq_def, wtDk.eq_def, dpDk.eq_def]
    obtain ⟨h1, h2⟩ := Bool.and_eq_true_iff.mp h
    obtain ⟨h0, h1⟩ := Bool.and_eq_true_iff.mp h1
    have a := sq_of d h1
    obtain ⟨b1, b2, b3⟩ := sqk_of es h2
    refine ⟨?_, ?_, ?_⟩
    · show ((PyData.str x).showable && (pyOf d).showable && PyData.showableKv (pyOfK es)) = true
      rw [a.ok, b1]; rfl
    · show max (max 0 (pyOf d).depth) (PyData.depthKv (pyOfK es)) ≤ max (dpD d) (dpDk es)
      have := a.dp
      omega
    · have := a.ln
      have q := sh_str (asc_of (Bool.and_eq_true_iff.mp h0).1)
      simp only [PyData.shownKv, List.map_cons, List.sum_cons, List.length_cons, len_app]
      have e : (Str.ofString ": ").length = 2 := by decide +kernel
      rw [e]
      omega
end
/-! ### lists of such -/
theorem okDs_iff : ∀ {ds : List D}, okDs ds = true ↔ ∀ d ∈ ds, okD d = true
  | [] => by simp [okDs]
  | d :: ds => by simp [okDs, okDs_iff (ds := ds)]
theorem okDs_app {a b : List D} : okDs (a ++ b) = (okDs a && okDs b) := by
  induction a with
  | nil => simp [okDs]
  | cons d a ih => simp [okDs, ih, Bool.and_assoc]
theorem wtDs_app {a b : List D} : wtDs (a ++ b) = wtDs a + wtDs b := by
  induction a with
  | nil => simp [wtDs]
  | cons d a ih => simp [wtDs, ih]; omega
theorem dpDs_le {ds : List D} {k : Nat} : dpDs ds ≤ k ↔ ∀ d ∈ ds, dpD d ≤ k := by
  induction ds with
  | nil => simp [dpDs]
  | cons d a ih => simp only [dpDs, List.mem_cons, forall_eq_or_imp]; rw [← ih]; omega
theorem wtDs_mem {ds : List D} {d : D} (h : d ∈ ds) : wtD d + 2 ≤ wtDs ds := by
  induction ds with
  | nil => cases h
  | cons e a ih =>
    simp only [wtDs]
    rcases List.mem_cons.mp h with rfl | h
    · omega
    · have := ih h; omega
theorem wtDs_len {ds : List D} : 2 * ds.length ≤ wtDs ds := by
  induction ds with
  | nil => simp [wtDs]
  | cons d a ih => simp only [wtDs, List.length_cons]; omega
theorem wtDs_sub {a b : List D} (h : a.Sublist b) : wtDs a ≤ wtDs b := by
  induction h with
  | slnil => exact Nat.le_refl _
  | cons d _ ih => simp only [wtDs]; omega
  | cons_cons d _ ih => simp only [wtDs]; omega
theorem cut_sub {ds : List D} {lo hi : Option Int} : (cutD ds lo hi).Sublist ds := (List.take_sublist _ _).trans (List.drop_sublist _ _)
theorem okDs_sub {a b : List D} (h : a.Sublist b) (k : okDs b = true) : okDs a = true := okDs_iff.mpr fun d hd => okDs_iff.mp k d (h.subset hd)
theorem dpDs_sub {a b : List D} (h : a.Sublist b) : dpDs a ≤ dpDs b := dpDs_le.mpr fun d hd => dpDs_le.mp (Nat.le_refl _) d (h.subset hd)
/-- a thing: such data, its sign count and its depth -/
structure Th (d : D) (B k : Nat) : Prop where
  ok : okD d = true
  wt : wtD d ≤ B
  dp : dpD d ≤ k
structure Ths (ds : List D) (B k : Nat) : Prop where
  ok : okDs ds = true
  wt : wtDs ds ≤ B
  dp : dpDs ds ≤ k
theorem Th.more {d : D} {B k B' k' : Nat} (h : Th d B k) (e : B ≤ B' := by omega) (f : k ≤ k' := by omega) : Th d B' k' := ⟨h.ok, Nat.le_trans h.wt e, Nat.le_trans h.dp f⟩
theorem Ths.more {d : List D} {B k B' k' : Nat} (h : Ths d B k) (e : B ≤ B' := by omega) (f : k ≤ k' := by omega) : Ths d B' k' := ⟨h.ok, Nat.le_trans h.wt e, Nat.le_trans h.dp f⟩
theorem Th.sq {d : D} {B k : Nat} (h : Th d B k) : Sq (pyOf d) B k := (sq_of d h.ok).more h.wt h.dp
theorem Th.py {d : D} {B k : Nat} (h : Th d B k) (L : Lc) : PyQ L d (pyOf d) := pyQ_of L d h.ok
theorem v_reprT {L : Lc} {q : DQ} {x : D} {B k : Nat} (h : Th x B k) (hq : q (.str (pyOf x).shown) L) (hk : k ≤ 60 := by omega) (hB : B ≤ 16777216 := by omega) : reprQD [x] L q :=
  ⟨x, pyOf x, rfl, h.py L, h.sq.ok, Nat.le_trans h.sq.dp hk, Nat.le_trans h.sq.ln (Nat.le_trans hB (by decide)), hq⟩
section
variable {ds es : List D} {d : D} {B k B' k' : Nat}
theorem Th.non : Th .non 5 0 := ⟨rfl, by simp [wtD], by simp [dpD]⟩
theorem Th.bl (b : Bool) : Th (.bl b) 5 0 := ⟨rfl, by simp [wtD], by simp [dpD]⟩
theorem Th.int {i : Int} (h : i.natAbs ≤ 10 ^ 30) : Th (.int i) 141 0 := ⟨by rw [okD.eq_def]; exact decide_eq_true h, by simp [wtD], by simp [dpD]⟩
theorem Th.small {i : Int} (h : i.natAbs < 2 ^ 64 := by omega) : Th (.int i) 141 0 := .int (Nat.le_trans (Nat.le_of_lt h) (by decide))
theorem Th.str {x : Str} (h : Asc x) (l : x.length ≤ 5000) : Th (.str x) (10 * x.length + 2) 0 := ⟨by simp [okD, ascB_of h, l], by simp [wtD], by simp [dpD]⟩
theorem Th.strs {x : Str} {n : Nat} (h : Asc x) (l : x.length ≤ n) (hn : n ≤ 5000 := by decide) : Th (.str x) (10 * n + 2) 0 := (Th.str h (Nat.le_trans l hn)).more (by omega) (Nat.le_refl _)
/-- a text that is written -/
theorem Th.lit {x : Str} {n : Nat} (h : okD (.str x) = true) (l : wtD (.str x) ≤ n) : Th (.str x) n 0 := ⟨h, l, by simp [dpD]⟩
theorem Th.dnil : Th (.dK []) 3 1 := ⟨rfl, by simp [wtD, wtDk], by simp [dpD, dpDk]⟩
theorem Ths.nil : Ths [] 0 0 := ⟨rfl, Nat.le_refl _, Nat.le_refl _⟩
theorem Ths.cons (h : Th d B k) (t : Ths ds B' k') : Ths (d :: ds) (B + 2 + B') (max k k') := ⟨by simp [okDs, h.ok, t.ok], by have := h.wt; have := t.wt; simp only [wtDs]; omega, by have := h.dp; have := t.dp; simp only [dpDs]; omega⟩
theorem Ths.app (h : Ths ds B k) (t : Ths es B' k') : Ths (ds ++ es) (B + B') (max k k') := ⟨by rw [okDs_app, h.ok, t.ok]; rfl, by have := h.wt; have := t.wt; rw [wtDs_app]; omega, dpDs_le.mpr fun d hd => by
  rcases List.mem_append.mp hd with hd | hd
  · have := dpDs_le.mp h.dp d hd; omega
  · have := dpDs_le.mp t.dp d hd; omega⟩
theorem Ths.tup (h : Ths ds B k) : Th (.tup ds) (B + 3) (k + 1) := ⟨by rw [okD.eq_def]; exact h.ok, by have := h.wt; rw [wtD.eq_def]; show wtDs ds + 3 ≤ _; omega, by have := h.dp; rw [dpD.eq_def]; show dpDs ds + 1 ≤ _; omega⟩
theorem Ths.lst (h : Ths ds B k) : Th (.lst ds) (B + 3) (k + 1) := ⟨by rw [okD.eq_def]; exact h.ok, by have := h.wt; rw [wtD.eq_def]; show wtDs ds + 3 ≤ _; omega, by have := h.dp; rw [dpD.eq_def]; show dpDs ds + 1 ≤ _; omega⟩
theorem Th.tups (h : Th (.tup ds) B k) : Ths ds (B - 3) (k - 1) ∧ 3 ≤ B ∧ 1 ≤ k := by
  have h1 := h.ok; have h2 := h.wt; have h3 := h.dp
  rw [okD.eq_def] at h1; rw [wtD.eq_def] at h2; rw [dpD.eq_def] at h3
  replace h2 : wtDs ds + 3 ≤ B := h2
  replace h3 : dpDs ds + 1 ≤ k := h3
  exact ⟨⟨h1, by omega, by omega⟩, by omega, by omega⟩
theorem Ths.mem (h : Ths ds B k) (m : d ∈ ds) : Th d (B - 2) k := ⟨okDs_iff.mp h.ok d m, by have := wtDs_mem m; have := h.wt; omega, dpDs_le.mp h.dp d m⟩
theorem Ths.len (h : Ths ds B k) : 2 * ds.length ≤ B := Nat.le_trans wtDs_len h.wt
theorem Ths.sub (h : Ths ds B k) (s : es.Sublist ds) : Ths es B k := ⟨okDs_sub s h.ok, Nat.le_trans (wtDs_sub s) h.wt, Nat.le_trans (dpDs_sub s) h.dp⟩
theorem Ths.cut {lo hi : Option Int} (h : Ths ds B k) : Ths (cutD ds lo hi) B k := h.sub cut_sub
theorem Ths.map {α : Type} {l : List α} {f : α → D} (h : ∀ a ∈ l, Th (f a) B k) : Ths (l.map f) ((B + 2) * l.length) k := by
  induction l with
  | nil => exact ⟨rfl, Nat.zero_le _, Nat.zero_le _⟩
  | cons a l ih =>
    have := Ths.cons (h a List.mem_cons_self) (ih fun b hb => h b (List.mem_cons_of_mem _ hb))
    exact this.more (by rw [List.length_cons, Nat.mul_add]; omega) (by omega)
theorem Ths.all {l : List D} (h : ∀ a ∈ l, Th a B k) : Ths l ((B + 2) * l.length) k := by
  have := Ths.map (f := id) h
  rwa [List.map_id] at this
theorem Ths.rev (h : Ths ds B k) : Ths ds.reverse B k := by
  have e : wtDs ds.reverse = wtDs ds := by
    clear h
    induction ds with
    | nil => rfl
    | cons d a ih => rw [List.reverse_cons, wtDs_app, ih]; simp only [wtDs]; omega
  exact ⟨okDs_iff.mpr fun d hd => okDs_iff.mp h.ok d (List.mem_reverse.mp hd), by rw [e]; exact h.wt, dpDs_le.mpr fun d hd => dpDs_le.mp h.dp d (List.mem_reverse.mp hd)⟩
end
/-! ### == of any thing and a text -/
mutual
def noK : D → Bool
  | .dK _ => false
  | .lst ds => noKs ds
  | .tup ds => noKs ds
  | .ctup ds => noKs ds
  | _ => true
def noKs : List D → Bool
  | [] => true
  | d :: ds => noK d && noKs ds
end
/-- a list, tuple or dict == a text, whatever is in it -/
def isBig (L : Lc) (x : D) : Prop := (∃ a es, x = .ref a ∧ L a = some (.dK es)) ∨ (∃ es, x = .dK es) ∨ (∃ ds, x = .lst ds) ∨ (∃ ds, x = .tup ds) ∨ (∃ ds, x = .ctup ds) ∨ ∃ a ds, x = .ref a ∧ L a = some (.lst ds)
theorem big_at {X : Cx} {pins : List (Addr × Obj)} {σ : L2.St} {S : Sta} {s : Shared} {x : D} {v : V} {u : Value} (I : Inv X pins σ S.H s) (k : Ok X.K S) (h : isBig S.L x) (r : Rp X.K S.H S.Λ v x) (rv : RelV v u) :
    (∀ A b t, A.units < cLine → SeqAt.RcAt A s u (.str b t) false) ∧ ∀ A b t, A.units < cLine → SeqAt.EqAt A s (.str b t) u false := by
  have dct : ∀ {a : Addr} {ks : List (Key × V)}, Rd S.H a (.dK ks) → (∀ A b t, A.units < cLine → SeqAt.RcAt A s (.ref a) (.str b t) false) ∧ ∀ A b t, A.units < cLine → SeqAt.EqAt A s (.str b t) (.ref a) false := fun {a ks} h1 => by
    obtain ⟨_, _, vs, kv, o, es, ep, ho, hxd, hd, _⟩ := dk_rd I.hok h1
    obtain ⟨oc, odd, odt, osl⟩ := o
    obtain ⟨h1, h2, h3⟩ := hxd
    cases h1
    cases h2
    cases h3
    cases hd
    exact ⟨fun A b t hu => rc_dict_str b t ho hu, fun A b t hu => eqAt_str_dict b t ho hu⟩
  have lst : ∀ {a : Addr} {xs : List V}, S.H a = some (.lst xs) → (∀ A b t, A.units < cLine → SeqAt.RcAt A s (.ref a) (.str b t) false) ∧ ∀ A b t, A.units < cLine → SeqAt.EqAt A s (.str b t) (.ref a) false := fun {a xs} h1 => by
    obtain ⟨its, _, ⟨o, n, ho, hc, hdn, hd⟩, _⟩ := I.list (.of h1)
    have hl : s.heap.IsList a its.toArray := ⟨o, ho, hc, n, hd⟩
    exact ⟨fun A b t hu => SeqAt.RcAt.list_str b t hl hu, fun A b t hu => SeqAt.EqAt.str_list b t hl hu⟩
  have tup : ∀ {a : Addr} {xs : List V}, SqT X.K S.H a xs → (∀ A b t, A.units < cLine → SeqAt.RcAt A s (.ref a) (.str b t) false) ∧ ∀ A b t, A.units < cLine → SeqAt.EqAt A s (.str b t) (.ref a) false := fun {a xs} h1 => by
    obtain ⟨its, _, hT, _⟩ := I.tuple h1
    exact ⟨fun A b t hu => SeqAt.RcAt.tuple_str b t hT hu, fun A b t hu => SeqAt.EqAt.str_tuple b t hT hu⟩
  rcases h with ⟨a, es, rfl, h⟩ | ⟨es, rfl⟩ | ⟨ds, rfl⟩ | ⟨ds, rfl⟩ | ⟨ds, rfl⟩ | ⟨a, ds, rfl, h⟩
  · cases r
    cases (show u = Value.ref a from rv)
    obtain ⟨_, ks, h1, _⟩ := k.cell a _ h
    exact dct (.inl h1)
  · cases r with
    | dK n h1 h2 h3 => cases (show u = Value.ref _ from rv); exact dct h1
  · cases r with
    | lst n h1 h2 => cases (show u = Value.ref _ from rv); exact lst h1
  · cases r with
    | tup n h1 h2 => cases (show u = Value.ref _ from rv); exact tup (.of h1)
  · cases r with
    | ctup h1 h2 => cases (show u = Value.ref _ from rv); exact tup h1.sq
  · cases r
    cases (show u = Value.ref a from rv)
    obtain ⟨_, ks, h1, _⟩ := k.cell a _ h
    exact lst h1
def eqWSD : DR2 := fun x y L q => ∃ z, isBig L x ∧ y = .str z ∧ q (.bl false) L
theorem op_eqWS {X : Cx} {K : PySem.W.Frag} (hK : X.K = K) (hu : X.A.units < cLine) : OpR X (compareOp .Eq) (rOf K eqWSD) := by
  subst hK
  rintro pins s σ H x y v u Q I rx ry ⟨S, a, b, q, rfl, k1, ra, rb, R, z, h1, rfl, h⟩
  obtain ⟨hrc, _⟩ := big_at I k1 h1 ra rx
  cases rb
  obtain ⟨t, rfl⟩ := ry
  show wpAny (model X.prog X.w) X.A (richCompare .Eq v (.str z t)) _ _ s
  exact hrc _ z t hu X.prog X.w X.xe _ ⟨.bl false, S.H, I, rfl, R S _ _ (.refl S) k1 (.bl _) h⟩
/-- .. in a tuple of texts -/
def inWSD (neg : Bool) : DR2 := fun x y L q => ∃ (zs : List Str), isBig L x ∧ (y = .ctup (zs.map .str) ∨ y = .tup (zs.map .str) ∨ y = .lst (zs.map .str)) ∧ q (.bl neg) L
theorem vals_strs {zs : List Str} {l : List Value} (r : Vals (zs.map V.str) l) : ∀ y ∈ l, ∃ b u, y = .str b u := by
  induction zs generalizing l with
  | nil => cases r; intro y hy; cases hy
  | cons z zs ih =>
    cases r with
    | cons r1 r2 =>
      intro y hy
      rcases List.mem_cons.mp hy with rfl | hy
      · obtain ⟨t, rfl⟩ := r1
        exact ⟨_, _, rfl⟩
      · exact ih r2 y hy
theorem op_inWS {X : Cx} {K : PySem.W.Frag} (hK : X.K = K) (hu : X.A.units + 1 < cLine) : OpR X (compareOp .In) (rOf K (inWSD false)) := by
  subst hK
  rintro pins s σ H x y v u Q I rx ry ⟨S, a, b, q, rfl, k1, ra, rb, R, zs, h1, hy, h⟩
  obtain ⟨_, heq⟩ := big_at I k1 h1 ra rx
  have fin : ∀ its : Array Value, (its.any fun _ => false) = false := fun its => by simp
  have tp : ∀ c, SqT X.K S.H c (zs.map V.str) → wpAny (model X.prog X.w) X.A (compareOp .In v (.ref c)) (fun y s' => ∃ z H', Inv X pins σ H' s' ∧ RelV z y ∧ Q z H') X.xe s := fun c ht => by
    obtain ⟨its, rr, hT, _⟩ := I.tuple ht
    refine SeqAt.in_tupleAt (fun _ => false) hT (fun y hy => ?_) ?_
    · obtain ⟨b, t, rfl⟩ := vals_strs rr y (by simpa using hy)
      exact heq _ b t (by show X.A.units + 1 < cLine; exact hu)
    · rw [fin]; exact ⟨.bl false, S.H, I, rfl, R S _ _ (.refl S) k1 (.bl _) h⟩
  rcases hy with rfl | rfl | rfl
  · cases rb with
    | ctup t r =>
      cases (show u = Value.ref _ from ry)
      exact tp _ (by rw [← r.str_of]; exact t.sq)
  · cases rb with
    | tup n t r =>
      cases (show u = Value.ref _ from ry)
      exact tp _ (by rw [← r.str_of]; exact .of t)
  · cases rb with
    | lst n t r =>
      cases (show u = Value.ref _ from ry)
      rw [r.str_of] at t
      have ht := SqL.of (K := X.K) t
      obtain ⟨its, rr, ⟨o, n, ho, hc, hdn, hd⟩, _⟩ := I.list ht
      refine SeqAt.in_listAt (fun _ => false) ⟨o, ho, hc, n, hd⟩ (fun y hy => ?_) ?_
      · obtain ⟨b, t, rfl⟩ := vals_strs rr y (by simpa using hy)
        exact heq _ b t (by show X.A.units + 1 < cLine; exact hu)
      · rw [fin]; exact ⟨.bl false, S.H, I, rfl, R S _ _ (.refl S) k1 (.bl _) h⟩
def eqWD : DR2 := fun x y L q => eqD x y L q ∨ eqWSD x y L q
def inWD : DR2 := fun x y L q => inAD false x y L q ∨ inWSD false x y L q
theorem sim_eqW {K : PySem.W.Frag} : SimR2 K (fun x y H Q => rEqA K x y H Q ∨ rOf K eqWSD x y H Q) eqWD := sim_eq.or sim_of
theorem sim_inW {K : PySem.W.Frag} : SimR2 K (fun x y H Q => (rInA K false x y H Q ∨ rOf K (inTD false) x y H Q) ∨ rOf K (inWSD false) x y H Q) inWD := sim_inAD.or sim_of
theorem op_eqW {X : Cx} {K : PySem.W.Frag} (hK : X.K = K) (hu : X.A.units + 65 < cLine) : OpR X (compareOp .Eq) (fun x y H Q => rEqA K x y H Q ∨ rOf K eqWSD x y H Q) := (op_eqA hK (by omega)).or (op_eqWS hK (by omega))
theorem op_inW {X : Cx} {K : PySem.W.Frag} (hK : X.K = K) (hu : X.A.units + 65 < cLine) : OpR X (compareOp .In) (fun x y H Q => (rInA K false x y H Q ∨ rOf K (inTD false) x y H Q) ∨ rOf K (inWSD false) x y H Q) := (op_inAD hK hu).or (op_inWS hK (by omega))
/-- this very text -/
def isS (z : Str) : D → Bool
  | .str y => decide (y = z)
  | _ => false
theorem v_eqT {L : Lc} {x : D} {z : Str} {q : DQ} (h : okD x = true) (hq : q (.bl (isS z x)) L) : eqWD x (.str z) L q := by
  cases x with
  | non => exact .inl (.inl ⟨.non, .str z, rfl, rfl, rfl, by rw [show decide (V.non = V.str z) = false by simp]; exact hq⟩)
  | bl b => exact .inl (.inl ⟨.bl b, .str z, rfl, rfl, rfl, by rw [show decide (V.bl b = V.str z) = false by simp]; exact hq⟩)
  | int b => exact .inl (.inl ⟨.int b, .str z, rfl, rfl, rfl, by rw [show decide (V.int b = V.str z) = false by simp]; exact hq⟩)
  | str b => exact .inl (.inl ⟨.str b, .str z, rfl, rfl, rfl, by rw [show decide (V.str b = V.str z) = decide (b = z) by simp]; exact hq⟩)
  | lst ds => exact .inr ⟨z, .inr (.inr (.inl ⟨_, rfl⟩)), rfl, hq⟩
  | tup ds => exact .inr ⟨z, .inr (.inr (.inr (.inl ⟨_, rfl⟩))), rfl, hq⟩
  | dK es => exact .inr ⟨z, .inr (.inl ⟨_, rfl⟩), rfl, hq⟩
  | _ => rw [okD.eq_def] at h; cases h
theorem scA_strs : ∀ {zs : List Str}, scA (zs.map D.str) = some (zs.map V.str)
  | [] => rfl
  | z :: zs => by rw [List.map_cons, scA, scA_strs]; rfl
theorem inV_strs {x : V} {zs : List Str} (p : Str → Bool) (h : ∀ z, eqV (.str z) x = p z) : inV x (zs.map V.str) = zs.any p := by
  unfold inV
  rw [List.any_map]
  congr 1
  funext z
  exact h z
theorem eqV_isS (b z : Str) : eqV (.str z) (.str b) = isS z (.str b) := by
  show (z == b) = decide (b = z)
  by_cases e : b = z
  · rw [decide_eq_true e, e]; simp
  · rw [decide_eq_false e]; exact beq_eq_false_iff_ne.mpr fun z => e z.symm
theorem v_inT {L : Lc} {x y : D} {zs : List Str} {q : DQ} (h : okD x = true) (hy : y = .ctup (zs.map .str) ∨ y = .tup (zs.map .str) ∨ y = .lst (zs.map .str)) (hq : q (.bl (zs.any fun z => isS z x)) L) : inWD x y L q := by
  have hv : vSeq L y = some (zs.map .str) := by rcases hy with rfl | rfl | rfl <;> rfl
  have big : isBig L x → (zs.any fun z => isS z x) = false → inWD x y L q := fun b e => .inr ⟨zs, b, hy, by rw [e] at hq; exact hq⟩
  have sca : ∀ u, sc x = some u → (∀ z, eqV (.str z) u = isS z x) → inWD x y L q := fun u hu he => .inl (.inl (.inl ⟨_, u, _, hv, hu, scA_strs, by
    show q (.bl (inV u _)) L
    rw [inV_strs _ he]; exact hq⟩))
  have no : (∀ z, isS z x = false) → (zs.any fun z => isS z x) = false := fun e => List.any_eq_false.mpr fun z _ => by rw [e]; decide
  cases x with
  | non => exact sca _ rfl fun z => rfl
  | bl b => exact sca _ rfl fun z => rfl
  | int b => exact sca _ rfl fun z => rfl
  | str b => exact sca _ rfl (eqV_isS b)
  | lst ds => exact big (.inr (.inr (.inl ⟨_, rfl⟩))) (no fun _ => rfl)
  | tup ds => exact big (.inr (.inr (.inr (.inl ⟨_, rfl⟩)))) (no fun _ => rfl)
  | dK es => exact big (.inr (.inl ⟨_, rfl⟩)) (no fun _ => rfl)
  | _ => rw [okD.eq_def] at h; cases h
end Ed

set_option Elab.async false
set_option linter.all false
set_option maxRecDepth 100000
set_option maxHeartbeats 2000000
/-! What many laws ask: kinds, numbers in bounds, names; steps that need no word. -/
namespace Ed
open PySem PySem.Spec PyProof.Rows L2 Dz

def atlD (v : D) (low : Int) : Bool := match v with
  | .int i => decide (low ≤ i)
  | _ => false
def whlD (v : D) (low high : Int) : Bool := match v with
  | .int i => decide (low ≤ i) && decide (i ≤ high)
  | _ => false
def LT : Str := "abcdefghijklmnopqrstuvwxyz"
def allIn (z t : Str) : Bool := z.cps.toList.all fun c => decide (c ∈ t.cps.toList)
def namD (v : D) : Bool := match v with
  | .str z => decide ((z.length : Int) ≤ 8) && (!decide (z = "") && allIn z LT)
  | _ => false
theorem kit_bool {L : Lc} {x : D} {s : String} (h : kindD L x = some s) : kitB s "bool" = some (decide (s = "bool")) := by
  have := kindD_b7 h
  simp only [b7, List.mem_cons, List.not_mem_nil, or_false] at this
  rcases this with rfl | rfl | rfl | rfl | rfl | rfl | rfl <;> decide +kernel
theorem kit_int {L : Lc} {x : D} {s : String} (h : kindD L x = some s) : kitB s "int" = some (decide (s = "int") || decide (s = "bool")) := by
  have := kindD_b7 h
  simp only [b7, List.mem_cons, List.not_mem_nil, or_false] at this
  rcases this with rfl | rfl | rfl | rfl | rfl | rfl | rfl <;> decide +kernel
theorem kit_str {L : Lc} {x : D} {s : String} (h : kindD L x = some s) : kitB s "str" = some (decide (s = "str")) := by
  have := kindD_b7 h
  simp only [b7, List.mem_cons, List.not_mem_nil, or_false] at this
  rcases this with rfl | rfl | rfl | rfl | rfl | rfl | rfl <;> decide +kernel
theorem kind_int {L : Lc} {x : D} (h : kindD L x = some "int") : ∃ i, x = .int i := by
  cases x with
  | int i => exact ⟨i, rfl⟩
  | ref a =>
    cases e : L a with
    | none => simp [kindD, e] at h
    | some c => cases c <;> simp [kindD, e] at h
  | _ => simp [kindD] at h
theorem kind_str {L : Lc} {x : D} (h : kindD L x = some "str") : ∃ z, x = .str z := by
  cases x with
  | str i => exact ⟨i, rfl⟩
  | ref a =>
    cases e : L a with
    | none => simp [kindD, e] at h
    | some c => cases c <;> simp [kindD, e] at h
  | _ => simp [kindD] at h
theorem atl_no {L : Lc} {x : D} {s : String} {low : Int} (h : kindD L x = some s) (n : s ≠ "int") : atlD x low = false := by
  cases x with
  | int i => exact absurd (Option.some.inj h).symm n
  | _ => rfl
theorem nam_no {L : Lc} {x : D} {s : String} (h : kindD L x = some s) (n : s ≠ "str") : namD x = false := by
  cases x with
  | str i => exact absurd (Option.some.inj h).symm n
  | _ => rfl
theorem whl_atl {x : D} {low high : Int} (h : atlD x low = false) : whlD x low high = false := by
  cases x with
  | int i =>
    have h' : decide (low ≤ i) = false := h
    show (decide (low ≤ i) && _) = false
    rw [h']; rfl
  | _ => rfl
theorem atl_int {x : D} {low : Int} (h : atlD x low = true) : ∃ i, x = .int i ∧ decide (low ≤ i) = true := by
  cases x with
  | int i => exact ⟨i, rfl, h⟩
  | _ => cases h

def Kn (L : Lc) (v : D) : Prop := ∃ s, kindD L v = some s
def Shs (v : D) : Prop := ∀ z, v = .str z → z.length ≤ 5000
def isNonD : D → Bool
  | .non => true
  | _ => false
def intvD : D → Int
  | .int i => i
  | _ => 0
/-- what is refused first: a name (true) or a number -/
def dueOf (n p b s w f r : D) : Option (Bool × D) :=
  if namD n = false then some (true, n) else if (!isNonD p && !namD p) = true then some (true, p) else if whlD b 0 100 = false then some (false, b) else if whlD s 0 (intvD b) = false then some (false, s) else
  if whlD w 0 5 = false then some (false, w) else if whlD f 0 5 = false then some (false, f) else if whlD r 0 9 = false then some (false, r) else none
theorem whl_int {x : D} {low high : Int} (h : whlD x low high = true) : ∃ i, x = .int i := by
  cases x with
  | int i => exact ⟨i, rfl⟩
  | _ => cases h
theorem seven {t : List D} (h : t.length = 7) : ∃ n p b s w f r, t = [n, p, b, s, w, f, r] := by
  match t, h with
  | [n, p, b, s, w, f, r], _ => exact ⟨n, p, b, s, w, f, r, rfl⟩

theorem at_ints (ns : List Int) {i : Int} (h0 : 0 ≤ i) (h1 : i < ns.length) : ∃ n, atI (ns.map D.int) i = some (.int n) ∧ n ∈ ns := by
  obtain ⟨x, hx, _, hm⟩ := at_lt (l := ns.map D.int) h0 (by simpa using h1)
  obtain ⟨n, hn, rfl⟩ := List.mem_map.mp hm
  exact ⟨n, hx, hn⟩
theorem rng_get {n i : Nat} {d : D} (h : ((List.range n).map fun k => D.int (k : Nat))[i]? = some d) : d = .int (i : Nat) ∧ i < n := by
  rw [List.getElem?_map] at h
  have hi : i < n := by
    by_cases z : i < n
    · exact z
    · rw [List.getElem?_eq_none (by simpa using z)] at h; cases h
  rw [List.getElem?_range hi] at h
  cases h
  exact ⟨rfl, hi⟩
theorem log_of {n : Int} (h0 : 0 < n) (h : n < 2 ^ 64) : n.natAbs.log2 < 9000 := by
  have : n.natAbs.log2 < 64 := (Nat.log2_lt (by omega)).mpr (by omega)
  omega
theorem ltr_all : ∀ i : Fin 26, LTR.cps.toList[i.val]? = some (97 + i.val) := by decide +kernel
theorem ltr_no {i : Int} (h0 : 0 ≤ i) (h1 : i < 26) : atI LTR.cps.toList i = some (97 + i.toNat) ∧ LetS ⟨#[97 + i.toNat]⟩ := by
  have h := ltr_all ⟨i.toNat, by omega⟩
  exact ⟨atI_ofD h0 h, let_one (List.mem_of_getElem? h)⟩
theorem cut_len {z : Str} {k : Int} (h : 0 ≤ k) : (cutS z none (some k)).length = min k.toNat z.length := by
  have e : (cutS z none (some k)).length = ((z.cps.toList.drop (HT.sIx z.length 0 none)).take (HT.sIx z.length z.length (some k) - HT.sIx z.length 0 none)).length := by
    show Array.size _ = _
    simp [cutS]
  have lz : z.cps.toList.length = z.length := Array.length_toList
  obtain ⟨n, rfl⟩ : ∃ n : Nat, k = n := ⟨k.toNat, (Int.toNat_of_nonneg h).symm⟩
  rw [e, List.length_take, List.length_drop, HT.sIx_nat, lz]
  show min (min n z.length - 0) (z.length - 0) = min n z.length
  omega
theorem mid_eq {h t : Str} {a b : Nat} (e : (h ++ (⟨#[a]⟩ : Str)) ++ t = (h ++ (⟨#[b]⟩ : Str)) ++ t) : a = b := by
  have e1 : ((h.cps ++ #[a]) ++ t.cps).toList = ((h.cps ++ #[b]) ++ t.cps).toList := congrArg (fun s : Str => s.cps.toList) e
  simpa using e1
theorem four {f : Nat → Str} {n : Nat} {z0 z1 z2 z3 : Str} (h : (List.range n).map f = [z0, z1, z2, z3]) : z0 = f 0 ∧ z3 = f 3 := by
  have hn : n = 4 := by simpa using congrArg List.length h
  subst hn
  simp [List.range, List.range.loop] at h
  exact ⟨h.1.symm, h.2.2.2.symm⟩
theorem nm_one {c : Nat} {y : Str} (h : LetS ⟨#[c]⟩) (hy : LetS y) (hl : y.length ≤ 7) : Nm ((⟨#[c]⟩ : Str) ++ y) :=
  ⟨by rw [len_app]; show 1 ≤ 1 + _; omega, by rw [len_app]; show 1 + _ ≤ 8; omega, let_app h hy⟩
theorem nm_two {c : Nat} {x y : Str} (h : LetS ⟨#[c]⟩) (hx : LetS x) (hy : LetS y) (hl : x.length + y.length ≤ 7) : Nm ((x ++ (⟨#[c]⟩ : Str)) ++ y) :=
  ⟨by rw [len_app, len_app]; show 1 ≤ _ + 1 + _; omega, by rw [len_app, len_app]; show _ + 1 + _ ≤ 8; omega, let_app (let_app hx h) hy⟩

theorem ok_kind {L : Lc} {x : D} (h : okD x = true) : ∃ s, kindD L x = some s := by
  cases x with
  | non => exact ⟨_, rfl⟩
  | bl b => exact ⟨_, rfl⟩
  | int b => exact ⟨_, rfl⟩
  | str b => exact ⟨_, rfl⟩
  | lst ds => exact ⟨_, rfl⟩
  | tup ds => exact ⟨_, rfl⟩
  | dK es => exact ⟨_, rfl⟩
  | _ => rw [okD.eq_def] at h; cases h
theorem ok_shs {x : D} (h : okD x = true) : Shs x := fun z e => by
  subst e
  rw [okD.eq_def] at h
  exact of_decide_eq_true (Bool.and_eq_true_iff.mp h).2
theorem ok_str {x : D} {z : Str} (h : okD x = true) (e : x = .str z) : Asc z ∧ z.length ≤ 5000 := by
  subst e
  rw [okD.eq_def] at h
  have := Bool.and_eq_true_iff.mp h
  exact ⟨asc_of this.1, of_decide_eq_true this.2⟩
def is_tup : D → Bool
  | .tup _ => true
  | .ctup _ => true
  | _ => false
theorem sz_5 {n : Nat} (h : n ≤ 5000) : n ≤ sizeLine := Nat.le_trans h (by decide)
/-- at most a thousand things that are written -/
theorem v_sz {n : Nat} {p : Prop} (e : Nat.ble n 1000 = true) (h : p) : n ≤ sizeLine ∧ p := ⟨Nat.le_trans (Nat.le_of_ble_eq_true e) (by decide), h⟩
/-- one of these -/
theorem v_ixM {L : Lc} {x : D} {ds : List D} {i : Int} {q : DQ} (hv : vSeq L x = some ds) (h0 : 0 ≤ i) (h1 : i < ds.length) (k : ∀ d, d ∈ ds → q d L) : ixD x (.int i) L q := by
  obtain ⟨d, hd, _, hm⟩ := at_lt h0 h1
  exact v_ix hv hd (k d hm)
/-- one of these, from the front or from the end -/
theorem v_ixE {L : Lc} {x : D} {ds : List D} {i : Int} {q : DQ} (hv : vSeq L x = some ds) (h0 : -(ds.length : Int) ≤ i) (h1 : i < ds.length) (k : ∀ d, d ∈ ds → q d L) : ixD x (.int i) L q := by
  by_cases z : 0 ≤ i
  · exact v_ixM hv z h1 k
  · have e : ixN ds.length i = some (i + ds.length).toNat := by
      unfold ixN
      rw [if_neg z, if_pos (by omega)]
    have hl : (i + ds.length).toNat < ds.length := by omega
    have h2 : atI ds i = some ds[(i + ds.length).toNat] := by
      unfold L2.atI
      rw [e]
      exact List.getElem?_eq_getElem hl
    exact v_ix hv h2 (k _ (List.getElem_mem hl))
theorem at4 {α : Type} {a b c d e : α} {l : List α} : atI (a :: b :: c :: d :: e :: l) 4 = some e := atI_ofD (by decide) rfl
theorem at5 {α : Type} {a b c d e f : α} {l : List α} : atI (a :: b :: c :: d :: e :: f :: l) 5 = some f := atI_ofD (by decide) rfl
theorem at6 {α : Type} {a b c d e f g : α} {l : List α} : atI (a :: b :: c :: d :: e :: f :: g :: l) 6 = some g := atI_ofD (by decide) rfl
theorem nm_asc {z : Str} (h : Nm z) : Asc z := by
  have key : ∀ c ∈ LTR.cps.toList, c < 128 := by decide +kernel
  exact fun c hc => key c (h.2.2 c hc)
theorem v_ix0 {L : Lc} {x : D} {x0 : D} {l : List D} {q : DQ} (h : vSeq L x = some (x0 :: l)) (k : q x0 L) : ixD x (.int 0) L q := v_ix h at0 k
theorem v_ix1 {L : Lc} {x : D} {x0 x1 : D} {l : List D} {q : DQ} (h : vSeq L x = some (x0 :: x1 :: l)) (k : q x1 L) : ixD x (.int 1) L q := v_ix h at1 k
theorem v_ix2 {L : Lc} {x : D} {x0 x1 x2 : D} {l : List D} {q : DQ} (h : vSeq L x = some (x0 :: x1 :: x2 :: l)) (k : q x2 L) : ixD x (.int 2) L q := v_ix h at2 k
theorem v_ix3 {L : Lc} {x : D} {x0 x1 x2 x3 : D} {l : List D} {q : DQ} (h : vSeq L x = some (x0 :: x1 :: x2 :: x3 :: l)) (k : q x3 L) : ixD x (.int 3) L q := v_ix h at3 k
theorem v_ix4 {L : Lc} {x : D} {x0 x1 x2 x3 x4 : D} {l : List D} {q : DQ} (h : vSeq L x = some (x0 :: x1 :: x2 :: x3 :: x4 :: l)) (k : q x4 L) : ixD x (.int 4) L q := v_ix h at4 k
theorem v_ix5 {L : Lc} {x : D} {x0 x1 x2 x3 x4 x5 : D} {l : List D} {q : DQ} (h : vSeq L x = some (x0 :: x1 :: x2 :: x3 :: x4 :: x5 :: l)) (k : q x5 L) : ixD x (.int 5) L q := v_ix h at5 k
theorem v_ix6 {L : Lc} {x : D} {x0 x1 x2 x3 x4 x5 x6 : D} {l : List D} {q : DQ} (h : vSeq L x = some (x0 :: x1 :: x2 :: x3 :: x4 :: x5 :: x6 :: l)) (k : q x6 L) : ixD x (.int 6) L q := v_ix h at6 k
/-- a length that is known -/
theorem v_szE {n : Nat} {p : Prop} (e : n ≤ 5000) (h : p) : n ≤ sizeLine ∧ p := ⟨sz_5 e, h⟩
end Ed

set_option Elab.async false
set_option linter.all false
set_option maxRecDepth 100000
set_option maxHeartbeats 2000000
/-! A list or a tuple beside an empty one, whatever is in it; texts as they are shown. -/
namespace Ed
open PySem PySem.Spec PyProof.Rows L2 Dz
/-- what stands in both, and how many things each has -/
theorem seq_at {X : Cx} {pins : List (Addr × Obj)} {σ : L2.St} {S : Sta} {s : Shared} {x : D} {ds : List D} {v : V} {u : Value} (I : Inv X pins σ S.H s) (k : Ok X.K S) (r : Rp X.K S.H S.Λ v x) (rv : RelV v u) :
    (vLst S.L x = some ds → ∃ a its, u = .ref a ∧ s.heap.IsList a its ∧ its.size = ds.length) ∧ ((x = .tup ds ∨ x = .ctup ds) → ∃ a its, u = .ref a ∧ s.heap.IsTuple a its ∧ its.size = ds.length) := by
  refine ⟨fun h => ?_, fun h => ?_⟩
  · obtain ⟨a, xs, rfl, h1, h2⟩ := vLst_ok k r h
    cases (show u = Value.ref a from rv)
    obtain ⟨its, rr, ⟨o, n, ho, hc, hdn, hd⟩, _⟩ := I.list (.of h1)
    exact ⟨a, its.toArray, rfl, ⟨o, ho, hc, n, hd⟩, by rw [List.size_toArray, ← rr.length, h2.length]⟩
  · have tp : ∀ {a : Addr} {xs : List V}, SqT X.K S.H a xs → xs.length = ds.length → ∃ its, s.heap.IsTuple a its ∧ its.size = ds.length := fun {a xs} h1 hl => by
      obtain ⟨its, rr, hT, _⟩ := I.tuple h1
      exact ⟨its.toArray, hT, by rw [List.size_toArray, ← rr.length, hl]⟩
    rcases h with rfl | rfl
    · cases r with
      | tup n t r =>
        cases (show u = Value.ref _ from rv)
        obtain ⟨its, h1, h2⟩ := tp (.of t) r.length
        exact ⟨_, its, rfl, h1, h2⟩
    · cases r with
      | ctup t r =>
        cases (show u = Value.ref _ from rv)
        obtain ⟨its, h1, h2⟩ := tp t.sq r.length
        exact ⟨_, its, rfl, h1, h2⟩
def emD (neg : Bool) : DR2 := fun x y L q => ∃ ds, ((vLst L x = some ds ∧ y = .lst []) ∨ ((x = .tup ds ∨ x = .ctup ds) ∧ y = .tup [])) ∧ q (.bl (if neg then !ds.isEmpty else ds.isEmpty)) L
theorem size_em {α β : Type} {a : Array α} {ds : List β} (h : a.size = ds.length) : (a.size == 0) = ds.isEmpty := by
  cases ds with
  | nil => rw [h]; rfl
  | cons d ds => rw [h]; rfl
theorem op_emE {X : Cx} {K : PySem.W.Frag} (hK : X.K = K) (hu : X.A.units < cLine) : OpR X (compareOp .Eq) (rOf K (emD false)) := by
  subst hK
  rintro pins s σ H x y v u Q I rx ry ⟨S, a, b, q, rfl, k1, ra, rb, R, ds, h1, h⟩
  have fin : ∀ c, c = ds.isEmpty → ∃ z H', Inv X pins σ H' s ∧ RelV z (Value.bool c) ∧ Q z H' := fun c e => ⟨.bl c, S.H, I, rfl, R S _ _ (.refl S) k1 (.bl _) (by rw [e]; exact h)⟩
  rcases h1 with ⟨h1, rfl⟩ | ⟨h1, rfl⟩
  · obtain ⟨p, its, rfl, l1, z1⟩ := (seq_at (ds := ds) I k1 ra rx).1 h1
    obtain ⟨p2, its2, rfl, l2, z2⟩ := (seq_at (ds := []) I k1 rb ry).1 rfl
    by_cases e : its.size = its2.size
    · refine SeqAt.eq_listAt (e := fun _ => true) l1 l2 e hu (fun j _ h2 => by rw [z2] at h2; exact absurd h2 (Nat.not_lt_zero _)) ?_
      refine fin _ ?_
      rw [← size_em z1, e, z2]
      simp
    · refine SeqAt.eq_list_lengthsAt l1 l2 (by simpa using e) hu ?_
      refine fin _ ?_
      rw [← size_em z1]
      rw [z2] at e
      exact (beq_eq_false_iff_ne.mpr e).symm
  · obtain ⟨p, its, rfl, l1, z1⟩ := (seq_at (ds := ds) I k1 ra rx).2 h1
    obtain ⟨p2, its2, rfl, l2, z2⟩ := (seq_at (ds := []) I k1 rb ry).2 (.inl rfl)
    refine SeqAt.eq_tupleAt (e := fun _ => true) l1 l2 hu (fun j _ h2 => by rw [z2] at h2; exact absurd h2 (Nat.not_lt_zero _)) ?_
    refine fin _ ?_
    rw [← size_em z1, z2]
    simp
theorem op_emN {X : Cx} {K : PySem.W.Frag} (hK : X.K = K) (hu : X.A.units < cLine) : OpR X (compareOp .NotEq) (rOf K (emD true)) := by
  subst hK
  rintro pins s σ H x y v u Q I rx ry ⟨S, a, b, q, rfl, k1, ra, rb, R, ds, h1, h⟩
  have fin : ∀ c, c = !ds.isEmpty → ∃ z H', Inv X pins σ H' s ∧ RelV z (Value.bool c) ∧ Q z H' := fun c e => ⟨.bl c, S.H, I, rfl, R S _ _ (.refl S) k1 (.bl _) (by rw [e]; exact h)⟩
  rcases h1 with ⟨h1, rfl⟩ | ⟨h1, rfl⟩
  · obtain ⟨p, its, rfl, l1, z1⟩ := (seq_at (ds := ds) I k1 ra rx).1 h1
    obtain ⟨p2, its2, rfl, l2, z2⟩ := (seq_at (ds := []) I k1 rb ry).1 rfl
    show wpAny (model X.prog X.w) X.A (richCompare .NotEq (.ref p) (.ref p2)) _ _ s
    by_cases e : its.size = its2.size
    · refine SeqAt.RcNeAt.lists (e := fun _ => true) l1 l2 e hu (fun j _ h2 => by rw [z2] at h2; exact absurd h2 (Nat.not_lt_zero _)) X.prog X.w X.xe _ ?_
      refine fin _ ?_
      rw [← size_em z1, e, z2]
      simp
    · refine SeqAt.RcNeAt.lists_lengths l1 l2 (by simpa using e) hu X.prog X.w X.xe _ ?_
      refine fin _ ?_
      rw [← size_em z1]
      rw [z2] at e
      rw [show (its.size == 0) = false from beq_eq_false_iff_ne.mpr e]
      rfl
  · obtain ⟨p, its, rfl, l1, z1⟩ := (seq_at (ds := ds) I k1 ra rx).2 h1
    obtain ⟨p2, its2, rfl, l2, z2⟩ := (seq_at (ds := []) I k1 rb ry).2 (.inl rfl)
    show wpAny (model X.prog X.w) X.A (richCompare .NotEq (.ref p) (.ref p2)) _ _ s
    refine SeqAt.RcNeAt.tuples (e := fun _ => true) l1 l2 hu (fun j _ h2 => by rw [z2] at h2; exact absurd h2 (Nat.not_lt_zero _)) X.prog X.w X.xe _ ?_
    refine fin _ ?_
    rw [← size_em z1, z2]
    simp
theorem v_emE {L : Lc} {x y : D} {ds : List D} {q : DQ} (h : (vLst L x = some ds ∧ y = .lst []) ∨ ((x = .tup ds ∨ x = .ctup ds) ∧ y = .tup [])) (hq : q (.bl ds.isEmpty) L) : emD false x y L q := ⟨ds, h, hq⟩
theorem v_emN {L : Lc} {x y : D} {ds : List D} {q : DQ} (h : (vLst L x = some ds ∧ y = .lst []) ∨ ((x = .tup ds ∨ x = .ctup ds) ∧ y = .tup [])) (hq : q (.bl (!ds.isEmpty)) L) : emD true x y L q := ⟨ds, h, hq⟩
end Ed

set_option Elab.async false
set_option linter.all false
set_option maxRecDepth 100000
set_option maxHeartbeats 2000000
/-! Only a text is shown as a text of letters is. -/
namespace Ed
open PySem PySem.Spec PyProof.Rows L2 Dz
theorem foldl_flat (q : Nat) : ∀ (l : List Nat) (acc : Array Nat), (l.foldl (fun out c => out ++ (Builtin.Str.reprChar q c).toArray) acc).toList = acc.toList ++ l.flatMap (Builtin.Str.reprChar q)
  | [], acc => by simp
  | c :: l, acc => by
    rw [List.foldl_cons, foldl_flat q l]
    simp
theorem repr_list (x : Str) : (reprText x).cps.toList = reprQuote x :: (x.cps.toList.flatMap (Builtin.Str.reprChar (reprQuote x)) ++ [reprQuote x]) := by
  show ((x.cps.foldl (fun out c => out ++ (Builtin.Str.reprChar (reprQuote x) c).toArray) #[reprQuote x]).push (reprQuote x)).toList = _
  rw [Array.toList_push, ← Array.foldl_toList, foldl_flat]
  simp
theorem reprChar_or (q c : Nat) : Builtin.Str.reprChar q c = [c] ∨ 92 ∈ Builtin.Str.reprChar q c := by
  unfold Builtin.Str.reprChar
  repeat' split
  all_goals first | exact .inl rfl | (right; simp)
theorem flat_plain {q : Nat} : ∀ {l : List Nat}, 92 ∉ l.flatMap (Builtin.Str.reprChar q) → l.flatMap (Builtin.Str.reprChar q) = l
  | [], _ => rfl
  | c :: l, h => by
    rw [List.flatMap_cons] at h ⊢
    rcases reprChar_or q c with e | e
    · rw [e, flat_plain (fun z => h (List.mem_append_right _ z))]; rfl
    · exact absurd (List.mem_append_left _ e) h
/-- letters -/
def Lets (t : Str) : Prop := ∀ c ∈ t.cps.toList, 96 < c ∧ c < 123
theorem lets_quote {t : Str} (h : Lets t) : reprQuote t = 39 := by
  unfold reprQuote
  have : t.cps.contains 39 = false := by
    rw [Bool.eq_false_iff]
    intro z
    have := h 39 (by simpa using z)
    omega
  rw [this]; rfl
theorem lets_char {c : Nat} (h : 96 < c ∧ c < 123) : Builtin.Str.reprChar 39 c = [c] := by
  have key : ∀ i : Fin 26, Builtin.Str.reprChar 39 (97 + i.val) = [97 + i.val] := by decide +kernel
  have := key ⟨c - 97, by omega⟩
  rw [show 97 + (c - 97) = c by omega] at this
  exact this
theorem lets_flat {l : List Nat} (h : ∀ c ∈ l, 96 < c ∧ c < 123) : l.flatMap (Builtin.Str.reprChar 39) = l := by
  induction l with
  | nil => rfl
  | cons c l ih => rw [List.flatMap_cons, lets_char (h c List.mem_cons_self), ih fun d hd => h d (List.mem_cons_of_mem _ hd)]; rfl
theorem lets_repr {t : Str} (h : Lets t) : (reprText t).cps.toList = 39 :: (t.cps.toList ++ [39]) := by
  rw [repr_list, lets_quote h, lets_flat h]
theorem repr_is {x t : Str} (h : Lets t) (e : reprText x = reprText t) : x = t := by
  have e1 := congrArg (fun s : Str => s.cps.toList) e
  simp only [lets_repr h, repr_list] at e1
  obtain ⟨hq, e1⟩ := List.cons.inj e1
  rw [hq] at e1
  have e2 : x.cps.toList.flatMap (Builtin.Str.reprChar 39) = t.cps.toList := List.append_cancel_right e1
  have n : 92 ∉ x.cps.toList.flatMap (Builtin.Str.reprChar 39) := by
    rw [e2]; intro z; have := h 92 z; omega
  rw [flat_plain n] at e2
  cases x; cases t
  simp only [Str.mk.injEq]
  exact Array.toList_inj.mp e2
theorem not_repr {y t : Str} (h : Lets t) (n : ∀ l, y.cps.toList ≠ 39 :: l) : y ≠ reprText t := fun e => n _ (by rw [e, lets_repr h])
theorem head_ne {a y : Str} {c : Nat} (hc : c ≠ 39) (ha : a.cps.toList = [c]) : ∀ l, (a ++ y).cps.toList ≠ 39 :: l := fun l e => by
  have : (a ++ y).cps.toList = a.cps.toList ++ y.cps.toList := by
    show (a.cps ++ y.cps).toList = _
    simp
  rw [this, ha] at e
  exact hc (List.cons.inj e).1
theorem str_assoc (a b c : Str) : (a ++ b) ++ c = a ++ (b ++ c) := by
  show Str.mk ((a.cps ++ b.cps) ++ c.cps) = Str.mk (a.cps ++ (b.cps ++ c.cps))
  rw [Array.append_assoc]
theorem textFrom_head : ∀ (ts : List Str) (n : Nat) (a : Str), ∃ y, textFrom n a ts = a ++ y
  | [], n, a => ⟨Str.empty, by show a = Str.mk (a.cps ++ #[]); simp⟩
  | t :: ts, n, a => by
    obtain ⟨y, hy⟩ := textFrom_head ts (n + 1) (a ++ (if n > 0 then ", " else "" : String) ++ t)
    refine ⟨(((if n > 0 then ", " else "" : String) : Str) ++ t) ++ y, ?_⟩
    show textFrom (n + 1) (a ++ (if n > 0 then ", " else "" : String) ++ t) ts = _
    rw [hy, str_assoc, str_assoc, str_assoc]
theorem tuple_head (ts : List Str) : ∀ l, (tupleText ts).cps.toList ≠ 39 :: l := fun l z => by
  unfold tupleText at z
  rw [str_assoc] at z
  exact head_ne (c := 40) (by decide) (by decide +kernel) _ z
/-- .. is this text -/
theorem shown_is {d : D} {t : Str} (ok : okD d = true) (h : Lets t) : decide ((pyOf d).shown = (PyData.str t).shown) = isS t d := by
  have no : (∀ l, (pyOf d).shown.cps.toList ≠ 39 :: l) → isS t d = false → decide ((pyOf d).shown = (PyData.str t).shown) = isS t d := fun n e => by
    rw [e]; exact decide_eq_false (not_repr h n)
  cases d with
  | non => exact no (by intro l z; rw [pyOf.eq_def] at z; revert z; show (PyData.none).shown.cps.toList = _ → _; rw [show (PyData.none).shown.cps.toList = [78, 111, 110, 101] by decide +kernel]; intro z; cases z) rfl
  | bl b => exact no (by
      intro l z; rw [pyOf.eq_def] at z; revert z; show (PyData.bool b).shown.cps.toList = _ → _
      cases b
      · rw [show (PyData.bool false).shown.cps.toList = [70, 97, 108, 115, 101] by decide +kernel]; intro z; cases z
      · rw [show (PyData.bool true).shown.cps.toList = [84, 114, 117, 101] by decide +kernel]; intro z; cases z) rfl
  | int i => exact no (by
      intro l z; rw [pyOf.eq_def] at z
      have z' : (Str.ofString (toString i)).cps.toList = 39 :: l := z
      exact (intText_free_39 i).mp (by rw [z']; exact List.mem_cons_self)) rfl
  | str x =>
    rw [pyOf.eq_def]
    show decide (reprText x = reprText t) = decide (x = t)
    by_cases e : x = t
    · rw [decide_eq_true e, e]; exact decide_eq_true rfl
    · rw [decide_eq_false e]; exact decide_eq_false fun z => e (repr_is h z)
  | lst ds => exact no (by
      intro l z; rw [pyOf.eq_def] at z
      have z' : (listText (PyData.shownAll (pyOfL ds))).cps.toList = 39 :: l := z
      unfold listText at z'
      obtain ⟨y, hy⟩ := textFrom_head (PyData.shownAll (pyOfL ds)) 0 (Str.ofString "[")
      rw [hy, str_assoc] at z'
      exact head_ne (c := 91) (by decide) (by decide +kernel) _ z') rfl
  | tup ds => exact no (by
      intro l z; rw [pyOf.eq_def] at z
      have z' : (tupleText (PyData.shownAll (pyOfL ds))).cps.toList = 39 :: l := z
      exact tuple_head _ _ z') rfl
  | dK es => exact no (by
      intro l z; rw [pyOf.eq_def] at z
      have z' : (dictText (PyData.shownKv (pyOfK es))).cps.toList = 39 :: l := z
      unfold dictText at z'
      rw [str_assoc] at z'
      exact head_ne (c := 123) (by decide) (by decide +kernel) _ z') rfl
  | _ => rw [okD.eq_def] at ok; cases ok
end Ed

set_option Elab.async false
set_option linter.all false
set_option maxRecDepth 100000
set_option maxHeartbeats 2000000
/-! isinstance, len, of things. -/
namespace Ed
open PySem PySem.Spec PyProof.Rows L2 Dz
def isTup : D → Bool
  | .tup _ => true
  | _ => false
def isStrD : D → Bool
  | .str _ => true
  | _ => false
def isLst : D → Bool
  | .lst _ => true
  | _ => false
def isIntD : D → Bool
  | .int _ => true
  | .bl _ => true
  | _ => false
def isBlD : D → Bool
  | .bl _ => true
  | _ => false
section
variable {L : Lc} {x : D} {ds : List D} {q : DQ}
theorem v_isiT (ok : okD x = true) (hq : q (.bl (isTup x)) L) : isiD [x, .ty "tuple"] L q := by
  cases x with
  | non => exact ⟨_, _, "NoneType", false, rfl, rfl, by decide +kernel, hq⟩
  | bl b => exact ⟨_, _, "bool", false, rfl, rfl, by decide +kernel, hq⟩
  | int b => exact ⟨_, _, "int", false, rfl, rfl, by decide +kernel, hq⟩
  | str b => exact ⟨_, _, "str", false, rfl, rfl, by decide +kernel, hq⟩
  | lst ds => exact ⟨_, _, "list", false, rfl, rfl, by decide +kernel, hq⟩
  | tup ds => exact ⟨_, _, "tuple", true, rfl, rfl, by decide +kernel, hq⟩
  | dK es => exact ⟨_, _, "dict", false, rfl, rfl, by decide +kernel, hq⟩
  | _ => rw [okD.eq_def] at ok; cases ok
theorem v_isiS (ok : okD x = true) (hq : q (.bl (isStrD x)) L) : isiD [x, .ty "str"] L q := by
  cases x with
  | non => exact ⟨_, _, "NoneType", false, rfl, rfl, by decide +kernel, hq⟩
  | bl b => exact ⟨_, _, "bool", false, rfl, rfl, by decide +kernel, hq⟩
  | int b => exact ⟨_, _, "int", false, rfl, rfl, by decide +kernel, hq⟩
  | str b => exact ⟨_, _, "str", true, rfl, rfl, by decide +kernel, hq⟩
  | lst ds => exact ⟨_, _, "list", false, rfl, rfl, by decide +kernel, hq⟩
  | tup ds => exact ⟨_, _, "tuple", false, rfl, rfl, by decide +kernel, hq⟩
  | dK es => exact ⟨_, _, "dict", false, rfl, rfl, by decide +kernel, hq⟩
  | _ => rw [okD.eq_def] at ok; cases ok
theorem v_isiL (ok : okD x = true) (hq : q (.bl (isLst x)) L) : isiD [x, .ty "list"] L q := by
  cases x with
  | non => exact ⟨_, _, "NoneType", false, rfl, rfl, by decide +kernel, hq⟩
  | bl b => exact ⟨_, _, "bool", false, rfl, rfl, by decide +kernel, hq⟩
  | int b => exact ⟨_, _, "int", false, rfl, rfl, by decide +kernel, hq⟩
  | str b => exact ⟨_, _, "str", false, rfl, rfl, by decide +kernel, hq⟩
  | lst ds => exact ⟨_, _, "list", true, rfl, rfl, by decide +kernel, hq⟩
  | tup ds => exact ⟨_, _, "tuple", false, rfl, rfl, by decide +kernel, hq⟩
  | dK es => exact ⟨_, _, "dict", false, rfl, rfl, by decide +kernel, hq⟩
  | _ => rw [okD.eq_def] at ok; cases ok
theorem v_isiI (ok : okD x = true) (hq : q (.bl (isIntD x)) L) : isiD [x, .ty "int"] L q := by
  cases x with
  | non => exact ⟨_, _, "NoneType", false, rfl, rfl, by decide +kernel, hq⟩
  | bl b => exact ⟨_, _, "bool", true, rfl, rfl, by decide +kernel, hq⟩
  | int b => exact ⟨_, _, "int", true, rfl, rfl, by decide +kernel, hq⟩
  | str b => exact ⟨_, _, "str", false, rfl, rfl, by decide +kernel, hq⟩
  | lst ds => exact ⟨_, _, "list", false, rfl, rfl, by decide +kernel, hq⟩
  | tup ds => exact ⟨_, _, "tuple", false, rfl, rfl, by decide +kernel, hq⟩
  | dK es => exact ⟨_, _, "dict", false, rfl, rfl, by decide +kernel, hq⟩
  | _ => rw [okD.eq_def] at ok; cases ok
theorem v_isiB (ok : okD x = true) (hq : q (.bl (isBlD x)) L) : isiD [x, .ty "bool"] L q := by
  cases x with
  | non => exact ⟨_, _, "NoneType", false, rfl, rfl, by decide +kernel, hq⟩
  | bl b => exact ⟨_, _, "bool", true, rfl, rfl, by decide +kernel, hq⟩
  | int b => exact ⟨_, _, "int", false, rfl, rfl, by decide +kernel, hq⟩
  | str b => exact ⟨_, _, "str", false, rfl, rfl, by decide +kernel, hq⟩
  | lst ds => exact ⟨_, _, "list", false, rfl, rfl, by decide +kernel, hq⟩
  | tup ds => exact ⟨_, _, "tuple", false, rfl, rfl, by decide +kernel, hq⟩
  | dK es => exact ⟨_, _, "dict", false, rfl, rfl, by decide +kernel, hq⟩
  | _ => rw [okD.eq_def] at ok; cases ok
theorem tup_of (h : isTup x = true) : ∃ ds, x = .tup ds := by cases x <;> first | exact ⟨_, rfl⟩ | cases h
theorem str_of (h : isStrD x = true) : ∃ ds, x = .str ds := by cases x <;> first | exact ⟨_, rfl⟩ | cases h
theorem lst_of (h : isLst x = true) : ∃ ds, x = .lst ds := by cases x <;> first | exact ⟨_, rfl⟩ | cases h
theorem v_lenL (h : vSeq L x = some ds) (k : q (.int ds.length) L) : lenD [x] L q := .inl ⟨x, ds, rfl, h, k⟩
theorem v_isN2 (k : q (.bl (isNonD x)) L) : isND x .non L q := by
  by_cases h : x = .non
  · subst h; exact ⟨rfl, .inl ⟨rfl, k⟩⟩
  · exact ⟨rfl, .inr ⟨h, by rw [show isNonD x = false by cases x <;> first | rfl | exact absurd rfl h] at k; exact k⟩⟩
theorem v_notN2 (k : q (.bl (!isNonD x)) L) : notND x .non L q := by
  by_cases h : x = .non
  · subst h; exact ⟨rfl, .inl ⟨rfl, k⟩⟩
  · exact ⟨rfl, .inr ⟨h, by rw [show isNonD x = false by cases x <;> first | rfl | exact absurd rfl h] at k; exact k⟩⟩
theorem okD_tup : okD (.tup ds) = okDs ds := by rw [okD.eq_def]
theorem okD_lst : okD (.lst ds) = okDs ds := by rw [okD.eq_def]
theorem nam_str (h : namD x = true) : ∃ z, x = .str z := by cases x <;> first | exact ⟨_, rfl⟩ | cases h
end
theorem cut_1 {x : D} {ds : List D} : cutD (x :: ds) (some 1) none = ds := by
  unfold cutD
  rw [show HT.sIx (x :: ds).length 0 (some 1) = 1 from by rw [show (1 : Int) = ((1 : Nat) : Int) from rfl, HT.sIx_nat, List.length_cons]; omega, HT.sIx_none]
  simp
end Ed

set_option Elab.async false
set_option linter.all false
set_option maxRecDepth 100000
set_option maxHeartbeats 2000000
/-! t[::-1] of a tuple. -/
namespace HT
open PySem PyProof.Rows
open PySem.SeqAt
open PySem.AutoSeq1 (wpAny_loadPart')
open PySem.MeetsSeq PySem.MeetsSeq2 PySem.MeetsSeq3
section
variable {prog : Program} {w : World} {A : Around} {E : Value → Shared → Prop} {s : Shared}
theorem adjust_rev (n : Nat) : Builtin.Slice.sliceAdjust none none (-1) (n : Int) = ((n : Int) - 1, -1) := rfl
theorem places_rev (n : Nat) : Builtin.Slice.slicePlaces ((n : Int) - 1) (-1) (-1) = n := by
  unfold Builtin.Slice.slicePlaces
  simp only [show ¬ ((-1 : Int) > 0) by decide, if_false, show -(-1 : Int) = 1 by decide, Int.ediv_one]
  split <;> omega
theorem applied_rev {sl : Addr} {vl vu vs : Value} {n : Nat} {Q : Int × Int × Nat → Shared → Prop} (hs : s.heap.IsSliceOf sl vl vu vs) (pl : IsPart vl none) (pu : IsPart vu none) (ps : IsPart vs (some (-1)))
    (h : Q ((n : Int) - 1, -1, n) s) : wpAny (model prog w) A (Builtin.Slice.sliceApplied (.ref sl) (pure (n : Int))) Q E s := by
  obtain ⟨os, hos, hcs, hds⟩ := id hs
  unfold Builtin.Slice.sliceApplied Builtin.Slice.sliceFields
  refine wpAny_bind (wpAny_bind (wpAny_field hos hds (x := vl) rfl (wpAny_bind (wpAny_field hos hds (x := vu) rfl (wpAny_bind (wpAny_field hos hds (x := vs) rfl (wpAny_pure ?_)))))))
  refine wpAny_bind (slicePart_ ps ?_)
  show wpAny _ _ (if ((-1 : Int) == 0) = true then _ else _) _ _ s
  rw [if_neg (by decide)]
  refine wpAny_bind (slicePart_ pl (wpAny_bind (slicePart_ pu (wpAny_bind (wpAny_pure ?_)))))
  show wpAny _ _ (match Builtin.Slice.sliceAdjust none none (-1) (n : Int) with | (lo, hi) => pure (lo, (-1 : Int), Builtin.Slice.slicePlaces lo hi (-1))) _ _ s
  rw [adjust_rev n]
  show wpAny _ _ (pure ((n : Int) - 1, (-1 : Int), Builtin.Slice.slicePlaces ((n : Int) - 1) (-1) (-1))) _ _ s
  rw [places_rev]
  exact wpAny_pure h
theorem pick_rev (xs : Array Value) : ((List.range xs.size).filterMap fun (m : Nat) => xs[(((xs.size : Int) - 1) + (m : Int) * (-1)).toNat]?) = xs.toList.reverse := by
  have e0 : (List.range xs.size).reverse = (List.range xs.size).map fun (m : Nat) => (((xs.size : Int) - 1) + (m : Int) * (-1)).toNat := by
    apply List.ext_getElem
    · simp
    · intro i h1 h2
      rw [List.getElem_reverse, List.getElem_map, List.getElem_range, List.getElem_range]
      have : i < xs.size := by simpa using h1
      simp only [List.length_range]
      omega
  have e1 : ((List.range xs.size).reverse.filterMap fun m => xs[m]?) = xs.toList.reverse := by
    rw [List.filterMap_reverse]
    congr 1
    exact PySem.W.krv_all xs
  rw [e0, List.filterMap_map] at e1
  exact e1
theorem getItem_tuple_rev {t sl : Addr} {items : Array Value} {vl vu vs : Value} {Q : Value → Shared → Prop} (ht : IsTup s.heap t items) (hs : s.heap.IsSliceOf sl vl vu vs) (pl : IsPart vl none) (pu : IsPart vu none) (ps : IsPart vs (some (-1)))
    (h : Q (.ref s.heap.objs.size) { s with heap := s.heap.push { cls := .type "tuple", data := .seq items.toList.reverse.toArray } })
    (hsz : items.size ≤ sizeLine) : wpAny (model prog w) A (getItem (.ref t) (.ref sl)) Q E s := by
  have htake : sizeOk (.seq items.toList.reverse.toArray) := by
    show items.toList.reverse.toArray.size ≤ sizeLine
    rw [List.size_toArray, List.length_reverse, Array.length_toList]
    omega
  obtain ⟨os, hos, hcs, hds⟩ := id hs
  have hTs : s.TypeIs (.ref sl) "slice" := ⟨os, hos, hcs⟩
  unfold getItem
  try with_reducible refine wpAny_holding ?_
  first | refine wpAny_bind (wpAny_pure ?_) | skip
  refine wpAny_bind (wpAny_sequenceKey ht.typeIs (by decide) ?_)
  refine wpAny_bind (wpAny_callSpecial?_slot (name := Str.ofString "__getitem__") ht.typeIs PyProof.Rows.slot_tuple_getitem
    (wpAny_call_entry PyProof.Rows.slot_tuple_getitem ht.typeIs entry_tuple_getitem ?_ (args_tuple_getitem _ _)))
  show wpAny _ _ (Builtin.Tuple.tupleItemsOf (.ref t) >>= _) _ _ s
  refine wpAny_bind (tupleItemsOf_ ht ?_)
  refine wpAny_bind (wpAny_typeOf hTs ?_)
  rw [if_pos (by decide)]
  refine wpAny_bind (applied_rev hs pl pu ps ?_)
  have hno : ¬ ((((items.size : Int) - 1) == 0 && (-1 : Int) == 1 && items.size == items.size) = true) := by
    intro q
    rw [Bool.and_eq_true, Bool.and_eq_true] at q
    exact absurd (eq_of_beq q.1.2) (by decide)
  show wpAny _ _ (if (((items.size : Int) - 1) == 0 && (-1 : Int) == 1 && items.size == items.size) = true then _ else _) _ _ s
  rw [if_neg hno, pick_rev]
  first
    | exact wpAny_bind (m := Builtin.Tuple.tupleExact _) (wpAny_newObj_type (wpAny_pure ⟨_, rfl, wpAny_pure h⟩) htake)
    | exact wpAny_bind (m := Builtin.Tuple.tupleExact _) (wpAny_newObj_type (wpAny_bind (wpAny_pure (wpAny_pure ⟨_, rfl, wpAny_pure h⟩))) htake)
    | exact wpAny_bind (wpAny_bind (m := Builtin.Tuple.tupleExact _) (wpAny_newObj_type (wpAny_pure (wpAny_pure ⟨_, rfl, wpAny_pure h⟩)) htake))
    | exact wpAny_bind (wpAny_bind (m := Builtin.Tuple.tupleExact _) (wpAny_newObj_type (wpAny_pure ⟨_, rfl, wpAny_pure h⟩) htake))
end
end HT
namespace L2
open PySem PySem.Spec PyProof.Rows
section
variable {X : Cx}
def tRevT (K : PySem.W.Frag) (te : TE) : TE := fun σ H Q => te σ H fun x H1 => ∃ a xs, x = .ref a ∧ SqT K H1 a xs ∧ ∀ p, H1 p = none → Q (.ref p) (upd H1 p (.tup xs.reverse))
theorem pe_revT {e : Expr} {te : TE} {k : Nat} {p1 p2 p3 pos : Pos} (he : PE X e te) : PE X (.Subscript e (.Slice none none (some (.UnaryOp .USub (.Constant (.int 1) k p1) p2)) p3) pos) (tRevT X.K te) := by
  refine ⟨fun pins s σ H Q I h => ?_⟩
  refine Subscript_ (thn (he.run pins s σ H _ I h) fun v s1 ⟨x, H1, I1, r1, q1⟩ => ?_)
  obtain ⟨a, xs, ex, hx, q⟩ := q1
  subst ex
  cases r1
  have hst : PO X (some (.UnaryOp .USub (.Constant (.int 1) k p1) p2)) (tPart (tUn (rU fun i => .int (-i)) (tC (.int 1)))) := po_some (pe_un un_neg pe_int)
  refine wpAny_Slice (thn (po_none.run pins s1 σ H1 (fun o H2 => o = none ∧ H2 = H1) I1 ⟨rfl, rfl⟩) fun vl s2 ⟨l, H2, I2, pl, el, e2⟩ => ?_)
  subst el e2
  refine thn (po_none.run pins s2 σ H2 (fun o H3 => o = none ∧ H3 = H2) I2 ⟨rfl, rfl⟩) fun vu s3 ⟨u, H3, I3, pu, eu, e3⟩ => ?_
  subst eu e3
  refine thn (hst.run pins s3 σ H3 (fun o H4 => o = some (-1) ∧ H4 = H3) I3 ⟨1, rfl, -1, rfl, rfl, rfl⟩) fun vs s4 ⟨o, H4, I4, ps, eo, e4⟩ => ?_
  subst eo e4
  have I5 : Inv X pins σ H4 { s4 with heap := s4.heap.push { cls := .type "slice", data := .fields #[vl, vu, vs] } } := I4.kept (t' := s4.toks) fun b ob q => Heap.get?_push_of_some _ q
  obtain ⟨its, r, ht, hz⟩ := I5.tuple hx
  have hlen := r.length
  show wpAny (model X.prog X.w) X.A (subscriptTail e (.Slice none none (some (.UnaryOp .USub (.Constant (.int 1) k p1) p2)) p3) (.ref a) (.ref s4.heap.objs.size)) (EP X pins σ Q) X.xe { s4 with heap := s4.heap.push { cls := .type "slice", data := .fields #[vl, vu, vs] } }
  refine tail_any (ops := [.ref a, .ref s4.heap.objs.size]) ht.typeIs (PyProof.Rows.slot_tuple_getitem.lookup) ?_ (by with_unfolding_all rfl)
  refine HT.getItem_tuple_rev ht (Heap.IsSliceOf.new _ vl vu vs) pl pu ps ?_ (by rw [List.size_toArray]; omega)
  refine ⟨.ref _, _, I5.laid (t' := s4.toks) (o := .tup xs.reverse) (fun b ob q => Heap.get?_push_of_some _ q) (Nat.le_refl _) ?_, rfl, q _ (I5.hok.fresh (Nat.le_refl _))⟩
  exact ⟨by rw [List.length_reverse]; exact hz, _, r.reverse, IsTup.new _ _⟩
end
end L2
namespace Ed
open PySem PySem.Spec PyProof.Rows L2 Dz
theorem v_iteT {c : Bool} {p r : Prop} (h2 : r) (h1 : c = true → r → p) : if c = true then p else r := by
  cases c with
  | true => exact h1 rfl h2
  | false => exact h2
theorem take_numB {x m k : Int} (h0 : 0 ≤ x) (h1 : x < 2147483647) (m0 : 0 ≤ m) (m1 : m ≤ 20000000) (k0 : 0 ≤ k) (k1 : k ≤ 1000000) : (x + m * k).natAbs < 2 ^ 64 := by
  have h2 : m * k ≤ 20000000 * 1000000 := Int.mul_le_mul m1 k1 k0 (by decide)
  have h3 : 0 ≤ m * k := Int.mul_nonneg m0 k0
  omega
def dRevT (a : DTE) : DTE := fun w ρ L q => a w ρ L fun x L1 => ∃ ds, x = .tup ds ∧ q (.tup ds.reverse) L1
theorem d_revT {X : Cx} {K : PySem.W.Frag} {a : Expr} {ta : WX → TE} {da : DTE} {pos : Pos} {k : Nat} {p1 p2 p3 : Pos} (hK : X.K = K) (ha : DE X K ta a da) : DE X K (fun W => tRevT K (ta W)) (.Subscript a (.Slice none none (some (.UnaryOp .USub (.Constant (.int 1) k p1) p2)) p3) pos) (dRevT da) := by
  subst hK
  refine ⟨fun W t => pe_revT (ha.pe W t), fun W ew S σ ρ Q q I R h => ?_⟩
  refine ha.sim W ew S σ ρ _ _ I (fun S1 v x e1 k1 r1 h1 => ?_) h
  obtain ⟨ds, rfl, h1⟩ := h1
  cases r1 with
  | @tup a xs _ n t r =>
    refine ⟨a, xs, rfl, .of t, fun p np => ?_⟩
    have e2 := ev_new (o := .tup xs.reverse) np k1
    exact R (S1.new p (.tup xs.reverse)) _ _ (e1.trans e2) (ok_new np k1) (.tup (k1.lam np) upd_same (r.reverse.ev e2)) h1
theorem v_revT {a : DTE} {w : EW} {ρ : Dv} {L : Lc} {q : DQ} (h : a w ρ L fun x L1 => ∃ ds, x = .tup ds ∧ q (.tup ds.reverse) L1) : dRevT a w ρ L q := h
theorem v_tup1 {ds : List D} {p : List D → Prop} (h : p ds) : ∃ es, D.tup ds = .tup es ∧ p es := ⟨ds, rfl, h⟩
end Ed

set_option Elab.async false
set_option linter.all false
set_option maxRecDepth 100000
set_option maxHeartbeats 2000000
/-! Lists of numbers, of texts; parts; bags beside other cells. -/
namespace Ed
open PySem PySem.Spec PyProof.Rows L2 Dz
section
variable {L M : Lc} {x : D} {q : DQ} {i : Int}
theorem v_ixI {ns : List Int} (h : vSeq L x = some (ns.map D.int)) (h0 : 0 ≤ i) (h1 : i < ns.length) (k : ∀ n, n ∈ ns → q (.int n) L) : ixD x (.int i) L q := by
  refine v_ixM h h0 (by rw [List.length_map]; exact h1) fun d hd => ?_
  obtain ⟨n, hn, rfl⟩ := List.mem_map.mp hd
  exact k n hn
theorem v_ixZ {zs : List Str} (h : vSeq L x = some (zs.map D.str)) (h0 : 0 ≤ i) (h1 : i < zs.length) (k : ∀ z, z ∈ zs → q (.str z) L) : ixD x (.int i) L q := by
  refine v_ixM h h0 (by rw [List.length_map]; exact h1) fun d hd => ?_
  obtain ⟨n, hn, rfl⟩ := List.mem_map.mp hd
  exact k n hn
theorem v_ixZE {zs : List Str} (h : vSeq L x = some (zs.map D.str)) (h0 : -(zs.length : Int) ≤ i) (h1 : i < zs.length) (k : ∀ z, z ∈ zs → q (.str z) L) : ixD x (.int i) L q := by
  refine v_ixE h (by rw [List.length_map]; exact h0) (by rw [List.length_map]; exact h1) fun d hd => ?_
  obtain ⟨n, hn, rfl⟩ := List.mem_map.mp hd
  exact k n hn
theorem Bag.put {p a : Addr} {c : Int} {y : Cell} (h : Bag M L p c) (n : a ≠ p) : Bag (updL M a y) (updL L a y) p c := by
  obtain ⟨⟨z, hz, b⟩, r⟩ := h
  refine ⟨⟨z, by rw [updL_ne (fun e => n e.symm)]; exact hz, b⟩, fun b hb => ?_⟩
  by_cases e : b = a
  · rw [e, updL_same, updL_same]
  · rw [updL_ne e, updL_ne e, r b hb]
theorem Bag.gone {p a : Addr} {c : Int} {y : Cell} (h : Bag (updL M a y) L p c) (hm : M a = none) (n : a ≠ p) : Bag M (delL L a) p c := by
  obtain ⟨⟨z, hz, b⟩, r⟩ := h
  refine ⟨⟨z, by rw [delL_ne (fun e => n e.symm)]; exact hz, b⟩, fun b hb => ?_⟩
  by_cases e : b = a
  · rw [e, delL_same, hm]
  · rw [delL_ne e, r b hb, updL_ne e]
theorem Bag.ne_new {p a : Addr} {c : Int} (h : Bag M L p c) (n : L a = none) : a ≠ p := fun e => by
  obtain ⟨⟨z, hz, _⟩, _⟩ := h
  rw [e, hz] at n; cases n
theorem delL_less {a : Addr} : ∀ b c, delL L a b = some c → L b = some c := fun b c h => by
  unfold delL at h
  split at h
  · cases h
  · exact h
theorem v_rtD {a : Addr} {q : DQ} (h : q x (delL L a)) : (dEnd q).rt x L := ⟨x, delL L a, .less delL_less, h⟩
end
section
variable {ds es : List D} {d : D} {B k n : Nat} {i : Int}
theorem cutD_take (h0 : 0 ≤ i) (h1 : i ≤ ds.length) : cutD ds none (some i) = ds.take i.toNat := by
  obtain ⟨m, rfl⟩ : ∃ m : Nat, i = m := ⟨i.toNat, (Int.toNat_of_nonneg h0).symm⟩
  unfold cutD
  rw [HT.sIx_nat, HT.sIx_none, List.drop_zero, Nat.sub_zero, Nat.min_eq_left (by omega)]
  rfl
theorem cutD_drop (h0 : 0 ≤ i) (h1 : i ≤ ds.length) : cutD ds (some i) none = ds.drop i.toNat := by
  obtain ⟨m, rfl⟩ : ∃ m : Nat, i = m := ⟨i.toNat, (Int.toNat_of_nonneg h0).symm⟩
  unfold cutD
  rw [HT.sIx_nat, HT.sIx_none, Nat.min_eq_left (by omega), List.take_of_length_le (by rw [List.length_drop]; omega)]
  rfl
theorem ths_of (h : ∀ d ∈ ds, Th d B k) (hl : ds.length ≤ n) : Ths ds ((B + 2) * n) k := (Ths.all h).more (Nat.mul_le_mul_left _ hl)
theorem th_all (h : (ds.all fun d => okD d && (Nat.ble (wtD d) B && Nat.ble (dpD d) k)) = true) : ∀ d ∈ ds, Th d B k := fun d hd => by
  have := List.all_eq_true.mp h d hd
  obtain ⟨h1, h2⟩ := Bool.and_eq_true_iff.mp this
  obtain ⟨h2, h3⟩ := Bool.and_eq_true_iff.mp h2
  exact ⟨h1, Nat.le_of_ble_eq_true h2, Nat.le_of_ble_eq_true h3⟩
theorem wt_split {m : Nat} (h : ds[m]? = some d) : wtDs ds = wtDs (ds.take m) + (wtD d + 2) + wtDs (ds.drop (m + 1)) := by
  have hm := (List.getElem?_eq_some_iff.mp h).1
  have e : ds = ds.take m ++ (d :: ds.drop (m + 1)) := by
    conv => lhs; rw [← List.take_append_drop m ds]
    rw [List.drop_eq_getElem_cons hm, (List.getElem?_eq_some_iff.mp h).2]
  conv => lhs; rw [e]
  rw [wtDs_app]
  simp only [wtDs]
  omega
theorem Ths.exact (h : Ths ds B k) : Ths ds (wtDs ds) k := ⟨h.ok, Nat.le_refl _, h.dp⟩
theorem Ths.take {m : Nat} (h : Ths ds B k) : Ths (ds.take m) (wtDs (ds.take m)) k := ⟨okDs_sub (List.take_sublist _ _) h.ok, Nat.le_refl _, Nat.le_trans (dpDs_sub (List.take_sublist _ _)) h.dp⟩
theorem Ths.drop {m : Nat} (h : Ths ds B k) : Ths (ds.drop m) (wtDs (ds.drop m)) k := ⟨okDs_sub (List.drop_sublist _ _) h.ok, Nat.le_refl _, Nat.le_trans (dpDs_sub (List.drop_sublist _ _)) h.dp⟩
theorem Ths.one (h : Th d B k) : Ths [d] (B + 2) k := (Ths.cons h .nil).more (by omega) (by omega)
end
theorem v_iteC {c : Bool} {p r : Prop} (H : Prop) (h2 : H → r) (h0 : c = false → H) (h1 : c = true → (H → r) → p) : if c = true then p else r := by
  cases c with
  | true => exact h1 rfl h2
  | false => exact h2 (h0 rfl)
/-- a name, or a word of a law -/
def As8 (z : Str) : Prop := Asc z ∧ z.length ≤ 8
theorem let_asc {z : Str} (h : LetS z) : Asc z := by
  have key : ∀ c ∈ LTR.cps.toList, c < 128 := by decide +kernel
  exact fun c hc => key c (h c hc)
theorem As8.th {z : Str} (h : As8 z) : Th (.str z) 82 0 := Th.strs h.1 h.2
theorem as8_of {zs : List Str} (h : (zs.all fun z => ascB z && Nat.ble z.length 8) = true) : ∀ z ∈ zs, As8 z := fun z hz => by
  have := List.all_eq_true.mp h z hz
  obtain ⟨h1, h2⟩ := Bool.and_eq_true_iff.mp this
  exact ⟨asc_of h1, Nat.le_of_ble_eq_true h2⟩
theorem map_keep {ds : List D} {f : D → D} : (ds.filter fun _ => true).map f = ds.map f := by rw [List.filter_eq_self.mpr (fun _ _ => rfl)]
theorem rng_map {n : Nat} {F : Int → Str} : ((List.range n).map fun i => D.int (i : Nat)).map (fun d => match d with | .int k => .str (F k) | _ => .non) = ((List.range n).map fun k : Nat => F (k : Int)).map D.str := by
  rw [List.map_map, List.map_map]; rfl
end Ed

set_option Elab.async false
set_option linter.all false
set_option maxRecDepth 100000
set_option maxHeartbeats 2000000
/-! Walks along dicts by texts or numbers, locked meanwhile. -/
namespace Ed
open PySem PySem.Spec PyProof.Rows L2 Dz
/-- an expression that only looks, and what it shows -/
structure VX (X : Cx) (K : PySem.W.Frag) (e : Expr) (te : WX → TE) (val : Dv → Lc → D → Prop) : Prop where
  pe : ∀ W, Takes X W → PE X e (te W)
  run : ∀ W S σ ρ d, Ok K S → RelS K S σ ρ → val ρ S.L d → ∃ v, Rp K S.H S.Λ v d ∧ (∀ Q : VK, Q v S.H → te W σ S.H Q) ∧ ∀ a o u, S.H a = some u → Dct u → ∀ Q : VK, Q v (upd S.H a (.frz o u)) → te W σ (upd S.H a (.frz o u)) Q
def vVar (i : Nat) : Dv → Lc → D → Prop := fun ρ _ d => ρ[i]? = some (some d)
def vFld (C : Addr) (g : Str) (v : Dv → Lc → D → Prop) : Dv → Lc → D → Prop := fun ρ L d => ∃ x fs, v ρ L x ∧ vIns L x = some (C, fs) ∧ fs.lookup g = some d
section
variable {X : Cx} {K : PySem.W.Frag} {o e : Expr} {te : WX → TE} {val : Dv → Lc → D → Prop} {pos : Pos} {C : Addr}
theorem vx_var (i : Nat) {x : Str} (hN : X.N[i]? = some x := by rfl) (hv : Vis X.env.scope x := by first | exact Or.inl rfl | exact Or.inr (Or.inl rfl) | exact Or.inr (Or.inr rfl)) (hd : (x == ("__debug__" : Str)) = false := by decide) (hcd : (x == ("__classdict__" : Str)) = false := by decide) :
    VX X K (.Name x pos) (fun _ => tVar i) (vVar i) := by
  refine ⟨fun W _ => pe_var hN hv hd hcd, fun W S σ ρ d k s h => ?_⟩
  obtain ⟨v, h1, h2⟩ := s.at_ i d h
  exact ⟨v, h2, fun Q q => ⟨v, h1, q⟩, fun a o u _ _ Q q => ⟨v, h1, q⟩⟩
theorem vx_fld {g : Str} (hK : X.K = K) (c : Cls K C) (hn : NoAttr K C g) (ho : VX X K o te val) (hb : attributeBase o g X.env (eval o X.env) = eval o X.env := by rfl) : VX X K (.Attribute o g pos) (fun W => tFld K (te W) g) (vFld C g val) := by
  subst hK
  refine ⟨fun W t => pe_fld (ho.pe W t) hb, fun W S σ ρ d k s h => ?_⟩
  obtain ⟨x, fs, h1, h2, h3⟩ := h
  obtain ⟨w, rw', q1, q2⟩ := ho.run W S σ ρ x k s h1
  obtain ⟨a, dx, gs, rfl, h4, h5⟩ := vIns_ok k rw' h2
  rcases h5.lookup g with ⟨z, _⟩ | ⟨d', v, z, z2, rv⟩
  · rw [h3] at z; cases z
  · rw [h3] at z
    cases z
    refine ⟨v, rv, fun Q q => q1 _ ⟨a, C, dx, gs, v, rfl, h4, c, hn, z2, q⟩, fun b o u hb du Q q => q2 b o u hb du _ ⟨a, C, dx, gs, v, rfl, ?_, c, hn, z2, q⟩⟩
    have : a ≠ b := fun z => by
      rw [← z, h4] at hb
      cases hb
      exact du
    rw [upd_ne this]; exact h4
end
def kOf : Key → D
  | .inl i => .int i
  | .inr x => .str x
theorem rp_key {K : PySem.W.Frag} {H : Hp} {Λ : Addr → Prop} : ∀ k : Key, Rp K H Λ (kV k) (kOf k)
  | .inl i => .int i
  | .inr x => .str x
theorem at_keys {K : PySem.W.Frag} {S : Sta} {ks : List (Key × V)} {es : List (Key × D)} {i : Nat} {k : Key} {v : V} (h1 : ks.map (·.1) = es.map (·.1)) (h2 : RpL K S.H S.Λ (ks.map (·.2)) (es.map (·.2))) (h : ks[i]? = some (k, v)) : ∃ d, es[i]? = some (k, d) ∧ Rp K S.H S.Λ v d := by
  have e1 := congrArg (fun l => l[i]?) h1
  simp only [List.getElem?_map, h] at e1
  cases he : es[i]? with
  | none => rw [he] at e1; cases e1
  | some kd =>
    obtain ⟨k', d⟩ := kd
    rw [he] at e1
    cases e1
    obtain ⟨v', hv', r⟩ := h2.get (i := i) (d := d) (by rw [List.getElem?_map, he]; rfl)
    rw [List.getElem?_map, h] at hv'
    cases hv'
    exact ⟨d, rfl, r⟩
/-- a way to walk a locked dict -/
structure KI (K : PySem.W.Frag) (wi : TE → TI) (f : List (Key × D) → List D) (J : Addr → Obj → List (Key × V) → It) : Prop where
  go_ : ∀ (td : TE) σ H (R : It → Hp → Prop) d o ks, (∀ Q : VK, Q (.ref d) H → td σ H Q) → H d = some (.frz o (.dK ks)) → R (J d o ks) H → wi td σ H R
  it : ∀ S d o ks es, S.H d = some (.frz o (.dK ks)) → ¬ S.Λ d → ks.map (·.1) = es.map (·.1) → RpL K S.H S.Λ (ks.map (·.2)) (es.map (·.2)) → ItOk K S (J d o ks) (f es) (fun _ => True)
section
variable {K : PySem.W.Frag}
theorem len_keys {ks : List (Key × V)} {es : List (Key × D)} (h1 : ks.map (·.1) = es.map (·.1)) : ks.length = es.length := by simpa using congrArg List.length h1
theorem ki_keys : KI K iKeys (fun es => es.map fun kv => kOf kv.1) Itk := by
  refine ⟨fun td σ H R d o ks q h r => q _ ⟨d, o, rfl, .inl ⟨ks, h, r⟩⟩, fun S d o ks es h n h1 h2 => ⟨fun H => H d = some (.frz o (.dK ks)), fun i H x H' => H' = H ∧ ∃ k v, ks[i]? = some (k, v) ∧ x = kV k, ⟨fun i H hi g => ⟨g, by rw [len_keys h1]; simpa using hi⟩, fun H g => ⟨g, by rw [len_keys h1]; simp⟩, fun i H x H' _ _ y => y⟩, fun S' e k _ => (e.lk h n).2, fun S' i x H' e k _ hi y => ?_⟩⟩
  obtain ⟨rfl, kk, v, hk, rfl⟩ := y
  obtain ⟨d', hd, _⟩ := at_keys h1 h2 hk
  exact ⟨S', kOf kk, rfl, rfl, .refl _, k, by rw [List.getElem?_map, hd]; rfl, rp_key kk⟩
theorem ki_vals : KI K iVals (fun es => es.map (·.2)) Itd := by
  refine ⟨fun td σ H R d o ks q h r => q _ ⟨d, o, ks, rfl, h, r⟩, fun S d o ks es h n h1 h2 => ⟨fun H => H d = some (.frz o (.dK ks)), fun i H x H' => H' = H ∧ ∃ k, ks[i]? = some (k, x), ⟨fun i H hi g => ⟨g, by rw [len_keys h1]; simpa using hi⟩, fun H g => ⟨g, by rw [len_keys h1]; simp⟩, fun i H x H' _ _ y => y⟩, fun S' e k _ => (e.lk h n).2, fun S' i x H' e k _ hi y => ?_⟩⟩
  obtain ⟨rfl, kk, hk⟩ := y
  obtain ⟨d', hd, r⟩ := at_keys h1 h2 hk
  exact ⟨S', d', rfl, rfl, .refl _, k, by rw [List.getElem?_map, hd]; rfl, r.ev e⟩
theorem ki_items : KI K iItems (fun es => es.map fun kv => .tup [kOf kv.1, kv.2]) Iti := by
  refine ⟨fun td σ H R d o ks q h r => q _ ⟨d, o, ks, rfl, h, r⟩, fun S d o ks es h n h1 h2 => ⟨fun H => H d = some (.frz o (.dK ks)), fun i H x H' => ∃ T k v, ks[i]? = some (k, v) ∧ x = .ref T ∧ H T = none ∧ H' = upd H T (.tup [kV k, v]), ⟨fun i H hi g => ⟨g, by rw [len_keys h1]; simpa using hi⟩, fun H g => ⟨g, by rw [len_keys h1]; simp⟩, fun i H x H' _ _ y => y⟩, fun S' e k _ => (e.lk h n).2, fun S' i x H' e k _ hi y => ?_⟩⟩
  obtain ⟨T, kk, v, hk, rfl, hT, rfl⟩ := y
  obtain ⟨d', hd, r⟩ := at_keys h1 h2 hk
  have e2 := ev_new (o := .tup [kV kk, v]) hT k
  exact ⟨S'.new T (.tup [kV kk, v]), _, rfl, rfl, e2, ok_new hT k, by rw [List.getElem?_map, hd]; rfl, .tup (k.lam hT) upd_same (.cons (rp_key kk) (.cons ((r.ev e).ev e2) .nil))⟩
end
/-! ### the lock -/
def Sta.lk (S : Sta) (a : Addr) (u : HO) : Sta := ⟨upd S.H a u, S.L, S.Λ⟩
theorem CellOk.ew {K : PySem.W.Frag} {S S' : Sta} {a : Addr} {c : Cell} (h : CellOk K S.H S.Λ a c) (e : Ew S S') (q : S'.H a = S.H a) : CellOk K S'.H S'.Λ a c := by
  cases c with
  | lst ds =>
    obtain ⟨xs, h1, r⟩ := h
    exact ⟨xs, q.trans h1, r.ew e⟩
  | dK es =>
    obtain ⟨ks, h1, k, r⟩ := h
    exact ⟨ks, q.trans h1, k, r.ew e⟩
  | dT es =>
    obtain ⟨ks, h1, k, r⟩ := h
    exact ⟨ks, q.trans h1, k, r.ew e⟩
  | ins C es =>
    obtain ⟨dx, ks, h1, k, r⟩ := h
    exact ⟨dx, ks, q.trans h1, k, r.ew e⟩
section
variable {K : PySem.W.Frag} {S S' : Sta} {a : Addr} {o : Obj} {u : HO}
theorem ok_lk {w : HO} (k : Ok K S) (n : ¬ S.Λ a) (e : Ew S (S.lk a w)) : Ok K (S.lk a w) := by
  refine ⟨fun b c h => ?_, fun b h => ?_⟩
  · obtain ⟨h1, h2⟩ := k.cell b c h
    exact ⟨h1, h2.ew e (upd_ne fun z => n (by rw [← z]; exact h1))⟩
  · show ∃ u, upd S.H a w b = some u ∧ NT u
    rw [upd_ne fun z => n (by rw [← z]; exact h)]
    exact k.there b h
theorem ev_lk (h : S.H a = some u) (du : Dct u) (n : ¬ S.Λ a) : Ev S (S.lk a (.frz o u)) := by
  refine ⟨fun b v hb nb => ⟨nb, ?_⟩, fun b hb nb => ⟨upd_ne fun z => n (by rw [← z]; exact hb), hb, nb⟩⟩
  by_cases z : b = a
  · subst z
    rw [h] at hb
    cases hb
    exact ⟨.frz o u, upd_same, .inr ⟨o, du, rfl⟩⟩
  · exact ⟨v, by show upd S.H a _ b = _; rw [upd_ne z]; exact hb, .refl v⟩
theorem ew_un (h : S'.H a = some (.frz o u)) (du : Dct u) : Ew S' (S'.lk a u) := fun b v hb nb => by
  refine ⟨nb, ?_⟩
  by_cases z : b = a
  · subst z
    rw [h] at hb
    cases hb
    exact ⟨u, upd_same, .inr ⟨u, du, .inr ⟨o, rfl⟩, .inl rfl⟩⟩
  · exact ⟨v, by show upd S'.H a _ b = _; rw [upd_ne z]; exact hb, .inl rfl⟩
theorem ev_un (h : S.H a = some u) (du : Dct u) (n : ¬ S.Λ a) (e : Ev (S.lk a (.frz o u)) S') : Ev S (S'.lk a u) := by
  refine ⟨fun b v hb nb => ?_, fun b hb nb => ?_⟩
  · by_cases z : b = a
    · subst z
      rw [h] at hb
      cases hb
      exact ⟨(e.lk (a := b) (o := o) (u := u) upd_same n).1, u, upd_same, .refl u⟩
    · obtain ⟨h1, v', h2, g⟩ := e.stay b v (by show upd S.H a _ b = _; rw [upd_ne z]; exact hb) nb
      exact ⟨h1, v', by show upd S'.H a _ b = _; rw [upd_ne z]; exact h2, g⟩
  · have z : b ≠ a := fun z => n (by rw [← z]; exact hb)
    obtain ⟨h1, h2, h3⟩ := e.hid b hb nb
    refine ⟨?_, h2, h3⟩
    show upd S'.H a _ b = _
    rw [upd_ne z, h1]
    exact upd_ne z
theorem RelS.ew {σ : L2.St} {ρ : Dv} (h : RelS K S σ ρ) (e : Ew S S') : RelS K S' σ ρ := ⟨h.len, fun i d q => let ⟨v, h1, h2⟩ := h.at_ i d q; ⟨v, h1, h2.ew e⟩⟩
end
theorem ps_or2 {X : Cx} {st : Stmt} {t u : TS} (h : PS X st t) (g : PS X st u) : PS X st (fun D σ H => t D σ H ∨ u D σ H) := ⟨fun pins s σ H D I q => q.elim (h.run pins s σ H D I) (g.run pins s σ H D I)⟩
theorem pe_or2 {X : Cx} {e : Expr} {t u : TE} (h : PE X e t) (g : PE X e u) : PE X e (fun σ H Q => t σ H Q ∨ u σ H Q) := ⟨fun pins s σ H Q I q => q.elim (h.run pins s σ H Q I) (g.run pins s σ H Q I)⟩
section
variable {X : Cx} {K : PySem.W.Frag} {tge iter elt : Expr} {te : WX → TE} {val : Dv → Lc → D → Prop} {wi : TE → TI} {f : List (Key × D) → List D} {J : Addr → Obj → List (Key × V) → It} {tg : WX → TG} {dg : DTG} {tb : WX → TS} {db : DTS} {body : List Stmt} {pos spos : Pos}
theorem ki_sim (ki : KI K wi f J) {W : WX} {ew : EW} {S : Sta} {σ : L2.St} {ρ : Dv} {a : Addr} {o : Obj} {ks : List (Key × V)} {es : List (Key × D)} (k : Ok K S) (hv : ∀ Q : VK, Q (.ref a) S.H → te W σ S.H Q) (h : S.H a = some (.frz o (.dK ks))) (n : ¬ S.Λ a) (h1 : ks.map (·.1) = es.map (·.1)) (h2 : RpL K S.H S.Λ (ks.map (·.2)) (es.map (·.2))) :
    SimI1 K (fun W => wi (te W)) (fun _ _ L k => k (f es) (fun _ => True) L) W ew S σ ρ := fun R kk hR hk =>
  ki.go_ _ _ _ R a o ks hv h (hR S _ _ _ (.refl S) k (ki.it S a o ks es h n h1 h2) hk)
/-- for .. in a dict -/
def dForD (val : Dv → Lc → D → Prop) (f : List (Key × D) → List D) (g : DTG) (tb : DTS) : DTS := fun w D ρ L => ∃ es, val ρ L (.dK es) ∧ forD (g w) (tb w) (fun _ => True) D (f es) ρ L
theorem ds_forD (hp : PassesOwn (model X.prog X.w) X.A X.env X.xe) (hc : X.calm = true) (ki : KI K wi f J) (vx : VX X K iter te val) {iter' : Expr} (hpi : ∀ W, Takes X W → PI X tge iter' (wi (te W))) (hg : DG X K tg tge dg) (hb : DSs X K tb body db)
    (hs : ∀ x, foldedSetIterable iter' X.env x = pure x := by intro _; rfl) : DS X K (fun W D σ H => tLock (tFor (wi (te W)) (tg W) (tb W)) D σ H ∨ tFor (wi (te W)) (tg W) (tb W) D σ H) (.For tge iter' body [] pos) (dForD val f dg db) := by
  refine ⟨fun W t => ps_or2 (ps_lock (ps_for hp hc (hpi W t) (hg.pg W t) (hb.ps W t) hs)) (ps_for hp hc (hpi W t) (hg.pg W t) (hb.ps W t) hs), fun W ew S σ ρ D d I R h => ?_⟩
  obtain ⟨es, hv, h⟩ := h
  obtain ⟨v, rv, q1, q2⟩ := vx.run W S σ ρ _ I.ok I.sl hv
  cases rv with
  | @dK a ks _ n h1 h2 h3 =>
  rcases h1 with h1 | ⟨o, h1⟩
  · left
    refine ⟨a, .dK ks, h1, trivial, fun od => ?_⟩
    have e01 : Ev S (S.lk a (.frz od (.dK ks))) := ev_lk h1 trivial n
    have k1 := ok_lk (w := .frz od (.dK ks)) I.ok n e01.w
    have un : ∀ S', Ev (S.lk a (.frz od (.dK ks))) S' → Ok K S' → S'.H a = some (.frz od (.dK ks)) ∧ Ev S (S'.lk a (.dK ks)) ∧ Ok K (S'.lk a (.dK ks)) ∧ Ew S' (S'.lk a (.dK ks)) := fun S' e k => by
      obtain ⟨n', h'⟩ := e.lk (a := a) (o := od) (u := .dK ks) upd_same n
      exact ⟨h', ev_un h1 trivial n e, ok_lk k n' (ew_un h' trivial), ew_un h' trivial⟩
    refine for_sim1 hg.sim hb.sim W ew (S.lk a (.frz od (.dK ks))) σ ρ _ d (I.ev e01 k1) ⟨fun S' σ' ρ' e k s hh => ?_, fun S' v' d' e k r hh => ?_, fun S' σ' ρ' e k s hh => ?_, fun S' σ' ρ' e k s hh => ?_⟩ (ki_sim ki k1 (q2 a od _ h1 trivial) upd_same n h2 (h3.ev e01)) h
    · obtain ⟨u1, u2, u3, u4⟩ := un S' e k
      exact ⟨u1, R.nx (S'.lk a (.dK ks)) σ' ρ' u2 u3 (s.ew u4) hh⟩
    · obtain ⟨u1, u2, u3, u4⟩ := un S' e k
      exact ⟨u1, R.rt (S'.lk a (.dK ks)) v' d' u2 u3 (r.ew u4) hh⟩
    · obtain ⟨u1, u2, u3, u4⟩ := un S' e k
      exact ⟨u1, R.bk (S'.lk a (.dK ks)) σ' ρ' u2 u3 (s.ew u4) hh⟩
    · obtain ⟨u1, u2, u3, u4⟩ := un S' e k
      exact ⟨u1, R.ct (S'.lk a (.dK ks)) σ' ρ' u2 u3 (s.ew u4) hh⟩
  · right
    exact for_sim1 hg.sim hb.sim W ew S σ ρ D d I R (ki_sim ki I.ok q1 h1 n h2 h3) h
theorem v_forD {w : EW} {D0 : DEnds} {ρ : Dv} {L : Lc} {g : DTG} {t : DTS} {es : List (Key × D)} (hv : val ρ L (.dK es)) (h : forD (g w) (t w) (fun _ => True) D0 (f es) ρ L) : dForD val f g t w D0 ρ L := ⟨es, hv, h⟩
variable {ifs : List Expr} {scope : Scope} {own : List (Str × Nat)} {tt : WX → TT} {dt : DTT} {tl : WX → TE} {de : DTE}
/-- a comprehension over a dict -/
def dLcD (val : Dv → Lc → D → Prop) (f : List (Key × D) → List D) (g : DTG) (tt : DTT) (te : DTE) (vs : List Nat) : DTE := fun w ρ L q => ∃ es, val ρ L (.dK es) ∧ dLc (fun _ _ L k => k (f es) (fun _ => True) L) g tt te vs w ρ L q
theorem d_lcD (hc : X.calm = true) (hN : X.N.Nodup) (ki : KI K wi f J) (vx : VX X K iter te val) {iter' : Expr} (hpi : ∀ W, Takes X W → PI X tge iter' (wi (te W))) (ok : BlkOk X.N X.env.scope scope own) (hg : Blk X scope fun Y => DG Y K tg tge dg) (hw : GW tg (own.map (·.2))) (ht : Blk X scope fun Y => DPs Y K tt ifs dt) (he : Blk X scope fun Y => DE Y K tl elt de)
    (hs : ∀ x, foldedSetIterable iter' X.env x = pure x := by intro _; rfl) :
    DE X K (fun W σ H Q => tLockE (tLc (wi (te W)) (tg fun _ _ _ _ => False) (tt fun _ _ _ _ => False) (tl fun _ _ _ _ => False) (own.map (·.2))) σ H Q ∨ tLc (wi (te W)) (tg fun _ _ _ _ => False) (tt fun _ _ _ _ => False) (tl fun _ _ _ _ => False) (own.map (·.2)) σ H Q)
      (.ListComp elt [⟨tge, iter', ifs, 0⟩] scope pos) (dLcD val f dg dt de (own.map (·.2))) := by
  have pl : ∀ W, Takes X W → PE X (.ListComp elt [⟨tge, iter', ifs, 0⟩] scope pos) (tLc (wi (te W)) (tg fun _ _ _ _ => False) (tt fun _ _ _ _ => False) (tl fun _ _ _ _ => False) (own.map (·.2))) := fun W t =>
    pe_lc hc hN (hpi W t) ok (fun s H C cl fp => (hg s H C cl fp).pg _ takes0) (fun s H C cl fp => (ht s H C cl fp).pt _ takes0) (fun s H C cl fp => (he s H C cl fp).pe _ takes0) hs
  refine ⟨fun W t => pe_or2 (pe_lock (pl W t)) (pl W t), fun W ew S σ ρ Q q I R h => ?_⟩
  obtain ⟨es, hv, h⟩ := h
  obtain ⟨v, rv, q1, q2⟩ := vx.run W S σ ρ _ I.ok I.sl hv
  have sg := (hg {} (fun _ => none) 0 [] []).sim
  have st := (ht {} (fun _ => none) 0 [] []).sim
  have se := (he {} (fun _ => none) 0 [] []).sim
  cases rv with
  | @dK a ks _ n h1 h2 h3 =>
  rcases h1 with h1 | ⟨o, h1⟩
  · left
    refine ⟨a, .dK ks, h1, trivial, fun od => ?_⟩
    have e01 : Ev S (S.lk a (.frz od (.dK ks))) := ev_lk h1 trivial n
    have k1 := ok_lk (w := .frz od (.dK ks)) I.ok n e01.w
    refine sim_lc1 sg hw st se W ew (S.lk a (.frz od (.dK ks))) σ ρ _ q (I.ev e01 k1) (fun S' v' d' e k r hh => ?_) (ki_sim ki k1 (q2 a od _ h1 trivial) upd_same n h2 (h3.ev e01)) h
    obtain ⟨n', h'⟩ := e.lk (a := a) (o := od) (u := .dK ks) upd_same n
    exact ⟨h', R (S'.lk a (.dK ks)) v' d' (ev_un h1 trivial n e) (ok_lk k n' (ew_un h' trivial)) (r.ew (ew_un h' trivial)) hh⟩
  · right
    exact sim_lc1 sg hw st se W ew S σ ρ Q q I R (ki_sim ki I.ok q1 h1 n h2 h3) h
theorem v_lcD {w : EW} {ρ : Dv} {L : Lc} {q : DQ} {g : DTG} {vs : List Nat} {es : List (Key × D)} (hv : val ρ L (.dK es)) (h : lcD (g noW) (dt noW) (de noW) (fun _ => True) (dwipe ρ vs) (fun acc L2 => q (.lst acc) L2) (f es) [] L) : dLcD val f g dt de vs w ρ L q := ⟨es, hv, h⟩
end
end Ed

set_option Elab.async false
set_option linter.all false
set_option maxRecDepth 100000
set_option maxHeartbeats 2000000
/-! list.count of data. -/
namespace Ed
open PySem PySem.Spec PyProof.Rows L2 Dz
def rCountD (K : PySem.W.Frag) : V → List V → Hp → VK → Prop := fun x xs H Q => ∃ (a : Addr) (y : V) (d : PyData) (ds : List PyData), x = V.ref a ∧ xs = [y] ∧ Dp K H (V.ref a) (.list ds) ∧ Dp K H y d ∧
  SeqAt.shaped (.list ds) = true ∧ SeqAt.shaped d = true ∧ Q (.int ((ds.countP fun z => PyData.eqv z d : Nat))) H
theorem mt_countD {X : Cx} {K : PySem.W.Frag} (hK : X.K = K) (hu : X.A.units + 65 < cLine) : MtR X "list.count" (rCountD K) := by
  subst hK
  intro pins s σ H x xs v us Q I rx rxs h
  obtain ⟨a, y, d, ds, rfl, rfl, hl, hy, sl, sd, q⟩ := h
  cases rx
  cases rxs with
  | cons ry rt =>
    rename_i uy ut
    cases rt
    obtain ⟨bs, r1⟩ := Dp.reads I d y uy hy ry
    have hxs : PyData.canLayAll0 ds = true := SeqAt.canLay_of_shaped sl
    have hroom : X.A.units + 1 + min (PyData.depthAll ds) d.depth < cLine := room_in_shaped sd hu
    cases hl with
    | lst hs ha =>
      obtain ⟨its, rv, ⟨⟨cls, dd, data, sls⟩, n, ho, hc, hdn, hdt⟩, hlen⟩ := I.list hs
      simp only at hc hdt
      subst hc hdt
      obtain ⟨as, h4⟩ := Dp.readsAll I ds _ its ha rv
      have hmap : its.map (SeqAt.readOf s.heap) = ds := SeqAt.readsAll_map ds its as hxs h4
      refine call_meets PySem.F.slot_list_count ⟨_, ho, rfl⟩ PySem.F.entry_list_count (PySem.F.args_list_count_2 _ _)
        (SeqAt.list_countAt a its.toArray n dd sls uy (fun u => PyData.eqv (SeqAt.readOf s.heap u) d)) ⟨ho, SeqAt.items_eqAt (vs := its.toArray) (show ReadsAll s.heap its.toArray.toList ds as from h4) r1 hxs (SeqAt.canLay_of_shaped sd) hroom, ?_⟩
      have ec : its.toArray.toList.countP (fun u => PyData.eqv (SeqAt.readOf s.heap u) d) = ds.countP fun z => PyData.eqv z d := by
        rw [← hmap, List.countP_map]; rfl
      refine ⟨.int ((ds.countP fun z => PyData.eqv z d : Nat)), H, I.tok _, ⟨s.toks, ?_⟩, q⟩
      show Value.int ((its.toArray.toList.countP (fun u => PyData.eqv (SeqAt.readOf s.heap u) d) : Nat) : Int) s.toks = Value.int ((ds.countP fun z => PyData.eqv z d : Nat) : Int) s.toks
      rw [ec]
def countD : DRM := fun x xs L q => ∃ ds y d ps, vLst L x = some ds ∧ xs = [y] ∧ PyRL L ds ps ∧ PyR L y d ∧ SeqAt.shaped (.list ps) = true ∧ SeqAt.shaped d = true ∧ q (.int ((ps.countP fun z => PyData.eqv z d : Nat))) L
theorem sim_countD {K : PySem.W.Frag} : SimRM K "list" (rCountD K) countD := by
  rintro S S2 x a xs as Q q e k k2 r rs R ⟨ds, y, d, ps, h1, rfl, h2, h3, h4, h5, h⟩
  obtain ⟨w, rfl, rw'⟩ := vals1R rs
  have r2 := r.ev e
  obtain ⟨b, zs, rfl, h6, h7⟩ := vLst_ok k2 r2 h1
  exact ⟨b, w, d, ps, rfl, rfl, .lst (.of h6) (PyRL.dp k2 h2 h7), h3.dp k2 rw', h4, h5, R S2 _ _ (.refl S2) k2 (.int _) h⟩
theorem v_get2 {o y u : DTE} {w : EW} {ρ : Dv} {L : Lc} {q : DQ} (h : o w ρ L fun x L1 => isDD L1 x ∧ y w ρ L1 fun z L2 => u w ρ L2 fun d L3 => ∃ r, DGetD L3 x z r ∧ q (r.getD d) L3) : dGet2 o y u w ρ L q := h
end Ed

set_option Elab.async false
set_option linter.all false
set_option maxRecDepth 100000
set_option maxHeartbeats 2000000
/-! Walks along a list or a tuple; dicts' puts; texts told apart in lists. -/
namespace Ed
open PySem PySem.Spec PyProof.Rows L2 Dz
section
variable {X : Cx} {K : PySem.W.Frag} {tge a : Expr} {ta : WX → TE} {da : DTE} {wi wj : WX → TI} {di dj : DTI}
def diAny (a : DTE) : DTI := fun w ρ L k => diSeq a w ρ L k ∨ diTup a w ρ L k
theorem DI.or (h : DI X K wi tge a di) (g : DI X K wj tge a dj) : DI X K (fun W σ H R => wi W σ H R ∨ wj W σ H R) tge a (fun w ρ L k => di w ρ L k ∨ dj w ρ L k) := by
  refine ⟨fun W t => ⟨fun pins s σ H R I q => ?_⟩, fun W ew S σ ρ R k I RR q => ?_⟩
  · rcases q with q | q
    · exact (h.pi W t).run pins s σ H R I q
    · exact (g.pi W t).run pins s σ H R I q
  · rcases q with q | q
    · exact .inl (h.sim W ew S σ ρ R k I RR q)
    · exact .inr (g.sim W ew S σ ρ R k I RR q)
theorem di_any (hK : X.K = K) (ha : DE X K ta a da) : DI X K (fun W σ H R => iList K (ta W) σ H R ∨ iTup K (ta W) σ H R) tge a (diAny da) := (di_seq hK ha).or (di_tup hK ha)
end
section
variable {L : Lc} {x y : D} {q : DQ} {w : EW} {ρ : Dv} {da : DTE}
def isSeq : D → Bool
  | .lst _ => true
  | .tup _ => true
  | _ => false
theorem seq_of (h : isSeq x = true) : ∃ ds, x = .lst ds ∨ x = .tup ds := by
  cases x <;> first | exact ⟨_, .inl rfl⟩ | exact ⟨_, .inr rfl⟩ | cases h
theorem v_isi2 (ok : okD x = true) (hq : q (.bl (isSeq x)) L) : isi2D [x, .tup [.ty "list", .ty "tuple"]] L q := by
  cases x with
  | non => exact ⟨_, _, _, "NoneType", false, false, rfl, rfl, by decide +kernel, by decide +kernel, hq⟩
  | bl b => exact ⟨_, _, _, "bool", false, false, rfl, rfl, by decide +kernel, by decide +kernel, hq⟩
  | int b => exact ⟨_, _, _, "int", false, false, rfl, rfl, by decide +kernel, by decide +kernel, hq⟩
  | str b => exact ⟨_, _, _, "str", false, false, rfl, rfl, by decide +kernel, by decide +kernel, hq⟩
  | lst ds => exact ⟨_, _, _, "list", true, false, rfl, rfl, by decide +kernel, by decide +kernel, hq⟩
  | tup ds => exact ⟨_, _, _, "tuple", false, true, rfl, rfl, by decide +kernel, by decide +kernel, hq⟩
  | dK es => exact ⟨_, _, _, "dict", false, false, rfl, rfl, by decide +kernel, by decide +kernel, hq⟩
  | _ => rw [okD.eq_def] at ok; cases ok
/-- a list or a tuple of so many things -/
def lenB (x : D) (lo hi : Int) : Bool := match x with
  | .lst ds => decide (lo ≤ (ds.length : Int)) && decide ((ds.length : Int) ≤ hi)
  | .tup ds => decide (lo ≤ (ds.length : Int)) && decide ((ds.length : Int) ≤ hi)
  | _ => false
theorem len_no {lo hi : Int} (h : isSeq x = false) : lenB x lo hi = false := by cases x <;> first | rfl | cases h
theorem any_mem {z : Str} {zs : List Str} : (zs.any fun y => decide (y = z)) = decide (z ∈ zs) := by
  induction zs with
  | nil => rfl
  | cons y zs ih =>
    rw [List.any_cons, ih]
    by_cases h : y = z
    · rw [decide_eq_true h, Bool.true_or]; exact (decide_eq_true (by rw [h]; exact List.mem_cons_self)).symm
    · rw [decide_eq_false h, Bool.false_or]
      by_cases g : z ∈ zs
      · rw [decide_eq_true g]; exact (decide_eq_true (List.mem_cons_of_mem _ g)).symm
      · rw [decide_eq_false g]
        exact (decide_eq_false fun e => by
          rcases List.mem_cons.mp e with e | e
          · exact h e.symm
          · exact g e).symm
theorem inV_mem {z : Str} {zs : List Str} : inV (.str z) (zs.map V.str) = decide (z ∈ zs) := by
  rw [inV_strs (fun y => decide (y = z)) (fun y => by
    show (y == z) = _
    by_cases e : y = z
    · rw [decide_eq_true e, e]; simp
    · rw [decide_eq_false e]; exact beq_eq_false_iff_ne.mpr e), any_mem]
theorem v_ninZ {z : Str} {zs : List Str} (hv : vSeq L y = some (zs.map .str)) (hq : q (.bl (!decide (z ∈ zs))) L) : inD true (.str z) y L q :=
  .inl ⟨_, .str z, _, hv, rfl, scA_strs, by
    show q (.bl (if true = true then !inV _ _ else _)) L
    rw [if_pos rfl, inV_mem]; exact hq⟩
theorem v_inZ {z : Str} {zs : List Str} (hv : vSeq L y = some (zs.map .str)) (hq : q (.bl (decide (z ∈ zs))) L) : inD false (.str z) y L q :=
  .inl ⟨_, .str z, _, hv, rfl, scA_strs, by
    show q (.bl (if false = true then _ else inV _ _)) L
    rw [if_neg (by decide), inV_mem]; exact hq⟩
theorem isS_any {z : Str} {zs : List Str} : (zs.any fun y => isS y (.str z)) = decide (z ∈ zs) := by
  rw [← any_mem]
  congr 1
  funext y
  show decide (z = y) = decide (y = z)
  by_cases e : y = z
  · rw [decide_eq_true e, decide_eq_true e.symm]
  · rw [decide_eq_false e, decide_eq_false fun z => e z.symm]
theorem v_popAt {a : Addr} {ds : List D} {i : Int} (h : L a = some (.lst ds)) (h0 : 0 ≤ i) (h1 : i < ds.length) (hs : ds.length ≤ 1000000) (k : ∀ d, d ∈ ds → q d (updL L a (.lst (ds.eraseIdx i.toNat)))) : popAtD (.ref a) [.int i] L q := by
  have hi : i.toNat < ds.length := by omega
  refine ⟨a, ds, i, i.toNat, ds[i.toNat], rfl, rfl, h, by omega, by omega, ?_, List.getElem?_eq_getElem hi, k _ (List.getElem_mem hi)⟩
  unfold seqIndex?
  have e : (if i < 0 then i + (ds.length : Int) else i) = i := if_neg (by omega)
  rw [e]
  simp [h0, h1]
theorem v_app {a : Addr} {ds : List D} {d : D} (h : L a = some (.lst ds)) (hl : ds.length < 1000) (k : q .non (updL L a (.lst (ds ++ [d])))) : appendD (.ref a) [d] L q :=
  ⟨a, ds, d, rfl, rfl, h, Nat.lt_of_lt_of_le hl (sz_lt (Nat.le_refl _)), k⟩
theorem v_modG {i j : Int} (hj : 0 < j) (h : ∀ r, 0 ≤ r → r < j → q (.int r) L) : modD (.int i) (.int j) L q := v_mod hj (h _ (Int.emod_nonneg _ (by omega)) (Int.emod_lt_of_pos _ hj))
theorem take_numC {x m k c : Int} (h0 : 0 ≤ x) (h1 : x < 2147483647) (m0 : 0 ≤ m) (m1 : m ≤ 1000000) (k0 : 0 ≤ k) (k1 : k ≤ 1000000) (c0 : 0 ≤ c) (c1 : c ≤ 1000000) : (x + m * k * k + c).natAbs < 2 ^ 64 := by
  have h2 : m * k ≤ 1000000 * 1000000 := Int.mul_le_mul m1 k1 k0 (by decide)
  have h3 : 0 ≤ m * k := Int.mul_nonneg m0 k0
  have h4 : m * k * k ≤ (1000000 * 1000000) * 1000000 := Int.mul_le_mul h2 k1 k0 (by decide)
  have h5 : 0 ≤ m * k * k := Int.mul_nonneg h3 k0
  omega
end
section
variable {κ : Type} [DecidableEq κ] {es : List (κ × D)} {k k' : κ} {v : D}
theorem valD_cons {e : κ × D} : valD (e :: es) k' = if e.1 = k' then some e.2 else valD es k' := by
  unfold valD
  rw [List.find?_cons]
  by_cases h : e.1 = k'
  · rw [decide_eq_true h, if_pos h]; rfl
  · rw [decide_eq_false h, if_neg h]
theorem valD_map : valD (es.map fun e => if e.1 = k then (e.1, v) else e) k' = if k' = k then (valD es k').map fun _ => v else valD es k' := by
  induction es with
  | nil => simp [valD]
  | cons e es ih =>
    rw [List.map_cons, valD_cons, valD_cons, ih]
    by_cases h : e.1 = k
    · by_cases g : k' = k
      · simp [h, g]
      · have : ¬ k = k' := fun z => g z.symm
        simp [h, g, this]
    · by_cases g : k' = k
      · have : ¬ e.1 = k' := fun z => h (z.trans g)
        simp [h, g]
      · simp [h, g]
theorem valD_none (h : (es.any fun e => decide (e.1 = k)) = false) : valD es k = none := by
  unfold valD
  rw [List.find?_eq_none.mpr fun e he => by
    have := List.any_eq_false.mp h e he
    simpa using this]
  rfl
theorem valD_some (h : (es.any fun e => decide (e.1 = k)) = true) : ∃ d, valD es k = some d := by
  unfold valD
  cases g : es.find? fun e => decide (e.1 = k) with
  | some e => exact ⟨_, rfl⟩
  | none =>
    obtain ⟨e, he, e2⟩ := List.any_eq_true.mp h
    exact absurd e2 (List.find?_eq_none.mp g e he)
theorem valD_app : valD (es ++ [(k, v)]) k' = match valD es k' with | some d => some d | none => if k = k' then some v else none := by
  induction es with
  | nil => rw [List.nil_append, valD_cons]; rfl
  | cons e es ih =>
    rw [List.cons_append, valD_cons, valD_cons, ih]
    by_cases h : e.1 = k'
    · rw [if_pos h, if_pos h]
    · rw [if_neg h, if_neg h]
theorem valD_put : valD (putD es k v) k' = if k' = k then some v else valD es k' := by
  unfold putD
  cases h : es.any fun e => decide (e.1 = k) with
  | true =>
    rw [if_pos rfl, valD_map]
    by_cases g : k' = k
    · subst g
      obtain ⟨d, hd⟩ := valD_some h
      rw [if_pos rfl, if_pos rfl, hd]; rfl
    · rw [if_neg g, if_neg g]
  | false =>
    rw [if_neg (by decide), valD_app]
    by_cases g : k' = k
    · subst g
      rw [valD_none h, if_pos rfl]
      first | done | simp
    · rw [if_neg g, if_neg fun z => g z.symm]
      cases valD es k' <;> rfl
theorem mem_put {e : κ × D} (h : e ∈ putD es k v) : e = (k, v) ∨ (e ∈ es ∧ e.1 ≠ k) := by
  unfold putD at h
  cases g : es.any fun e => decide (e.1 = k) with
  | true =>
    rw [g, if_pos rfl] at h
    obtain ⟨f, hf, he⟩ := List.mem_map.mp h
    by_cases c : f.1 = k
    · rw [if_pos c] at he; left; rw [← he, c]
    · rw [if_neg c] at he; right; rw [← he]; exact ⟨hf, c⟩
  | false =>
    rw [g, if_neg (by decide)] at h
    rcases List.mem_append.mp h with h | h
    · right
      have := List.any_eq_false.mp g e h
      exact ⟨h, by simpa using this⟩
    · left; exact List.mem_singleton.mp h
theorem len_put : (putD es k v).length ≤ es.length + 1 := by
  unfold putD
  split
  · rw [List.length_map]; omega
  · rw [List.length_append]; exact Nat.le_refl _
theorem valD_mem {d : D} (h : valD es k = some d) : (k, d) ∈ es := by
  unfold valD at h
  cases g : es.find? fun e => decide (e.1 = k) with
  | none => rw [g] at h; cases h
  | some e =>
    rw [g] at h
    cases h
    have h1 := List.find?_some g
    have h2 := List.mem_of_find?_eq_some g
    have : e.1 = k := of_decide_eq_true h1
    rw [← this]; exact h2
end
end Ed

set_option Elab.async false
set_option linter.all false
set_option maxRecDepth 100000
set_option maxHeartbeats 2000000
/-! Walks along dicts, by one look. -/
namespace Ed
open PySem PySem.Spec PyProof.Rows L2 Dz
/-- what is walked of a dict that is looked at -/
structure WD (X : Cx) (K : PySem.W.Frag) (tge iter' : Expr) (wi : TE → TI) (te : WX → TE) (val : Dv → Lc → D → Prop) : Prop where
  vx : ∃ iter, VX X K iter te val
  pi : ∀ W, Takes X W → PI X tge iter' (wi (te W))
section
variable {X : Cx} {K : PySem.W.Frag} {tge iter elt iter' : Expr} {te : WX → TE} {val : Dv → Lc → D → Prop} {wi : TE → TI} {f : List (Key × D) → List D} {J : Addr → Obj → List (Key × V) → It} {tg : WX → TG} {dg : DTG} {tb : WX → TS} {db : DTS} {body : List Stmt} {pos spos apos cpos tpos : Pos} {elts : List Expr} {kk : Nat}
theorem wd_keys (v : VX X K iter te val) : WD X K tge iter iKeys te val := ⟨⟨_, v⟩, fun W t => pi_keys (v.pe W t)⟩
theorem wd_vals (v : VX X K iter te val) (hbase : attributeBase iter "values" X.env (eval iter X.env) = eval iter X.env := by rfl) (hline : (apos.endLine == cpos.line) = true := by rfl) : WD X K tge (.Call (.Attribute iter "values" apos) [] [] cpos) iVals te val := ⟨⟨_, v⟩, fun W t => pi_values (v.pe W t) hbase hline⟩
theorem wd_items (v : VX X K iter te val) (hbase : attributeBase iter "items" X.env (eval iter X.env) = eval iter X.env := by rfl) (hline : (apos.endLine == cpos.line) = true := by rfl) : WD X K (.Tuple elts kk tpos) (.Call (.Attribute iter "items" apos) [] [] cpos) iItems te val := ⟨⟨_, v⟩, fun W t => pi_items (v.pe W t) hbase hline⟩
theorem ds_forD2 (hp : PassesOwn (model X.prog X.w) X.A X.env X.xe) (hc : X.calm = true) (ki : KI K wi f J) (wd : WD X K tge iter' wi te val) (hg : DG X K tg tge dg) (hb : DSs X K tb body db)
    (hs : ∀ x, foldedSetIterable iter' X.env x = pure x := by intro _; rfl) : DS X K (fun W D σ H => tLock (tFor (wi (te W)) (tg W) (tb W)) D σ H ∨ tFor (wi (te W)) (tg W) (tb W) D σ H) (.For tge iter' body [] pos) (dForD val f dg db) := by
  obtain ⟨⟨_, vx⟩, hpi⟩ := wd
  exact ds_forD hp hc ki vx hpi hg hb hs
variable {ifs : List Expr} {scope : Scope} {own : List (Str × Nat)} {tt : WX → TT} {dt : DTT} {tl : WX → TE} {de : DTE}
theorem d_lcD2 (hc : X.calm = true) (hN : X.N.Nodup) (ki : KI K wi f J) (wd : WD X K tge iter' wi te val) (ok : BlkOk X.N X.env.scope scope own) (hg : Blk X scope fun Y => DG Y K tg tge dg) (hw : GW tg (own.map (·.2))) (ht : Blk X scope fun Y => DPs Y K tt ifs dt) (he : Blk X scope fun Y => DE Y K tl elt de)
    (hs : ∀ x, foldedSetIterable iter' X.env x = pure x := by intro _; rfl) :
    DE X K (fun W σ H Q => tLockE (tLc (wi (te W)) (tg fun _ _ _ _ => False) (tt fun _ _ _ _ => False) (tl fun _ _ _ _ => False) (own.map (·.2))) σ H Q ∨ tLc (wi (te W)) (tg fun _ _ _ _ => False) (tt fun _ _ _ _ => False) (tl fun _ _ _ _ => False) (own.map (·.2)) σ H Q)
      (.ListComp elt [⟨tge, iter', ifs, 0⟩] scope pos) (dLcD val f dg dt de (own.map (·.2))) := by
  obtain ⟨⟨_, vx⟩, hpi⟩ := wd
  exact d_lcD hc hN ki vx hpi ok hg hw ht he hs
end
end Ed

set_option Elab.async false
set_option linter.all false
set_option maxRecDepth 100000
set_option maxHeartbeats 2000000
/-! Data with cells in it: what it shows as it stands now, by cells of a set. -/
namespace Ed
open PySem PySem.Spec PyProof.Rows L2 Dz
mutual
/-- x shows y, where the cells in it are of P -/
inductive Rv (L : Lc) (P : Addr → Prop) : D → D → Prop
  | non : Rv L P .non .non
  | bl (b : Bool) : Rv L P (.bl b) (.bl b)
  | int (i : Int) : Rv L P (.int i) (.int i)
  | str (x : Str) : Rv L P (.str x) (.str x)
  | lst {xs ys : List D} : RvL L P xs ys → Rv L P (.lst xs) (.lst ys)
  | tup {xs ys : List D} : RvL L P xs ys → Rv L P (.tup xs) (.tup ys)
  | dK {es fs : List (Key × D)} : RvK L P es fs → Rv L P (.dK es) (.dK fs)
  | ref {a : Addr} {xs ys : List D} : P a → L a = some (.lst xs) → RvL L P xs ys → Rv L P (.ref a) (.lst ys)
  | refK {a : Addr} {es fs : List (Key × D)} : P a → L a = some (.dK es) → RvK L P es fs → Rv L P (.ref a) (.dK fs)
inductive RvL (L : Lc) (P : Addr → Prop) : List D → List D → Prop
  | nil : RvL L P [] []
  | cons {x y : D} {xs ys : List D} : Rv L P x y → RvL L P xs ys → RvL L P (x :: xs) (y :: ys)
inductive RvK (L : Lc) (P : Addr → Prop) : List (Key × D) → List (Key × D) → Prop
  | nil : RvK L P [] []
  | cons {k : Key} {x y : D} {es fs : List (Key × D)} : Rv L P x y → RvK L P es fs → RvK L P ((k, x) :: es) ((k, y) :: fs)
end
mutual
/-- what has no cells shows itself -/
theorem rv_self (L : Lc) (P : Addr → Prop) : ∀ d, okD d = true → Rv L P d d
  | .non, _ => .non
  | .bl b, _ => .bl b
  | .int i, _ => .int i
  | .str x, _ => .str x
  | .lst ds, h => .lst (rvL_self L P ds (by rw [okD.eq_def] at h; exact h))
  | .tup ds, h => .tup (rvL_self L P ds (by rw [okD.eq_def] at h; exact h))
  | .ctup _, h => by rw [okD.eq_def] at h; cases h
  | .dK es, h => .dK (rvK_self L P es (by rw [okD.eq_def] at h; exact h))
  | .ty _, h => by rw [okD.eq_def] at h; cases h
  | .dT _, h => by rw [okD.eq_def] at h; cases h
  | .ins _ _, h => by rw [okD.eq_def] at h; cases h
  | .err _ _, h => by rw [okD.eq_def] at h; cases h
  | .exo _ _ _ _, h => by rw [okD.eq_def] at h; cases h
  | .scr _, h => by rw [okD.eq_def] at h; cases h
  | .ref _, h => by rw [okD.eq_def] at h; cases h
theorem rvL_self (L : Lc) (P : Addr → Prop) : ∀ ds, okDs ds = true → RvL L P ds ds
  | [], _ => .nil
  | d :: ds, h => by
    rw [okDs.eq_def] at h
    obtain ⟨h1, h2⟩ := Bool.and_eq_true_iff.mp h
    exact .cons (rv_self L P d h1) (rvL_self L P ds h2)
theorem rvK_self (L : Lc) (P : Addr → Prop) : ∀ es, okDk es = true → RvK L P es es
  | [], _ => .nil
  | (.inl _, _) :: _, h => by rw [okDk.eq_def] at h; cases h
  | (.inr x, d) :: es, h => by
    rw [okDk.eq_def] at h
    obtain ⟨h1, h2⟩ := Bool.and_eq_true_iff.mp h
    obtain ⟨_, h3⟩ := Bool.and_eq_true_iff.mp h1
    exact .cons (rv_self L P d h3) (rvK_self L P es h2)
end
section
variable {L L' : Lc} {P P' : Addr → Prop}
mutual
theorem Rv.py : ∀ {x y : D}, Rv L P x y → okD y = true → PyQ L x (pyOf y)
  | _, _, .non, _ => by rw [pyOf.eq_def]; exact .non
  | _, _, .bl b, _ => by rw [pyOf.eq_def]; exact .bl b
  | _, _, .int i, _ => by rw [pyOf.eq_def]; exact .int i
  | _, _, .str x, _ => by rw [pyOf.eq_def]; exact .str x
  | _, _, .lst h, o => by rw [pyOf.eq_def]; exact .lst (RvL.py h (by rw [okD.eq_def] at o; exact o))
  | _, _, .tup h, o => by rw [pyOf.eq_def]; exact .tup (RvL.py h (by rw [okD.eq_def] at o; exact o))
  | _, _, .dK h, o => by rw [pyOf.eq_def]; exact .dK (RvK.py h (by rw [okD.eq_def] at o; exact o))
  | _, _, .ref _ e h, o => by rw [pyOf.eq_def]; exact .ref e (RvL.py h (by rw [okD.eq_def] at o; exact o))
  | _, _, .refK _ e h, o => by rw [pyOf.eq_def]; exact .refK e (RvK.py h (by rw [okD.eq_def] at o; exact o))
theorem RvL.py : ∀ {xs ys : List D}, RvL L P xs ys → okDs ys = true → PyQL L xs (pyOfL ys)
  | _, _, .nil, _ => by rw [pyOfL.eq_def]; exact .nil
  | _, _, .cons h t, o => by
    rw [okDs.eq_def] at o
    obtain ⟨h1, h2⟩ := Bool.and_eq_true_iff.mp o
    rw [pyOfL.eq_def]
    exact .cons (Rv.py h h1) (RvL.py t h2)
theorem RvK.py : ∀ {es fs : List (Key × D)}, RvK L P es fs → okDk fs = true → PyQK L es (pyOfK fs)
  | _, _, .nil, _ => by rw [pyOfK.eq_def]; exact .nil
  | _, _, .cons (k := .inl _) _ _, o => by rw [okDk.eq_def] at o; cases o
  | _, _, .cons (k := .inr x) h t, o => by
    rw [okDk.eq_def] at o
    obtain ⟨h1, h2⟩ := Bool.and_eq_true_iff.mp o
    obtain ⟨_, h3⟩ := Bool.and_eq_true_iff.mp h1
    rw [pyOfK.eq_def]
    exact .cons (Rv.py h h3) (RvK.py t h2)
end
mutual
/-- only the cells of P count; more of them may be allowed -/
theorem Rv.agree (e : ∀ a, P a → P' a ∧ L' a = L a) : ∀ {x y : D}, Rv L P x y → Rv L' P' x y
  | _, _, .non => .non
  | _, _, .bl b => .bl b
  | _, _, .int i => .int i
  | _, _, .str x => .str x
  | _, _, .lst h => .lst (RvL.agree e h)
  | _, _, .tup h => .tup (RvL.agree e h)
  | _, _, .dK h => .dK (RvK.agree e h)
  | _, _, .ref p g h => .ref (e _ p).1 ((e _ p).2.trans g) (RvL.agree e h)
  | _, _, .refK p g h => .refK (e _ p).1 ((e _ p).2.trans g) (RvK.agree e h)
theorem RvL.agree (e : ∀ a, P a → P' a ∧ L' a = L a) : ∀ {xs ys : List D}, RvL L P xs ys → RvL L' P' xs ys
  | _, _, .nil => .nil
  | _, _, .cons h t => .cons (Rv.agree e h) (RvL.agree e t)
theorem RvK.agree (e : ∀ a, P a → P' a ∧ L' a = L a) : ∀ {es fs : List (Key × D)}, RvK L P es fs → RvK L' P' es fs
  | _, _, .nil => .nil
  | _, _, .cons h t => .cons (Rv.agree e h) (RvK.agree e t)
end
variable {x y : D} {xs ys us vs : List D} {q : DQ} {a : Addr} {c : Cell}
theorem Rv.put (h : Rv L P x y) (n : ¬ P a) : Rv (updL L a c) P x y := h.agree fun b p => ⟨p, updL_ne (by intro z; rw [z] at p; exact n p)⟩
theorem Rv.more (h : Rv L P x y) (e : ∀ a, P a → P' a) : Rv L P' x y := h.agree fun b p => ⟨e b p, rfl⟩
theorem RvL.put (h : RvL L P xs ys) (n : ¬ P a) : RvL (updL L a c) P xs ys := h.agree fun b p => ⟨p, updL_ne (by intro z; rw [z] at p; exact n p)⟩
theorem RvL.more (h : RvL L P xs ys) (e : ∀ a, P a → P' a) : RvL L P' xs ys := h.agree fun b p => ⟨e b p, rfl⟩
theorem RvL.len (h : RvL L P xs ys) : xs.length = ys.length := by
  induction ys generalizing xs with
  | nil => cases h; rfl
  | cons y ys ih => cases h with | cons h1 h2 => rw [List.length_cons, List.length_cons, ih h2]
theorem RvL.at_ (h : RvL L P xs ys) {i : Nat} (hx : xs[i]? = some x) : ∃ y, ys[i]? = some y ∧ Rv L P x y := by
  induction i generalizing xs ys with
  | zero => cases h with
    | nil => cases hx
    | cons h1 h2 => cases hx; exact ⟨_, rfl, h1⟩
  | succ i ih => cases h with
    | nil => cases hx
    | cons h1 h2 => exact ih h2 hx
theorem RvL.app (h : RvL L P xs ys) (g : RvL L P us vs) : RvL L P (xs ++ us) (ys ++ vs) := by
  induction ys generalizing xs with
  | nil => cases h; exact g
  | cons y ys ih => cases h with | cons h1 h2 => exact .cons h1 (ih h2)
theorem RvL.take (h : RvL L P xs ys) : ∀ n, RvL L P (xs.take n) (ys.take n) := by
  induction ys generalizing xs with
  | nil => intro n; cases h; rw [List.take_nil]; exact .nil
  | cons y ys ih =>
    cases h with
    | cons h1 h2 =>
      intro n
      cases n with
      | zero => exact .nil
      | succ n => exact .cons h1 (ih h2 n)
theorem RvL.drop (h : RvL L P xs ys) : ∀ n, RvL L P (xs.drop n) (ys.drop n) := by
  induction ys generalizing xs with
  | nil => intro n; cases h; rw [List.drop_nil]; exact .nil
  | cons y ys ih =>
    cases h with
    | cons h1 h2 =>
      intro n
      cases n with
      | zero => exact .cons h1 h2
      | succ n => exact ih h2 n
theorem RvL.cut {lo hi : Option Int} (h : RvL L P xs ys) : RvL L P (cutD xs lo hi) (cutD ys lo hi) := by
  unfold cutD
  rw [h.len]
  exact (h.drop _).take _
theorem RvL.set (h : RvL L P xs ys) (r : Rv L P x y) : ∀ n, RvL L P (xs.set n x) (ys.set n y) := by
  induction ys generalizing xs with
  | nil => intro n; cases h; exact .nil
  | cons y ys ih =>
    cases h with
    | cons h1 h2 =>
      intro n
      cases n with
      | zero => exact .cons r h2
      | succ n => exact .cons h1 (ih h2 n)
theorem Rv.kind (h : Rv L P x y) : kindD L x = kindD L y := by
  cases h with
  | ref _ e _ => simp [kindD, e]
  | refK _ e _ => simp [kindD, e]
  | _ => rfl
/-- what is a list -/
theorem Rv.isl (h : Rv L P x (.lst ys)) : ∃ xs, vLst L x = some xs ∧ vSeq L x = some xs ∧ vRd L x = some xs ∧ RvL L P xs ys := by
  cases h with
  | lst h => exact ⟨_, rfl, rfl, rfl, h⟩
  | ref _ e h => exact ⟨_, vl_ref e, vs_ref e, vr_ref e, h⟩
theorem Rv.ist (h : Rv L P x (.tup ys)) : ∃ xs, x = .tup xs ∧ RvL L P xs ys := by
  cases h with
  | tup h => exact ⟨_, rfl, h⟩
theorem Rv.isstr {z : Str} (h : Rv L P x (.str z)) : x = .str z := by cases h; rfl
theorem Rv.isint {i : Int} (h : Rv L P x (.int i)) : x = .int i := by cases h; rfl
theorem Rv.isbl {b : Bool} (h : Rv L P x (.bl b)) : x = .bl b := by cases h; rfl
theorem Rv.isnon (h : Rv L P x .non) : x = .non := by cases h; rfl
theorem Rv.seq (h : Rv L P x y) (s : isSeq y = true) : ∃ xs ys, vSeq L x = some xs ∧ (y = .lst ys ∨ y = .tup ys) ∧ RvL L P xs ys := by
  obtain ⟨ys, rfl | rfl⟩ := seq_of s
  · obtain ⟨xs, _, h2, _, h4⟩ := h.isl; exact ⟨xs, ys, h2, .inl rfl, h4⟩
  · obtain ⟨xs, rfl, h2⟩ := h.ist; exact ⟨xs, ys, rfl, .inr rfl, h2⟩
theorem isi_kind {T : D} (e : kindD L x = kindD L y) (h : isiD [y, T] L q) : isiD [x, T] L q := by
  obtain ⟨x', T', s, b, e1, h1, h2, h3⟩ := h
  cases e1
  exact ⟨x, T', s, b, rfl, e.trans h1, h2, h3⟩
theorem isi2_kind {T : D} (e : kindD L x = kindD L y) (h : isi2D [y, T] L q) : isi2D [x, T] L q := by
  obtain ⟨x', T', U, s, b, c, e1, h1, h2, h3, h4⟩ := h
  cases e1
  exact ⟨x, T', U, s, b, c, rfl, e.trans h1, h2, h3, h4⟩
theorem w_isiT (r : Rv L P x y) (ok : okD y = true) (hq : q (.bl (isTup y)) L) : isiD [x, .ty "tuple"] L q := isi_kind r.kind (v_isiT ok hq)
theorem w_isiL (r : Rv L P x y) (ok : okD y = true) (hq : q (.bl (isLst y)) L) : isiD [x, .ty "list"] L q := isi_kind r.kind (v_isiL ok hq)
theorem w_isi2 (r : Rv L P x y) (ok : okD y = true) (hq : q (.bl (isSeq y)) L) : isi2D [x, .tup [.ty "list", .ty "tuple"]] L q := isi2_kind r.kind (v_isi2 ok hq)
theorem w_repr {B k : Nat} (r : Rv L P x y) (h : Th y B k) (hq : q (.str (pyOf y).shown) L) (hk : k ≤ 60 := by omega) (hB : B ≤ 16777216 := by omega) : reprQD [x] L q :=
  v_reprQ (r.py h.ok) h.sq hq hk hB
theorem w_len (r : RvL L P xs ys) (h : vSeq L x = some xs) (hq : q (.int ys.length) L) : lenD [x] L q := v_lenL h (by rw [r.len]; exact hq)
end
end Ed

set_option Elab.async false
set_option linter.all false
set_option maxRecDepth 100000
set_option maxHeartbeats 2000000
/-! items() of a dict by tuples, walked. -/
namespace L2
open PySem PySem.Spec PyProof.Rows Dz
section
variable {X : Cx} {pins : List (Addr × Obj)} {σ : St} {H : Hp} {s : Shared} {d : Addr} {o : Obj}
theorem frzTv {kvs : List (List Key × V)} (I : Inv X pins σ H s) (h : H d = some (.frz o (.dT kvs))) :
    (d == sysModules) = false ∧ s.heap.get? d = some o ∧ o.ExactDict ∧ ∃ (es : Array DictEntry) (ep : Nat), o.data = .dict es ep ∧ es.size = kvs.length ∧
      ∀ (i : Nat) (k : List Key) (v : V), kvs[i]? = some (k, v) → ∃ (en : DictEntry) (q : Addr), es[i]? = some en ∧ en.key = .ref q ∧ H q = some (.tup (k.map kV)) ∧ RelV v en.val := by
  obtain ⟨hd, z, hs, xs, pr, o', es, ep, ho, hx, hdt, he, _⟩ := I.hok d _ h
  rw [hd] at ho
  cases ho
  refine ⟨hs, hd, hx, es, ep, hdt, ?_, fun i k v e => ?_⟩
  · have l1 : es.size = xs.length := size_of_entries he
    have l2 : kvs.length = xs.length := Paired.length pr
    omega
  · obtain ⟨b, hb, e1, e2, e3⟩ := paired_get pr e
    have q := entry_at he i
    rw [hb] at q
    exact ⟨_, b.2.1, q, rfl, e2, e3⟩
end
/-- the pairs, each a new tuple of the key's own tuple and the value -/
def Itit (d : Addr) (o : Obj) (kvs : List (List Key × V)) : It :=
  ⟨fun i H => H d = some (.frz o (.dT kvs)) ∧ i < kvs.length, fun i H x H' => ∃ T k v q, kvs[i]? = some (k, v) ∧ x = .ref T ∧ H T = none ∧ H q = some (.tup (k.map kV)) ∧ H' = upd H T (.tup [.ref q, v]), fun i H => H d = some (.frz o (.dT kvs)) ∧ kvs.length ≤ i⟩
section
variable {P : Program} {w : World} {K : PySem.W.Frag} {d : Addr} {o : Obj} {es : Array DictEntry} {ep : Nat}
theorem turn_itemsT {kvs : List (List Key × V)} {elts : List Expr} {kk : Nat} {tpos : Pos} (it : Addr) (hod : o.data = .dict es ep) :
    Turn P w K (.Tuple elts kk tpos) (Itit d o kvs) [it] it (fun i h => ∃ ok ov, IsItemIter h it d i kvs.length ep ok ov) where
  mem := by simp
  obj := fun i h st b hb => by
    have e : b = it := by simpa using hb
    subst e
    obtain ⟨ok, ov, e⟩ := st
    exact ⟨_, e, fun v z => nomatch z⟩
  keep := fun i h h' st k => let ⟨ok, ov, e⟩ := st; ⟨ok, ov, k it (by simp) _ e⟩
  item := by
    intro X hP hw hK hc i pins s σ H E I hf st hg
    subst hP hw hK
    obtain ⟨hd, hi⟩ := hg
    obtain ⟨hs, hgd, hx, es', ep', hdt, hsz, ent⟩ := frzTv I hd
    obtain ⟨rfl, rfl⟩ := dict_ep hod hdt
    obtain ⟨⟨k, v⟩, hkv⟩ : ∃ p, kvs[i]? = some p := ⟨kvs[i], List.getElem?_eq_getElem hi⟩
    obtain ⟨en, q, hen, hkey, hq, ru⟩ := ent i k v hkv
    obtain ⟨ok, ov, he⟩ := st
    rw [← hsz] at he
    have hlt : it < s.heap.objs.size := Heap.lt_size he
    have hi' : i < es'.size := by rw [hsz]; exact hi
    have hen' : es'[i] = en := by
      have := Array.getElem?_eq_getElem hi'
      rw [this] at hen
      exact Option.some.inj hen
    refine DT.nextI he ⟨o, hgd, hx, hdt⟩ hi' fun h' ho hT hz hk => ?_
    rw [hen'] at ho hT
    refine ⟨_, rfl, wpAny_letOwnedTupleGo_items (s := { s with heap := h' }) ho fun h'' he' sb => ?_⟩
    have hT2 : h''.get? s.heap.objs.size = some { cls := .type "tuple", data := .seq #[en.key, en.val] } := (sb.2 _ (Nat.ne_of_gt hlt)).trans hT
    have new : ObjOk X.prog X.w (upd H s.heap.objs.size (.tup [.ref q, v])) h'' s.heap.objs.size (.tup [.ref q, v]) :=
      ⟨by show 2 ≤ sizeLine; decide, [en.key, en.val], .cons hkey (.cons ru .nil), ⟨_, hT2, rfl, _, rfl⟩⟩
    have I1 : Inv X pins σ (upd H s.heap.objs.size (.tup [.ref q, v])) { s with heap := h'' } :=
      I.turnedNew (t' := s.toks) (ch := [it]) (fun b ob hb e => (sb.2 b (by simpa using hb)).trans (hk b ob (by simpa using hb) e)) hf (Nat.le_refl _) new
    refine ⟨.ref s.heap.objs.size, _, I1, rfl, ⟨_, k, v, q, hkv, rfl, I.hok.fresh (Nat.le_refl _), hq, rfl⟩, ⟨en.key, en.val, ?_⟩, fun b hb => ?_⟩
    · rw [← hsz]; exact he'
    · have e : b = it := by simpa using hb
      rw [e, upd_ne (Nat.ne_of_lt hlt)]
      exact (hf it (by simp)).1
  done := by
    intro X hP hw hK hc i pins s σ H E I hf st hg
    subst hP hw hK
    obtain ⟨hd, hi⟩ := hg
    obtain ⟨f0, f1, f2, f3, f4, f5⟩ := hf it (by simp)
    obtain ⟨hs, hgd, hx, es', ep', hdt, hsz, ent⟩ := frzTv I hd
    obtain ⟨rfl, rfl⟩ := dict_ep hod hdt
    obtain ⟨ok, ov, he⟩ := st
    rw [← hsz] at he
    exact DT.endI (I.ok.hd hc) he ⟨o, hgd, hx, hdt⟩ (by rw [hsz]; exact hi) fun h' eb => ⟨rfl, I.turned (t' := s.toks) (fun b ob hb e => eb b ob hb e) f0 f1 f3 f4 f5⟩
  self := fun A i s Q E st h => let ⟨_, _, e⟩ := st; PySem.W.kcp_self e h
end
def iItemsT (td : TE) : TI := fun σ H R => td σ H fun x H1 => ∃ d o kvs, x = .ref d ∧ H1 d = some (.frz o (.dT kvs)) ∧ R (Itit d o kvs) H1
section
variable {X : Cx} {e : Expr} {td : TE} {apos cpos : Pos}
theorem pi_itemsT {elts : List Expr} {kk : Nat} {tpos : Pos} (he : PE X e td) (hbase : attributeBase e "items" X.env (eval e X.env) = eval e X.env := by rfl) (hline : (apos.endLine == cpos.line) = true := by rfl) :
    PI X (.Tuple elts kk tpos) (.Call (.Attribute e "items" apos) [] [] cpos) (iItemsT td) := by
  refine ⟨fun pins s σ H R I h => ?_⟩
  refine wpAny_Call_method (T := "dict") (id := "dict.items") hbase rfl hline PySem.F.plainAttrs_dict PySem.F.slot_dict_items PySem.F.type_dict_items (thn (he.run pins s σ H _ I h) fun u s1 ⟨x, H1, I1, rx, d, o, kvs, ex, hd, q⟩ => ?_)
  subst ex
  obtain rfl : u = Value.ref d := rx
  obtain ⟨hs, hgd, hx, es, ep, hdt, hsz, ent⟩ := frzTv I1 hd
  have raw : DT.Raw s1.heap d es ep := ⟨o, hgd, hx, hdt⟩
  refine ⟨raw.typeIs, ?_, ?_⟩
  · exact fun b hb => by cases hb; exact ⟨o, hgd, hx.2.1⟩
  have I2 : Inv X pins σ H1 { s1 with heap := s1.heap.push { cls := .type "dict_items", data := .fields #[.ref d] } } := I1.kept (t' := s1.toks) fun b ob q => Heap.get?_push_of_some _ q
  have fin : wpAny (model X.prog X.w) X.A (pyIter (.ref s1.heap.objs.size)) (PIE X pins σ (.Tuple elts kk tpos) R) X.xe { s1 with heap := s1.heap.push { cls := .type "dict_items", data := .fields #[.ref d] } } := by
    refine DT.iterI (d := d) (es := es) (ep := ep) ⟨_, Heap.get?_push_size _ rfl, rfl, rfl⟩ (raw.push _) (pi_one (tk := s1.toks) I2 _ (turn_itemsT _ hdt) ⟨.none, .none, ?_⟩ q)
    rw [← hsz]
    exact Heap.get?_push_size _ rfl
  show wpAny _ _ (callWith cpos (.builtin "dict.items") [.ref d] [] []) _ X.xe s1
  exact method_meetsIn PySem.F.slot_dict_items PySem.F.entry_dict_items rfl (PySem.evalArgs_none ⟨rfl, raw.typeIs, PySem.F.args_dict_items_1 _, _, DT.meetsItems (es := es) (ep := ep) hs, raw, fin⟩)
end
end L2

set_option Elab.async false
set_option linter.all false
set_option maxRecDepth 100000
set_option maxHeartbeats 2000000
/-! Walks along dicts by tuples. -/
namespace Ed
open PySem PySem.Spec PyProof.Rows L2 Dz
theorem at_keysT {K : PySem.W.Frag} {S : Sta} {ks : List (List Key × V)} {es : List (List Key × D)} {i : Nat} {k : List Key} {v : V} (h1 : ks.map (·.1) = es.map (·.1)) (h2 : RpL K S.H S.Λ (ks.map (·.2)) (es.map (·.2))) (h : ks[i]? = some (k, v)) : ∃ d, es[i]? = some (k, d) ∧ Rp K S.H S.Λ v d := by
  have e1 := congrArg (fun l => l[i]?) h1
  simp only [List.getElem?_map, h] at e1
  cases he : es[i]? with
  | none => rw [he] at e1; cases e1
  | some kd =>
    obtain ⟨k', d⟩ := kd
    rw [he] at e1
    cases e1
    obtain ⟨v', hv', r⟩ := h2.get (i := i) (d := d) (by rw [List.getElem?_map, he]; rfl)
    rw [List.getElem?_map, h] at hv'
    cases hv'
    exact ⟨d, rfl, r⟩
/-- a way to walk a locked dict -/
structure KIT (K : PySem.W.Frag) (wi : TE → TI) (f : List (List Key × D) → List D) (J : Addr → Obj → List (List Key × V) → It) : Prop where
  go_ : ∀ (td : TE) σ H (R : It → Hp → Prop) d o ks, (∀ Q : VK, Q (.ref d) H → td σ H Q) → H d = some (.frz o (.dT ks)) → R (J d o ks) H → wi td σ H R
  it : ∀ S d o ks es, S.H d = some (.frz o (.dT ks)) → ¬ S.Λ d → ks.map (·.1) = es.map (·.1) → RpL K S.H S.Λ (ks.map (·.2)) (es.map (·.2)) → ItOk K S (J d o ks) (f es) (fun _ => True)
section
variable {K : PySem.W.Frag}
theorem len_keysT {ks : List (List Key × V)} {es : List (List Key × D)} (h1 : ks.map (·.1) = es.map (·.1)) : ks.length = es.length := by simpa using congrArg List.length h1
theorem rp_keys {H : Hp} {Λ : Addr → Prop} : ∀ k : List Key, RpL K H Λ (k.map kV) (k.map kOf)
  | [] => .nil
  | x :: k => .cons (rp_key x) (rp_keys k)
def kTup (k : List Key) : D := .tup (k.map kOf)
theorem kit_keys : KIT K iKeys (fun es => es.map fun kv => kTup kv.1) Itkt := by
  refine ⟨fun td σ H R d o ks q h r => q _ ⟨d, o, rfl, .inr ⟨ks, h, r⟩⟩, fun S d o ks es h n h1 h2 => ⟨fun H => H d = some (.frz o (.dT ks)), fun i H x H' => H' = H ∧ ∃ (k : List Key) (v : V) (q : Addr), ks[i]? = some (k, v) ∧ x = .ref q ∧ H q = some (.tup (k.map kV)), ⟨fun i H hi g => ⟨g, by rw [len_keysT h1]; simpa using hi⟩, fun H g => ⟨g, by rw [len_keysT h1]; simp⟩, fun i H x H' _ _ y => y⟩, fun S' e k _ => (e.lk h n).2, fun S' i x H' e k _ hi y => ?_⟩⟩
  obtain ⟨rfl, kk, v, q, hk, rfl, hq⟩ := y
  obtain ⟨d', hd, _⟩ := at_keysT h1 h2 hk
  exact ⟨S', kTup kk, rfl, rfl, .refl _, k, by rw [List.getElem?_map, hd]; rfl, .tup (k.ntup hq) hq (rp_keys kk)⟩
theorem kit_items : KIT K iItemsT (fun es => es.map fun kv => .tup [kTup kv.1, kv.2]) Itit := by
  refine ⟨fun td σ H R d o ks q h r => q _ ⟨d, o, ks, rfl, h, r⟩, fun S d o ks es h n h1 h2 => ⟨fun H => H d = some (.frz o (.dT ks)), fun i H x H' => ∃ T k v q, ks[i]? = some (k, v) ∧ x = .ref T ∧ H T = none ∧ H q = some (.tup (k.map kV)) ∧ H' = upd H T (.tup [.ref q, v]), ⟨fun i H hi g => ⟨g, by rw [len_keysT h1]; simpa using hi⟩, fun H g => ⟨g, by rw [len_keysT h1]; simp⟩, fun i H x H' _ _ y => y⟩, fun S' e k _ => (e.lk h n).2, fun S' i x H' e k _ hi y => ?_⟩⟩
  obtain ⟨T, kk, v, q, hk, rfl, hT, hq, rfl⟩ := y
  obtain ⟨d', hd, r⟩ := at_keysT h1 h2 hk
  have e2 := ev_new (o := .tup [.ref q, v]) hT k
  have rq : Rp K S'.H S'.Λ (.ref q) (kTup kk) := .tup (k.ntup hq) hq (rp_keys kk)
  exact ⟨S'.new T (.tup [.ref q, v]), _, rfl, rfl, e2, ok_new hT k, by rw [List.getElem?_map, hd]; rfl, .tup (k.lam hT) upd_same (.cons (rq.ev e2) (.cons ((r.ev e).ev e2) .nil))⟩
end
section
variable {X : Cx} {K : PySem.W.Frag} {tge iter : Expr} {te : WX → TE} {val : Dv → Lc → D → Prop} {apos cpos tpos : Pos} {elts : List Expr} {kk : Nat}
theorem wdt_items (v : VX X K iter te val) (hbase : attributeBase iter "items" X.env (eval iter X.env) = eval iter X.env := by rfl) (hline : (apos.endLine == cpos.line) = true := by rfl) : WD X K (.Tuple elts kk tpos) (.Call (.Attribute iter "items" apos) [] [] cpos) iItemsT te val := ⟨⟨_, v⟩, fun W t => pi_itemsT (v.pe W t) hbase hline⟩
end
section
variable {X : Cx} {K : PySem.W.Frag} {tge iter elt : Expr} {te : WX → TE} {val : Dv → Lc → D → Prop} {wi : TE → TI} {f : List (List Key × D) → List D} {J : Addr → Obj → List (List Key × V) → It} {tg : WX → TG} {dg : DTG} {tb : WX → TS} {db : DTS} {body : List Stmt} {pos spos : Pos}
theorem kit_sim (ki : KIT K wi f J) {W : WX} {ew : EW} {S : Sta} {σ : L2.St} {ρ : Dv} {a : Addr} {o : Obj} {ks : List (List Key × V)} {es : List (List Key × D)} (k : Ok K S) (hv : ∀ Q : VK, Q (.ref a) S.H → te W σ S.H Q) (h : S.H a = some (.frz o (.dT ks))) (n : ¬ S.Λ a) (h1 : ks.map (·.1) = es.map (·.1)) (h2 : RpL K S.H S.Λ (ks.map (·.2)) (es.map (·.2))) :
    SimI1 K (fun W => wi (te W)) (fun _ _ L k => k (f es) (fun _ => True) L) W ew S σ ρ := fun R kk hR hk =>
  ki.go_ _ _ _ R a o ks hv h (hR S _ _ _ (.refl S) k (ki.it S a o ks es h n h1 h2) hk)
/-- for .. in a dict -/
def dForT (val : Dv → Lc → D → Prop) (f : List (List Key × D) → List D) (g : DTG) (tb : DTS) : DTS := fun w D ρ L => ∃ es, val ρ L (.dT es) ∧ forD (g w) (tb w) (fun _ => True) D (f es) ρ L
theorem ds_forT (hp : PassesOwn (model X.prog X.w) X.A X.env X.xe) (hc : X.calm = true) (ki : KIT K wi f J) {iter' : Expr} (wd : WD X K tge iter' wi te val) (hg : DG X K tg tge dg) (hb : DSs X K tb body db)
    (hs : ∀ x, foldedSetIterable iter' X.env x = pure x := by intro _; rfl) : DS X K (fun W D σ H => tLock (tFor (wi (te W)) (tg W) (tb W)) D σ H ∨ tFor (wi (te W)) (tg W) (tb W) D σ H) (.For tge iter' body [] pos) (dForT val f dg db) := by
  obtain ⟨⟨_, vx⟩, hpi⟩ := wd
  refine ⟨fun W t => ps_or2 (ps_lock (ps_for hp hc (hpi W t) (hg.pg W t) (hb.ps W t) hs)) (ps_for hp hc (hpi W t) (hg.pg W t) (hb.ps W t) hs), fun W ew S σ ρ D d I R h => ?_⟩
  obtain ⟨es, hv, h⟩ := h
  obtain ⟨v, rv, q1, q2⟩ := vx.run W S σ ρ _ I.ok I.sl hv
  cases rv with
  | @dT a ks _ n h1 h2 h3 =>
  rcases h1 with h1 | ⟨o, h1⟩
  · left
    refine ⟨a, .dT ks, h1, trivial, fun od => ?_⟩
    have e01 : Ev S (S.lk a (.frz od (.dT ks))) := ev_lk h1 trivial n
    have k1 := ok_lk (w := .frz od (.dT ks)) I.ok n e01.w
    have un : ∀ S', Ev (S.lk a (.frz od (.dT ks))) S' → Ok K S' → S'.H a = some (.frz od (.dT ks)) ∧ Ev S (S'.lk a (.dT ks)) ∧ Ok K (S'.lk a (.dT ks)) ∧ Ew S' (S'.lk a (.dT ks)) := fun S' e k => by
      obtain ⟨n', h'⟩ := e.lk (a := a) (o := od) (u := .dT ks) upd_same n
      exact ⟨h', ev_un h1 trivial n e, ok_lk k n' (ew_un h' trivial), ew_un h' trivial⟩
    refine for_sim1 hg.sim hb.sim W ew (S.lk a (.frz od (.dT ks))) σ ρ _ d (I.ev e01 k1) ⟨fun S' σ' ρ' e k s hh => ?_, fun S' v' d' e k r hh => ?_, fun S' σ' ρ' e k s hh => ?_, fun S' σ' ρ' e k s hh => ?_⟩ (kit_sim ki k1 (q2 a od _ h1 trivial) upd_same n h2 (h3.ev e01)) h
    · obtain ⟨u1, u2, u3, u4⟩ := un S' e k
      exact ⟨u1, R.nx (S'.lk a (.dT ks)) σ' ρ' u2 u3 (s.ew u4) hh⟩
    · obtain ⟨u1, u2, u3, u4⟩ := un S' e k
      exact ⟨u1, R.rt (S'.lk a (.dT ks)) v' d' u2 u3 (r.ew u4) hh⟩
    · obtain ⟨u1, u2, u3, u4⟩ := un S' e k
      exact ⟨u1, R.bk (S'.lk a (.dT ks)) σ' ρ' u2 u3 (s.ew u4) hh⟩
    · obtain ⟨u1, u2, u3, u4⟩ := un S' e k
      exact ⟨u1, R.ct (S'.lk a (.dT ks)) σ' ρ' u2 u3 (s.ew u4) hh⟩
  · right
    exact for_sim1 hg.sim hb.sim W ew S σ ρ D d I R (kit_sim ki I.ok q1 h1 n h2 h3) h
theorem v_forT {w : EW} {D0 : DEnds} {ρ : Dv} {L : Lc} {g : DTG} {t : DTS} {es : List (List Key × D)} (hv : val ρ L (.dT es)) (h : forD (g w) (t w) (fun _ => True) D0 (f es) ρ L) : dForT val f g t w D0 ρ L := ⟨es, hv, h⟩
variable {ifs : List Expr} {scope : Scope} {own : List (Str × Nat)} {tt : WX → TT} {dt : DTT} {tl : WX → TE} {de : DTE}
/-- a comprehension over a dict -/
def dLcT (val : Dv → Lc → D → Prop) (f : List (List Key × D) → List D) (g : DTG) (tt : DTT) (te : DTE) (vs : List Nat) : DTE := fun w ρ L q => ∃ es, val ρ L (.dT es) ∧ dLc (fun _ _ L k => k (f es) (fun _ => True) L) g tt te vs w ρ L q
theorem d_lcT (hc : X.calm = true) (hN : X.N.Nodup) (ki : KIT K wi f J) {iter' : Expr} (wd : WD X K tge iter' wi te val) (ok : BlkOk X.N X.env.scope scope own) (hg : Blk X scope fun Y => DG Y K tg tge dg) (hw : GW tg (own.map (·.2))) (ht : Blk X scope fun Y => DPs Y K tt ifs dt) (he : Blk X scope fun Y => DE Y K tl elt de)
    (hs : ∀ x, foldedSetIterable iter' X.env x = pure x := by intro _; rfl) :
    DE X K (fun W σ H Q => tLockE (tLc (wi (te W)) (tg fun _ _ _ _ => False) (tt fun _ _ _ _ => False) (tl fun _ _ _ _ => False) (own.map (·.2))) σ H Q ∨ tLc (wi (te W)) (tg fun _ _ _ _ => False) (tt fun _ _ _ _ => False) (tl fun _ _ _ _ => False) (own.map (·.2)) σ H Q)
      (.ListComp elt [⟨tge, iter', ifs, 0⟩] scope pos) (dLcT val f dg dt de (own.map (·.2))) := by
  obtain ⟨⟨_, vx⟩, hpi⟩ := wd
  have pl : ∀ W, Takes X W → PE X (.ListComp elt [⟨tge, iter', ifs, 0⟩] scope pos) (tLc (wi (te W)) (tg fun _ _ _ _ => False) (tt fun _ _ _ _ => False) (tl fun _ _ _ _ => False) (own.map (·.2))) := fun W t =>
    pe_lc hc hN (hpi W t) ok (fun s H C cl fp => (hg s H C cl fp).pg _ takes0) (fun s H C cl fp => (ht s H C cl fp).pt _ takes0) (fun s H C cl fp => (he s H C cl fp).pe _ takes0) hs
  refine ⟨fun W t => pe_or2 (pe_lock (pl W t)) (pl W t), fun W ew S σ ρ Q q I R h => ?_⟩
  obtain ⟨es, hv, h⟩ := h
  obtain ⟨v, rv, q1, q2⟩ := vx.run W S σ ρ _ I.ok I.sl hv
  have sg := (hg {} (fun _ => none) 0 [] []).sim
  have st := (ht {} (fun _ => none) 0 [] []).sim
  have se := (he {} (fun _ => none) 0 [] []).sim
  cases rv with
  | @dT a ks _ n h1 h2 h3 =>
  rcases h1 with h1 | ⟨o, h1⟩
  · left
    refine ⟨a, .dT ks, h1, trivial, fun od => ?_⟩
    have e01 : Ev S (S.lk a (.frz od (.dT ks))) := ev_lk h1 trivial n
    have k1 := ok_lk (w := .frz od (.dT ks)) I.ok n e01.w
    refine sim_lc1 sg hw st se W ew (S.lk a (.frz od (.dT ks))) σ ρ _ q (I.ev e01 k1) (fun S' v' d' e k r hh => ?_) (kit_sim ki k1 (q2 a od _ h1 trivial) upd_same n h2 (h3.ev e01)) h
    obtain ⟨n', h'⟩ := e.lk (a := a) (o := od) (u := .dT ks) upd_same n
    exact ⟨h', R (S'.lk a (.dT ks)) v' d' (ev_un h1 trivial n e) (ok_lk k n' (ew_un h' trivial)) (r.ew (ew_un h' trivial)) hh⟩
  · right
    exact sim_lc1 sg hw st se W ew S σ ρ Q q I R (kit_sim ki I.ok q1 h1 n h2 h3) h
theorem v_lcT {w : EW} {ρ : Dv} {L : Lc} {q : DQ} {g : DTG} {vs : List Nat} {es : List (List Key × D)} (hv : val ρ L (.dT es)) (h : lcD (g noW) (dt noW) (de noW) (fun _ => True) (dwipe ρ vs) (fun acc L2 => q (.lst acc) L2) (f es) [] L) : dLcT val f g dt de vs w ρ L q := ⟨es, hv, h⟩
end
end Ed

set_option Elab.async false
set_option linter.all false
set_option maxRecDepth 100000
set_option maxHeartbeats 2000000
/-! len(o) by an own __len__. -/
namespace Ed
open PySem PySem.Spec PyProof.Rows L2 Dz
section
variable {prog : Program} {w : World} {A : Around} {E : Value → Shared → Prop} {s : Shared} {K : PySem.W.Frag} {x C f : Addr} {ox : Obj} {od : Option Obj}
theorem len_fn {Q : Value → Shared → Prop} (X : K.In s.heap) (I : PySem.W.InstAt s.heap x ox C od) (hs : PySem.W.findIn K (.ref C) "__len__" = some (some (.ref f))) (hf : PySem.W.isFn K (.ref f) = true)
    (h : wpAny (model prog w) A.in1 (call (.ref f) [.ref x]) (fun r s' => ∃ n u, r = .int n u ∧ 0 ≤ n ∧ n < 2 ^ 63 ∧ Q (.int n s'.toks) { s' with toks := s'.toks + 1 }) E s) : wpAny (model prog w) A (call (.builtin "len") [.ref x]) Q E s := by
  refine Calls.call_function_entry kind_len plain_len entry_len (args_len1 _) ?_
  unfold Builtin.«len»
  refine wpAny_bind (m := oneArg "len" _) (wpAny_pure ?_)
  refine wpAny_bind (m := callSpecial? (.ref x) (Str.ofString "__len__")) (PySem.W.special_fn X I hs (beq_iff_eq.mp hf) (wpAny_mono h (fun r s' hr => ?_) fun _ _ y => y))
  obtain ⟨n, u, rfl, h0, h1, hq⟩ := hr
  refine wpAny_bind (wpAny_holding (wpAny_pure ?_))
  refine wpAny_bind (wpAny_letGo ?_)
  show wpAny _ _ (if n < 0 then _ else _) _ _ _
  rw [if_neg (by omega)]
  show wpAny _ _ (if n ≥ 2 ^ 63 then _ else _) _ _ _
  rw [if_neg (by omega)]
  exact wpAny_bind (wpAny_mkInt (wpAny_pure ⟨_, rfl, hq⟩))
end
section
variable {X : Cx} {K : PySem.W.Frag} {C f : Addr} {k : Nat} {sp : DSp}
def lenOD (C : Addr) (sp : DSp) : DRL := fun xs L q => ∃ x fs, xs = [x] ∧ vIns L x = some (C, fs) ∧ sp [x] L (fun d L' => (∃ i, d = .int i ∧ 0 ≤ i ∧ i < 2 ^ 63) ∧ q d L') noE
theorem call_lenOD (hK : X.K = K) (hs : PySem.W.findIn K (.ref C) "__len__" = some (some (.ref f))) (hf : PySem.W.isFn K (.ref f) = true) (G : Kp X.prog X.w X.K X.mg X.base (L2.CX X.prog X.w) k f ["self"] [] (spD K 1 sp)) (hcl : Calm X.A) (hr : Room (k + 2) X.A) :
    CallR X (.builtin "len") (rOfL K (lenOD C sp)) := by
  subst hK
  rintro pins s σ H xs us Q I r ⟨S, as, q, rfl, k1, ra, R, x, fs, rfl, hx, h⟩
  obtain ⟨v, rfl, rv⟩ := vals1R ra
  obtain ⟨a, dx, gs, rfl, h2, _⟩ := vIns_ok k1 rv hx
  cases r with
  | @cons _ u _ _ ru rn =>
  cases rn
  cases (show u = Value.ref a from ru)
  obtain ⟨mA, J, _⟩ := ins_get I.hok h2
  obtain ⟨od, J, _⟩ := J.look
  obtain ⟨fd, Gf, b⟩ := G.ex
  have r1 := (hr.mono (show k + 1 ≤ k + 2 by omega)).in1
  have hsp : spD X.K 1 sp [.ref a] S.H (fun v H' => (∃ i, v = .int i ∧ 0 ≤ i ∧ i < 2 ^ 63) ∧ Q v H') E0 :=
    ⟨S, _, _, noE, rfl, k1, ra, rfl, fun S' v d e k2 rr h2 => by
      obtain ⟨⟨i, rfl, i0, i1⟩, h2⟩ := h2
      cases rr
      exact ⟨⟨i, rfl, i0, i1⟩, R S' _ _ e k2 (.int i) h2⟩, relE_no, h⟩
  refine len_fn I.kIn J hs hf ?_
  have bb := b s [.ref a] I.kIn rfl
  refine wpAny_call (codeAny_mono (Gf.go X.A.in1 X.stack s S.H ⟨[.ref a], []⟩ [.ref a] [.ref a] _ E0 hcl.in1 r1 I.env0.in1 bb (.cons rfl .nil) hsp) ?_)
  intro rs s' hq
  match rs, hq with
  | .error e, hq => exact passX0 pins σ S.H s e s' I hq
  | .ok (.ret u), hq =>
    obtain ⟨v, H', I', rw', ⟨i, rfl, i0, i1⟩, q'⟩ := I.after hq
    obtain ⟨t, rfl⟩ := rw'
    exact ⟨i, t, rfl, i0, i1, .int i, H', I'.tok _, ⟨_, rfl⟩, q'⟩
end
end Ed

set_option Elab.async false
set_option linter.all false
set_option maxRecDepth 100000
set_option maxHeartbeats 2000000
/-! x = [.. for .. in a dict]. -/
namespace Ed
open PySem PySem.Spec PyProof.Rows L2 Dz
section
variable {X : Cx} {K : PySem.W.Frag} {tge elt iter' : Expr} {te : WX → TE} {val : Dv → Lc → D → Prop} {wi : TE → TI} {tg : WX → TG} {dg : DTG} {pos spos : Pos} {ifs : List Expr} {scope : Scope} {own : List (Str × Nat)} {tt : WX → TT} {dt : DTT} {tl : WX → TE} {de : DTE}
section
variable {f : List (Key × D) → List D} {J : Addr → Obj → List (Key × V) → It}
theorem ds_setLcD {i : Nat} {y : Str} {py : Pos} (hc : X.calm = true) (hN : X.N.Nodup) (hy : X.N[i]? = some y) (hyl : X.env.scope.names.lookup y = some .local) (hsw : swapsWith (.ListComp elt [⟨tge, iter', ifs, 0⟩] scope pos) (some (.Name y py)) spos.line X.env = pure true)
    (ki : KI K wi f J) (wd : WD X K tge iter' wi te val) (ok : BlkOk X.N X.env.scope scope own) (hg : Blk X scope fun Y => DG Y K tg tge dg) (hw : GW tg (own.map (·.2))) (ht : Blk X scope fun Y => DPs Y K tt ifs dt) (he : Blk X scope fun Y => DE Y K tl elt de)
    (hs : ∀ x, foldedSetIterable iter' X.env x = pure x := by intro _; rfl) :
    DS X K (fun W D σ H => tLock (tAsg (tLc (wi (te W)) (tg fun _ _ _ _ => False) (tt fun _ _ _ _ => False) (tl fun _ _ _ _ => False) (own.map (·.2))) (gName i)) D σ H ∨ tAsg (tLc (wi (te W)) (tg fun _ _ _ _ => False) (tt fun _ _ _ _ => False) (tl fun _ _ _ _ => False) (own.map (·.2))) (gName i) D σ H)
      (.Assign [.Name y py] (.ListComp elt [⟨tge, iter', ifs, 0⟩] scope pos) spos) (dSet i (dLcD val f dg dt de (own.map (·.2)))) := by
  have key := (d_lcD2 hc hN ki wd ok hg hw ht he hs (pos := pos)).sim
  obtain ⟨⟨_, vx⟩, hpi⟩ := wd
  have pl : ∀ W, Takes X W → PS X (.Assign [.Name y py] (.ListComp elt [⟨tge, iter', ifs, 0⟩] scope pos) spos) (tAsg (tLc (wi (te W)) (tg fun _ _ _ _ => False) (tt fun _ _ _ _ => False) (tl fun _ _ _ _ => False) (own.map (·.2))) (gName i)) := fun W t =>
    ps_setLc hc hN hy hyl hsw (hpi W t) ok (fun s H C cl fp => (hg s H C cl fp).pg _ takes0) (fun s H C cl fp => (ht s H C cl fp).pt _ takes0) (fun s H C cl fp => (he s H C cl fp).pe _ takes0) hs
  refine ⟨fun W t => ps_or2 (ps_lock (pl W t)) (pl W t), fun W ew S σ ρ D d I R h => ?_⟩
  exact key W ew S σ ρ _ _ I (fun S1 v x e1 k1 r1 h1 => R.nx S1 _ _ e1 k1 ((I.sl.ev e1).set r1) h1) h
end
section
variable {f : List (List Key × D) → List D} {J : Addr → Obj → List (List Key × V) → It}
theorem ds_setLcT {i : Nat} {y : Str} {py : Pos} (hc : X.calm = true) (hN : X.N.Nodup) (hy : X.N[i]? = some y) (hyl : X.env.scope.names.lookup y = some .local) (hsw : swapsWith (.ListComp elt [⟨tge, iter', ifs, 0⟩] scope pos) (some (.Name y py)) spos.line X.env = pure true)
    (ki : KIT K wi f J) (wd : WD X K tge iter' wi te val) (ok : BlkOk X.N X.env.scope scope own) (hg : Blk X scope fun Y => DG Y K tg tge dg) (hw : GW tg (own.map (·.2))) (ht : Blk X scope fun Y => DPs Y K tt ifs dt) (he : Blk X scope fun Y => DE Y K tl elt de)
    (hs : ∀ x, foldedSetIterable iter' X.env x = pure x := by intro _; rfl) :
    DS X K (fun W D σ H => tLock (tAsg (tLc (wi (te W)) (tg fun _ _ _ _ => False) (tt fun _ _ _ _ => False) (tl fun _ _ _ _ => False) (own.map (·.2))) (gName i)) D σ H ∨ tAsg (tLc (wi (te W)) (tg fun _ _ _ _ => False) (tt fun _ _ _ _ => False) (tl fun _ _ _ _ => False) (own.map (·.2))) (gName i) D σ H)
      (.Assign [.Name y py] (.ListComp elt [⟨tge, iter', ifs, 0⟩] scope pos) spos) (dSet i (dLcT val f dg dt de (own.map (·.2)))) := by
  have key := (d_lcT hc hN ki wd ok hg hw ht he hs (pos := pos)).sim
  obtain ⟨⟨_, vx⟩, hpi⟩ := wd
  have pl : ∀ W, Takes X W → PS X (.Assign [.Name y py] (.ListComp elt [⟨tge, iter', ifs, 0⟩] scope pos) spos) (tAsg (tLc (wi (te W)) (tg fun _ _ _ _ => False) (tt fun _ _ _ _ => False) (tl fun _ _ _ _ => False) (own.map (·.2))) (gName i)) := fun W t =>
    ps_setLc hc hN hy hyl hsw (hpi W t) ok (fun s H C cl fp => (hg s H C cl fp).pg _ takes0) (fun s H C cl fp => (ht s H C cl fp).pt _ takes0) (fun s H C cl fp => (he s H C cl fp).pe _ takes0) hs
  refine ⟨fun W t => ps_or2 (ps_lock (pl W t)) (pl W t), fun W ew S σ ρ D d I R h => ?_⟩
  exact key W ew S σ ρ _ _ I (fun S1 v x e1 k1 r1 h1 => R.nx S1 _ _ e1 k1 ((I.sl.ev e1).set r1) h1) h
end
end
end Ed

set_option Elab.async false
set_option linter.all false
set_option maxRecDepth 100000
set_option maxHeartbeats 2000000
/-! not in a tuple of texts, of any thing; a slice that may change. -/
namespace Ed
open PySem PySem.Spec PyProof.Rows L2 Dz
theorem op_ninWS {X : Cx} {K : PySem.W.Frag} (hK : X.K = K) (hu : X.A.units + 1 < cLine) : OpR X (compareOp .NotIn) (rOf K (inWSD true)) := by
  subst hK
  rintro pins s σ H x y v u Q I rx ry ⟨S, a, b, q, rfl, k1, ra, rb, R, zs, h1, hy, h⟩
  obtain ⟨_, heq⟩ := big_at I k1 h1 ra rx
  have fin : ∀ its : Array Value, (its.any fun _ => false) = false := fun its => by simp
  have tp : ∀ c, SqT X.K S.H c (zs.map V.str) → wpAny (model X.prog X.w) X.A (compareOp .NotIn v (.ref c)) (fun y s' => ∃ z H', Inv X pins σ H' s' ∧ RelV z y ∧ Q z H') X.xe s := fun c ht => by
    obtain ⟨its, rr, hT, _⟩ := I.tuple ht
    refine SeqAt.notIn_tupleAt (fun _ => false) hT (fun y hy => ?_) ?_
    · obtain ⟨b, t, rfl⟩ := vals_strs rr y (by simpa using hy)
      exact heq _ b t (by show X.A.units + 1 < cLine; exact hu)
    · rw [fin]; exact ⟨.bl true, S.H, I, rfl, R S _ _ (.refl S) k1 (.bl _) h⟩
  rcases hy with rfl | rfl | rfl
  · cases rb with
    | ctup t r =>
      cases (show u = Value.ref _ from ry)
      exact tp _ (by rw [← r.str_of]; exact t.sq)
  · cases rb with
    | tup n t r =>
      cases (show u = Value.ref _ from ry)
      exact tp _ (by rw [← r.str_of]; exact .of t)
  · cases rb with
    | lst n t r =>
      cases (show u = Value.ref _ from ry)
      rw [r.str_of] at t
      have ht := SqL.of (K := X.K) t
      obtain ⟨its, rr, ⟨o, n, ho, hc, hdn, hd⟩, _⟩ := I.list ht
      refine SeqAt.notIn_listAt (fun _ => false) ⟨o, ho, hc, n, hd⟩ (fun y hy => ?_) ?_
      · obtain ⟨b, t, rfl⟩ := vals_strs rr y (by simpa using hy)
        exact heq _ b t (by show X.A.units + 1 < cLine; exact hu)
      · rw [fin]; exact ⟨.bl true, S.H, I, rfl, R S _ _ (.refl S) k1 (.bl _) h⟩
def ninWD : DR2 := fun x y L q => inAD true x y L q ∨ inWSD true x y L q
theorem sim_ninW {K : PySem.W.Frag} : SimR2 K (fun x y H Q => (rInA K true x y H Q ∨ rOf K (inTD true) x y H Q) ∨ rOf K (inWSD true) x y H Q) ninWD := sim_inAD.or sim_of
theorem op_ninW {X : Cx} {K : PySem.W.Frag} (hK : X.K = K) (hu : X.A.units + 65 < cLine) : OpR X (compareOp .NotIn) (fun x y H Q => (rInA K true x y H Q ∨ rOf K (inTD true) x y H Q) ∨ rOf K (inWSD true) x y H Q) := (op_ninAD hK hu).or (op_ninWS hK (by omega))
theorem v_ninT {L : Lc} {x y : D} {zs : List Str} {q : DQ} (h : okD x = true) (hy : y = .ctup (zs.map .str) ∨ y = .tup (zs.map .str) ∨ y = .lst (zs.map .str)) (hq : q (.bl (!(zs.any fun z => isS z x))) L) : ninWD x y L q := by
  have hv : vSeq L y = some (zs.map .str) := by rcases hy with rfl | rfl | rfl <;> rfl
  have big : isBig L x → (zs.any fun z => isS z x) = false → ninWD x y L q := fun b e => .inr ⟨zs, b, hy, by rw [e] at hq; exact hq⟩
  have sca : ∀ u, sc x = some u → (∀ z, eqV (.str z) u = isS z x) → ninWD x y L q := fun u hu he => .inl (.inl (.inl ⟨_, u, _, hv, hu, scA_strs, by
    show q (.bl (!inV u _)) L
    rw [inV_strs _ he]; exact hq⟩))
  have no : (∀ z, isS z x = false) → (zs.any fun z => isS z x) = false := fun e => List.any_eq_false.mpr fun z _ => by rw [e]; decide
  cases x with
  | non => exact sca _ rfl fun z => rfl
  | bl b => exact sca _ rfl fun z => rfl
  | int b => exact sca _ rfl fun z => rfl
  | str b => exact sca _ rfl (eqV_isS b)
  | lst ds => exact big (.inr (.inr (.inl ⟨_, rfl⟩))) (no fun _ => rfl)
  | tup ds => exact big (.inr (.inr (.inr (.inl ⟨_, rfl⟩)))) (no fun _ => rfl)
  | dK es => exact big (.inr (.inl ⟨_, rfl⟩)) (no fun _ => rfl)
  | _ => rw [okD.eq_def] at h; cases h
/-! slices that may change -/
def slCD : D → Option Int → Option Int → Lc → DQ → Prop := fun x lo hi L q => ∃ ds, vRd L x = some ds ∧ ∀ p, L p = none → q (.ref p) (updL L p (.lst (cutD ds lo hi)))
section
variable {K : PySem.W.Frag} {X : Cx} {a : Expr} {ta : WX → TE} {da : DTE} {pos : Pos}
theorem sim_slC : SimSl K (rSlAll K) slCD := by
  rintro S x a lo hi Q q k rx R ⟨ds, h1, h⟩
  obtain ⟨p, xs, rfl, h4, h5⟩ := vRd_ok k rx h1
  refine .inl ⟨p, xs, rfl, h4, fun p np => ?_⟩
  have e := ev_newc (o := .lst (cutV xs lo hi)) (c := .lst (cutD ds lo hi)) np k
  exact R _ _ _ e (ok_newc np k ⟨_, upd_same, h5.cut.ev e⟩) (.ref p) (h p (k.lno np))
theorem d_sliceC {lo hi : Option Expr} {tl th : WX → TO} {dl dh : DTO} {p2 : Pos} (hK : X.K = K) (ha : DE X K ta a da) (hl : DO X K tl lo dl) (hh : DO X K th hi dh) : DE X K (fun W => tSl (rSlAll K) (ta W) (tl W) (th W)) (.Subscript a (.Slice lo hi none p2) pos) (dSl slCD da dl dh) := by
  refine ⟨fun W t => pe_slice (sl_all hK) (ha.pe W t) (hl.po W t) (hh.po W t), fun W ew S σ ρ Q q I R h => ?_⟩
  refine ha.sim W ew S σ ρ _ _ I (fun S1 v x e1 k1 r1 h1 => ?_) h
  refine hl.sim W ew S1 σ ρ _ _ (I.ev e1 k1) (fun S2 o e2 k2 h2 => ?_) h1
  refine hh.sim W ew S2 σ ρ _ _ (I.ev (e1.trans e2) k2) (fun S3 o' e3 k3 h3 => ?_) h2
  exact sim_slC S3 v x o o' Q q k3 ((r1.ev e2).ev e3) (R.ev ((e1.trans e2).trans e3)) h3
end
theorem v_slC {L : Lc} {x : D} {ds : List D} {lo hi : Option Int} {q : DQ} (h1 : vRd L x = some ds) (h : ∀ p, L p = none → q (.ref p) (updL L p (.lst (cutD ds lo hi)))) : slCD x lo hi L q := ⟨ds, h1, h⟩
section
variable {X : Cx} {K : PySem.W.Frag} {tge iter elt : Expr} {te : WX → TE} {val : Dv → Lc → D → Prop} {wi : TE → TI} {f : List (List Key × D) → List D} {J : Addr → Obj → List (List Key × V) → It} {tg : WX → TG} {dg : DTG} {tb : WX → TS} {db : DTS} {body : List Stmt} {pos spos : Pos}
variable {ifs : List Expr} {scope : Scope} {own : List (Str × Nat)} {tt : WX → TT} {dt : DTT} {tl : WX → TE} {de : DTE}
/-- the same, its list may change -/
def dLcTC (val : Dv → Lc → D → Prop) (f : List (List Key × D) → List D) (g : DTG) (tt : DTT) (te : DTE) (vs : List Nat) : DTE := fun w ρ L q => ∃ es, val ρ L (.dT es) ∧ dLcC (fun _ _ L k => k (f es) (fun _ => True) L) g tt te vs w ρ L q
theorem d_lcTC (hc : X.calm = true) (hN : X.N.Nodup) (ki : KIT K wi f J) {iter' : Expr} (wd : WD X K tge iter' wi te val) (ok : BlkOk X.N X.env.scope scope own) (hg : Blk X scope fun Y => DG Y K tg tge dg) (hw : GW tg (own.map (·.2))) (ht : Blk X scope fun Y => DPs Y K tt ifs dt) (he : Blk X scope fun Y => DE Y K tl elt de)
    (hs : ∀ x, foldedSetIterable iter' X.env x = pure x := by intro _; rfl) :
    DE X K (fun W σ H Q => tLockE (tLc (wi (te W)) (tg fun _ _ _ _ => False) (tt fun _ _ _ _ => False) (tl fun _ _ _ _ => False) (own.map (·.2))) σ H Q ∨ tLc (wi (te W)) (tg fun _ _ _ _ => False) (tt fun _ _ _ _ => False) (tl fun _ _ _ _ => False) (own.map (·.2)) σ H Q)
      (.ListComp elt [⟨tge, iter', ifs, 0⟩] scope pos) (dLcTC val f dg dt de (own.map (·.2))) := by
  obtain ⟨⟨_, vx⟩, hpi⟩ := wd
  have pl : ∀ W, Takes X W → PE X (.ListComp elt [⟨tge, iter', ifs, 0⟩] scope pos) (tLc (wi (te W)) (tg fun _ _ _ _ => False) (tt fun _ _ _ _ => False) (tl fun _ _ _ _ => False) (own.map (·.2))) := fun W t =>
    pe_lc hc hN (hpi W t) ok (fun s H C cl fp => (hg s H C cl fp).pg _ takes0) (fun s H C cl fp => (ht s H C cl fp).pt _ takes0) (fun s H C cl fp => (he s H C cl fp).pe _ takes0) hs
  refine ⟨fun W t => pe_or2 (pe_lock (pl W t)) (pl W t), fun W ew S σ ρ Q q I R h => ?_⟩
  obtain ⟨es, hv, h⟩ := h
  obtain ⟨v, rv, q1, q2⟩ := vx.run W S σ ρ _ I.ok I.sl hv
  have sg := (hg {} (fun _ => none) 0 [] []).sim
  have st := (ht {} (fun _ => none) 0 [] []).sim
  have se := (he {} (fun _ => none) 0 [] []).sim
  cases rv with
  | @dT a ks _ n h1 h2 h3 =>
  rcases h1 with h1 | ⟨o, h1⟩
  · left
    refine ⟨a, .dT ks, h1, trivial, fun od => ?_⟩
    have e01 : Ev S (S.lk a (.frz od (.dT ks))) := ev_lk h1 trivial n
    have k1 := ok_lk (w := .frz od (.dT ks)) I.ok n e01.w
    refine sim_lcC1 sg hw st se W ew (S.lk a (.frz od (.dT ks))) σ ρ _ q (I.ev e01 k1) (fun S' v' d' e k r hh => ?_) (kit_sim ki k1 (q2 a od _ h1 trivial) upd_same n h2 (h3.ev e01)) h
    obtain ⟨n', h'⟩ := e.lk (a := a) (o := od) (u := .dT ks) upd_same n
    exact ⟨h', R (S'.lk a (.dT ks)) v' d' (ev_un h1 trivial n e) (ok_lk k n' (ew_un h' trivial)) (r.ew (ew_un h' trivial)) hh⟩
  · right
    exact sim_lcC1 sg hw st se W ew S σ ρ Q q I R (kit_sim ki I.ok q1 h1 n h2 h3) h
theorem v_lcTC {w : EW} {ρ : Dv} {L : Lc} {q : DQ} {g : DTG} {vs : List Nat} {es : List (List Key × D)} (hv : val ρ L (.dT es)) (h : lcD (g noW) (dt noW) (de noW) (fun _ => True) (dwipe ρ vs) (fun acc L2 => ∀ p, L2 p = none → q (.ref p) (updL L2 p (.lst acc))) (f es) [] L) : dLcTC val f g dt de vs w ρ L q := ⟨es, hv, h⟩
end
section
variable {X : Cx} {K : PySem.W.Frag} {tge elt iter' : Expr} {te : WX → TE} {val : Dv → Lc → D → Prop} {wi : TE → TI} {tg : WX → TG} {dg : DTG} {pos spos : Pos} {ifs : List Expr} {scope : Scope} {own : List (Str × Nat)} {tt : WX → TT} {dt : DTT} {tl : WX → TE} {de : DTE}
section
variable {f : List (List Key × D) → List D} {J : Addr → Obj → List (List Key × V) → It}
theorem ds_setLcTC {i : Nat} {y : Str} {py : Pos} (hc : X.calm = true) (hN : X.N.Nodup) (hy : X.N[i]? = some y) (hyl : X.env.scope.names.lookup y = some .local) (hsw : swapsWith (.ListComp elt [⟨tge, iter', ifs, 0⟩] scope pos) (some (.Name y py)) spos.line X.env = pure true)
    (ki : KIT K wi f J) (wd : WD X K tge iter' wi te val) (ok : BlkOk X.N X.env.scope scope own) (hg : Blk X scope fun Y => DG Y K tg tge dg) (hw : GW tg (own.map (·.2))) (ht : Blk X scope fun Y => DPs Y K tt ifs dt) (he : Blk X scope fun Y => DE Y K tl elt de)
    (hs : ∀ x, foldedSetIterable iter' X.env x = pure x := by intro _; rfl) :
    DS X K (fun W D σ H => tLock (tAsg (tLc (wi (te W)) (tg fun _ _ _ _ => False) (tt fun _ _ _ _ => False) (tl fun _ _ _ _ => False) (own.map (·.2))) (gName i)) D σ H ∨ tAsg (tLc (wi (te W)) (tg fun _ _ _ _ => False) (tt fun _ _ _ _ => False) (tl fun _ _ _ _ => False) (own.map (·.2))) (gName i) D σ H)
      (.Assign [.Name y py] (.ListComp elt [⟨tge, iter', ifs, 0⟩] scope pos) spos) (dSet i (dLcTC val f dg dt de (own.map (·.2)))) := by
  have key := (d_lcTC hc hN ki wd ok hg hw ht he hs (pos := pos)).sim
  obtain ⟨⟨_, vx⟩, hpi⟩ := wd
  have pl : ∀ W, Takes X W → PS X (.Assign [.Name y py] (.ListComp elt [⟨tge, iter', ifs, 0⟩] scope pos) spos) (tAsg (tLc (wi (te W)) (tg fun _ _ _ _ => False) (tt fun _ _ _ _ => False) (tl fun _ _ _ _ => False) (own.map (·.2))) (gName i)) := fun W t =>
    ps_setLc hc hN hy hyl hsw (hpi W t) ok (fun s H C cl fp => (hg s H C cl fp).pg _ takes0) (fun s H C cl fp => (ht s H C cl fp).pt _ takes0) (fun s H C cl fp => (he s H C cl fp).pe _ takes0) hs
  refine ⟨fun W t => ps_or2 (ps_lock (pl W t)) (pl W t), fun W ew S σ ρ D d I R h => ?_⟩
  exact key W ew S σ ρ _ _ I (fun S1 v x e1 k1 r1 h1 => R.nx S1 _ _ e1 k1 ((I.sl.ev e1).set r1) h1) h
end
end
/-! len of a dict by tuples -/
theorem sizeLine63 : sizeLine < 2 ^ 63 := by rw [sizeLine_eq]; decide
theorem call_len_rT {X : Cx} : CallR X (.builtin "len") (fun xs H Q => ∃ (p : Addr) (kvs : List (List Key × V)), xs = [.ref p] ∧ Rd H p (.dT kvs) ∧ Q (.int ((kvs.length : Nat) : Int)) H) := by
  rintro pins s σ H xs us Q I r ⟨p, kvs, rfl, hp, q⟩
  obtain ⟨u, rfl, ru⟩ := vals1 r
  cases (show u = Value.ref p from ru)
  obtain ⟨z, hs, ys, pr, dd⟩ := dt_rd I.hok hp
  have hl := Paired.length pr
  refine call_len_dictH hs dd ?_ ?_
  · have := sizeLine63; omega
  · rw [← hl]
    exact ⟨.int ((kvs.length : Nat) : Int), H, I.tok (s.toks + 1 + 1), ⟨s.toks + 1, rfl⟩, q⟩
def lenTD : DRL := fun xs L q => ∃ x es, xs = [x] ∧ vDT L x = some es ∧ q (.int ((es.length : Nat) : Int)) L
theorem sim_lenT {K : PySem.W.Frag} : SimRL K (fun xs H Q => ∃ (p : Addr) (kvs : List (List Key × V)), xs = [.ref p] ∧ Rd H p (.dT kvs) ∧ Q (.int ((kvs.length : Nat) : Int)) H) lenTD := by
  rintro S xs as Q q k r R ⟨x, es, rfl, h1, h⟩
  obtain ⟨v, rfl, r1⟩ := vals1R r
  obtain ⟨a, ks, rfl, h2, h3⟩ := vDT_ok k r1 h1
  exact ⟨a, ks, rfl, h2, R S _ _ (.refl S) k (.int _) (by rw [show ks.length = es.length from TabR.len (S := S) h3]; exact h)⟩
/-! data within data becomes data -/
def swapR (w : Addr) (y : D) : D → D
  | .ref b => if b = w then y else .ref b
  | d => d
theorem RpL.swap {K : PySem.W.Frag} {H : Hp} {Λ : Addr → Prop} {w : Addr} {y : D} (r : Rp K H Λ (.ref w) y) : ∀ {vs : List V} {ds : List D}, RpL K H Λ vs ds → RpL K H Λ vs (ds.map (swapR w y))
  | _, _, .nil => .nil
  | _, _, .cons (d := d) h t => by
    refine .cons ?_ (RpL.swap r t)
    cases h with
    | ref a =>
      show Rp K H Λ _ (if a = w then y else .ref a)
      by_cases e : a = w
      · subst e; rw [if_pos rfl]; exact r
      · rw [if_neg e]; exact .ref a
    | non => exact .non
    | bl b => exact .bl b
    | int i => exact .int i
    | str x => exact .str x
    | ty n => exact .ty n
    | lst a b c => exact .lst a b c
    | tup a b c => exact .tup a b c
    | ctup a b => exact .ctup a b
    | dK a b c e => exact .dK a b c e
    | dT a b c e => exact .dT a b c e
    | ins a b c e => exact .ins a b c e
    | err a b c e f g => exact .err a b c e f g
    | exo a b c e => exact .exo a b c e
    | scr a b => exact .scr a b
def swapC (w : Addr) (y : D) : Cell → Cell
  | .lst ds => .lst (ds.map (swapR w y))
  | .dK es => .dK (es.map fun e => (e.1, swapR w y e.2))
  | .dT es => .dT (es.map fun e => (e.1, swapR w y e.2))
  | .ins C fs => .ins C (fs.map fun e => (e.1, swapR w y e.2))
theorem CellOk.swap {K : PySem.W.Frag} {H : Hp} {Λ : Addr → Prop} {w a : Addr} {y : D} {c : Cell} (r : Rp K H Λ (.ref w) y) (h : CellOk K H Λ a c) : CellOk K H Λ a (swapC w y c) := by
  cases c with
  | lst ds =>
    obtain ⟨xs, h1, h2⟩ := h
    exact ⟨xs, h1, h2.swap r⟩
  | dK es =>
    obtain ⟨ks, h1, h2, h3⟩ := h
    refine ⟨ks, h1, by rw [h2, List.map_map]; rfl, ?_⟩
    have := h3.swap r
    rw [List.map_map] at this ⊢
    exact this
  | dT es =>
    obtain ⟨ks, h1, h2, h3⟩ := h
    refine ⟨ks, h1, by rw [h2, List.map_map]; rfl, ?_⟩
    have := h3.swap r
    rw [List.map_map] at this ⊢
    exact this
  | ins C es =>
    obtain ⟨dx, ks, h1, h2, h3⟩ := h
    refine ⟨dx, ks, h1, by rw [h2, List.map_map]; rfl, ?_⟩
    have := h3.swap r
    rw [List.map_map] at this ⊢
    exact this
/-- within a cell -/
theorem Gh.inside {d y : D} {L L1 : Lc} {w a : Addr} {c : Cell} (g : Gh (.ref w) L y L1) (h1 : L1 a = some c) : Gh d L d (updL L1 a (swapC w y c)) := fun K S v k e r => by
  obtain ⟨T, t1, t2, ev, k2, r2⟩ := g K S (.ref w) k e (.ref w)
  subst t2
  have ev2 : Ev T ⟨T.H, updL T.L a (swapC w y c), T.Λ⟩ := ⟨fun b u h m => ⟨m, u, h, .refl u⟩, fun b h m => ⟨rfl, h, by
    have ne : b ≠ a := fun z => by rw [z, h1] at m; cases m
    show updL T.L a (swapC w y c) b = none
    rw [updL_ne ne]; exact m⟩⟩
  refine ⟨⟨T.H, updL T.L a (swapC w y c), T.Λ⟩, t1, rfl, ev.trans ev2, ⟨fun b c' hb => ?_, fun b hb => k2.there b hb⟩, (r.ev ev).ev ev2⟩
  have hb' : updL T.L a (swapC w y c) b = some c' := hb
  by_cases z : b = a
  · subst z
    rw [updL_same] at hb'
    cases hb'
    obtain ⟨m1, m2⟩ := k2.cell b c h1
    exact ⟨m1, m2.swap r2⟩
  · rw [updL_ne z] at hb'
    exact k2.cell b c' hb'
/-- within a list -/
theorem Gh.lstIn {y : D} {L L1 : Lc} {w : Addr} {ds : List D} (g : Gh (.ref w) L y L1) : Gh (.lst ds) L (.lst (ds.map (swapR w y))) L1 := fun K S v k e r => by
  obtain ⟨T, t1, t2, ev, k2, r2⟩ := g K S (.ref w) k e (.ref w)
  refine ⟨T, t1, t2, ev, k2, ?_⟩
  cases r.ev ev with
  | lst n h1 h2 => exact .lst n h1 (h2.swap r2)
theorem Gh.tupIn {y : D} {L L1 : Lc} {w : Addr} {ds : List D} (g : Gh (.ref w) L y L1) : Gh (.tup ds) L (.tup (ds.map (swapR w y))) L1 := fun K S v k e r => by
  obtain ⟨T, t1, t2, ev, k2, r2⟩ := g K S (.ref w) k e (.ref w)
  refine ⟨T, t1, t2, ev, k2, ?_⟩
  cases r.ev ev with
  | tup n h1 h2 => exact .tup n h1 (h2.swap r2)
theorem cls_no {mt : Addr → Addr → Bool → Prop} {w : EW} {D0 : DEnds} {c : DCl} {l : List (Option DCt)} {C : Addr} {gs : List (Str × D)} {ρ : Dv} {L : Lc} (h : mt C c.c false) (k : dClsT mt w D0 l C gs ρ L) : dClsT mt w D0 (some (.one c) :: l) C gs ρ L := ⟨false, h, (fun e => nomatch e), fun _ => k⟩
theorem cls_yes {mt : Addr → Addr → Bool → Prop} {w : EW} {D0 : DEnds} {c : DCl} {l : List (Option DCt)} {C : Addr} {gs : List (Str × D)} {ρ : Dv} {L : Lc} (h : mt C c.c true) (k : ∀ a dd, c.ds a dd C noW (D0.gone c.i) (dput ρ (.exo a dd C gs) c.i) L) : dClsT mt w D0 (some (.one c) :: l) C gs ρ L := ⟨true, h, fun _ => k, (fun e => nomatch e)⟩
theorem vIns_of {L : Lc} {a C : Addr} {fs : List (Str × D)} (h : L a = some (.ins C fs)) : vIns L (.ref a) = some (C, fs) := by simp [vIns, h]
end Ed

set_option Elab.async false
set_option linter.all false
set_option maxRecDepth 100000
set_option maxHeartbeats 2000000
/-! Methods called with keywords. -/
namespace Ed
open PySem PySem.Spec PyProof.Rows L2 Dz
/-- o.m(.., k = v) -/
def tMthKS (C : Addr) (m : Str) (n mm : Nat) (r : L2.St → List V → List V → Hp → VK → Prop) (ta : TE) (t tk : TA) : TE := fun σ H Q => ta σ H fun x H1 => ∃ a dx fs, x = .ref a ∧ H1 a = some (.ins C dx fs) ∧ fs.lookup m = none ∧ t σ H1 fun vs H2 => tk σ H2 fun zs H3 => (x :: vs).length = n ∧ zs.length = mm ∧ r σ (x :: vs) zs H3 Q
def dMthK (C : Addr) (m : Str) (sp : DSp) (n mm : Nat) (g : List D → List D → List D) (np : Nat) (o : DTE) (a b : DTA) : DTE := fun w ρ L q => o w ρ L fun x L1 => ∃ fs, vIns L1 x = some (C, fs) ∧ fs.lookup m = none ∧ a w ρ L1 fun ds L2 => b w ρ L2 fun es L3 => (x :: ds).length = n ∧ es.length = mm ∧ (g (x :: ds) es).length = np ∧ sp (g (x :: ds) es) L3 q fun E gs L4 => w E gs ρ L4
section
variable {X : Cx} {K : PySem.W.Frag} {k n nn : Nat} {f C : Addr} {ps ks : List Str} {sp : DSp} {x m qual : Str} {st : Stmt} {dvs : List V} {kwd : List (Str × V)} {o e : Expr} {es : List Expr} {kws : List Keyword} {apos pos : Pos} {ta : WX → TE} {da : DTE} {tr tk : WX → TA} {dr dk : DTA}
section
variable {r : L2.St → List V → List V → Hp → VK → Prop} {to : TE} {t u : TA} {pl : Sem Bool}
theorem pe_mthKS0 (he : PE X o to) (c : Cls X.K C) (hm : Meth X.K C m f) (hc : CallKS X (.ref f) 1 ks r) (hkw : PK X kws u)
    (ht : eval (.Call (.Attribute o m apos) [] kws pos) X.env = (do
      let ov ← eval o X.env
      standAt apos.atName
      let (f, first) ← holding [ov] (getMethod ov m pl)
      callWith pos f first (backTo pos (starEach [] X.env)) (backToKw pos (keywordEach kws X.env))) := by rfl)
    (hall : (backToKw pos (keywordEach kws X.env)).all (·.1.isSome) = true := by rfl) (hks : (backToKw pos (keywordEach kws X.env)).filterMap (·.1) = ks := by rfl)
    (hpl : ((backTo pos (starEach [] X.env)).any (·.1) || (backToKw pos (keywordEach kws X.env)).any (·.1.isNone)) = false := by rfl) :
    PE X (.Call (.Attribute o m apos) [] kws pos) (tMthKS C m 1 ks.length r to tNil u) := by
  constructor
  intro pins s σ H Q I h
  refine PySem.W.methodCall_KW (pl := pl) (thn (he.run pins s σ H _ I h) ?_) ht
  rintro v s1 ⟨y, H1, I1, ry, a, dx, fs, rfl, ea, l, q⟩
  cases (show v = Value.ref a from ry)
  refine getmeth_ok I1 ea c hm l ?_
  refine PySem.W.callWith_KW0 (first := [.ref a]) (h₀ := X.base) I.ok.mod.kin hm.kp hall ?_ hpl
  refine thn (hkw.run pos pins s1 σ H1 _ I1 q) ?_
  rintro ws s2 ⟨zs, H2, I2, rz, l1, l2, q2⟩
  refine ⟨I2.kIn, ?_⟩
  rw [hks]
  exact hc pins s2 σ H2 [.ref a] zs [.ref a] ws Q I2 (.cons rfl .nil) rz l1 l2 q2
theorem pe_mthKS (he : PE X o to) (c : Cls X.K C) (hm : Meth X.K C m f) (hc : CallKS X (.ref f) n ks r) (ha : PA X (e :: es) t) (hkw : PK X kws u)
    (ht : eval (.Call (.Attribute o m apos) (e :: es) kws pos) X.env = (do
      let ov ← eval o X.env
      standAt apos.atName
      let (f, first) ← holding [ov] (getMethod ov m pl)
      callWith pos f first (backTo pos (starEach (e :: es) X.env)) (backToKw pos (keywordEach kws X.env))) := by rfl)
    (hall : (backToKw pos (keywordEach kws X.env)).all (·.1.isSome) = true := by rfl) (hks : (backToKw pos (keywordEach kws X.env)).filterMap (·.1) = ks := by rfl)
    (hst : starEach (e :: es) X.env = (false, eval e X.env) :: starEach es X.env := by rfl)
    (hpl : ((backTo pos (starEach (e :: es) X.env)).any (·.1) || (backToKw pos (keywordEach kws X.env)).any (·.1.isNone)) = false := by rfl) :
    PE X (.Call (.Attribute o m apos) (e :: es) kws pos) (tMthKS C m n ks.length r to t u) := by
  constructor
  intro pins s σ H Q I h
  refine PySem.W.methodCall_KW (pl := pl) (thn (he.run pins s σ H _ I h) ?_) ht
  rintro v s1 ⟨y, H1, I1, ry, a, dx, fs, rfl, ea, l, q⟩
  cases (show v = Value.ref a from ry)
  refine getmeth_ok I1 ea c hm l ?_
  refine PySem.W.callWith_KW (first := [.ref a]) (h₀ := X.base) I.ok.mod.kin hm.kp hall (thn (ha.run pos pins s1 σ H1 _ I1 q) ?_) hpl hst
  rintro us s2 ⟨vs, H2, I2, rv, q2⟩
  refine thn (hkw.run pos pins s2 σ H2 _ I2 q2) ?_
  rintro ws s3 ⟨zs, H3, I3, rz, l1, l2, q3⟩
  refine ⟨I3.kIn, ?_⟩
  rw [hks]
  exact hc pins s3 σ H3 (.ref a :: vs) zs (.ref a :: us) ws Q I3 (.cons rfl rv) rz l1 l2 q3
end
theorem sim_mthK {is : List Nat} {ms : List V} {md : List D} (hm' : CRL K ms md) (ho : SimE K ta da) (ha : SimA K tr dr) (hk : SimA K tk dk) : SimE K (fun W => tMthKS C m n ks.length (fun σ vs zs H Q => spD K nn sp (gPerm is ms vs zs) H Q (WE W σ)) (ta W) (tr W) (tk W)) (dMthK C m sp n ks.length (gPerm is md) nn da dr dk) := fun W ew S σ ρ Q q I R h => by
  refine ho W ew S σ ρ _ _ I (fun S1 v x e1 k1 r1 h1 => ?_) h
  obtain ⟨fs, hv, hl, h1⟩ := h1
  obtain ⟨a, dx, gs, rfl, h2, h3⟩ := vIns_ok k1 r1 hv
  have hn : gs.lookup m = none := by
    rcases h3.lookup m with ⟨_, z⟩ | ⟨d, v, z, _⟩
    · exact z
    · rw [hl] at z; cases z
  refine ⟨a, dx, gs, rfl, h2, hn, ?_⟩
  refine ha W ew S1 σ ρ _ _ (I.ev e1 k1) (fun S2 vs xs e2 k2 r2 h4 => ?_) h1
  refine hk W ew S2 σ ρ _ _ (I.ev (e1.trans e2) k2) (fun S3 zs ys e3 k3 r3 h5 => ?_) h4
  obtain ⟨l1, l2, l3, h5⟩ := h5
  have e13 := (e1.trans e2).trans e3
  exact ⟨by rw [List.length_cons, r2.length]; exact l1, by rw [r3.length]; exact l2, S3, _, q, _, rfl, k3, gPerm_rp hm' (.cons (r1.ev (e2.trans e3)) (r2.ev e3)) r3, l3, R.ev e13, relE_w (I.wi.ev e13) (I.sl.ev e13), h5⟩
theorem d_mthK0 {pl : Sem Bool} {is : List Nat} {ms : List V} {md : List D} (hm' : CRL K ms md) (c : Cls X.K C) (hm : Meth X.K C m f) (G : Kx X.prog X.w X.K X.mg X.base (L2.CX X.prog X.w) k x qual st dvs kwd f ps (spD K nn sp)) (hcl : Calm X.A) (hr : Room k X.A) (hb : ∀ fd, FunD X.K x qual (defArgs st) (defBody st) (defScope st) dvs kwd f fd → ∃ g, KBn X.K fd ps 1 ks g (gPerm is ms)) (ho : DE X K ta o da) (hkw : DK X K tk kws dk)
    (ht : eval (.Call (.Attribute o m apos) [] kws pos) X.env = (do
      let ov ← eval o X.env
      standAt apos.atName
      let (f, first) ← holding [ov] (getMethod ov m pl)
      callWith pos f first (backTo pos (starEach [] X.env)) (backToKw pos (keywordEach kws X.env))) := by rfl)
    (hall : (backToKw pos (keywordEach kws X.env)).all (·.1.isSome) = true := by rfl) (hks : (backToKw pos (keywordEach kws X.env)).filterMap (·.1) = ks := by rfl)
    (hpl : ((backTo pos (starEach [] X.env)).any (·.1) || (backToKw pos (keywordEach kws X.env)).any (·.1.isNone)) = false := by rfl) :
    DE X K (fun W => tMthKS C m 1 ks.length (fun σ vs zs H Q => spD K nn sp (gPerm is ms vs zs) H Q (WE W σ)) (ta W) tNil (tk W)) (.Call (.Attribute o m apos) [] kws pos) (dMthK C m sp 1 ks.length (gPerm is md) nn da dNil dk) :=
  ⟨fun W t => pe_mthKS0 (ho.pe W t) c hm (callKS_x (CX := L2.CX X.prog X.w) G hcl hr hb t) (hkw.pk W t) ht hall hks hpl, sim_mthK hm' ho.sim (da_nil (X := X)).sim hkw.sim⟩
theorem d_mthK {pl : Sem Bool} {is : List Nat} {ms : List V} {md : List D} (hm' : CRL K ms md) (c : Cls X.K C) (hm : Meth X.K C m f) (G : Kx X.prog X.w X.K X.mg X.base (L2.CX X.prog X.w) k x qual st dvs kwd f ps (spD K nn sp)) (hcl : Calm X.A) (hr : Room k X.A) (hb : ∀ fd, FunD X.K x qual (defArgs st) (defBody st) (defScope st) dvs kwd f fd → ∃ g, KBn X.K fd ps n ks g (gPerm is ms)) (ho : DE X K ta o da) (ha : DA X K tr (e :: es) dr) (hkw : DK X K tk kws dk)
    (ht : eval (.Call (.Attribute o m apos) (e :: es) kws pos) X.env = (do
      let ov ← eval o X.env
      standAt apos.atName
      let (f, first) ← holding [ov] (getMethod ov m pl)
      callWith pos f first (backTo pos (starEach (e :: es) X.env)) (backToKw pos (keywordEach kws X.env))) := by rfl)
    (hall : (backToKw pos (keywordEach kws X.env)).all (·.1.isSome) = true := by rfl) (hks : (backToKw pos (keywordEach kws X.env)).filterMap (·.1) = ks := by rfl)
    (hst : starEach (e :: es) X.env = (false, eval e X.env) :: starEach es X.env := by rfl)
    (hpl : ((backTo pos (starEach (e :: es) X.env)).any (·.1) || (backToKw pos (keywordEach kws X.env)).any (·.1.isNone)) = false := by rfl) :
    DE X K (fun W => tMthKS C m n ks.length (fun σ vs zs H Q => spD K nn sp (gPerm is ms vs zs) H Q (WE W σ)) (ta W) (tr W) (tk W)) (.Call (.Attribute o m apos) (e :: es) kws pos) (dMthK C m sp n ks.length (gPerm is md) nn da dr dk) :=
  ⟨fun W t => pe_mthKS (ho.pe W t) c hm (callKS_x (CX := L2.CX X.prog X.w) G hcl hr hb t) (ha.pa W t) (hkw.pk W t) ht hall hks hst hpl, sim_mthK hm' ho.sim ha.sim hkw.sim⟩
theorem v_mthK {w : EW} {ρ : Dv} {L : Lc} {q : DQ} {sp : DSp} {n mm np : Nat} {g : List D → List D → List D} {o : DTE} {a b : DTA} (h : o w ρ L fun x L1 => ∃ fs, vIns L1 x = some (C, fs) ∧ fs.lookup m = none ∧ a w ρ L1 fun ds L2 => b w ρ L2 fun es L3 => (x :: ds).length = n ∧ es.length = mm ∧ (g (x :: ds) es).length = np ∧ sp (g (x :: ds) es) L3 q fun E gs L4 => w E gs ρ L4) : dMthK C m sp n mm g np o a b w ρ L q := h
end
theorem kb_0 {K : PySem.W.Frag} {x qual : Str} {params : Arguments} {body : List Stmt} {scope : Scope} {kws : List (Str × V)} {f : Addr} {fd : FuncData} {ps : List Str} (F : FunD K x qual params body scope [] kws f fd) (n : Nat) (ks : List Str) (g : {α : Type} → List α → List α → List α)
    (hrel : ∀ {vs zs : List V} {us ws : List Value}, Vals vs us → Vals zs ws → Vals (g vs zs) (g us ws))
    (h : ∀ (kV doc pm : Value) (an : Option Addr) (cdv ct : Value) (us ws : List Value), us.length = n → ws.length = ks.length →
      bindArgs (PySem.W.fnOf x qual params body scope .none kV doc pm an cdv ct) ⟨us, ks.zip ws⟩ = pure (ps.zip (g us ws))) :
    KBn K fd ps n ks (fun us ws => g us ws) (fun vs zs => g vs zs) := by
  obtain ⟨oc, od, dV, kV, doc, pm, an, cdv, ct, osl, rfl, lk, hcd, hD, hK⟩ := F.ex
  rcases hD with ⟨_, rfl⟩ | ⟨z, _⟩
  · exact ⟨fun s us ws X l1 l2 => .of_eq (h kV doc pm an cdv ct us ws l1 l2), fun r1 r2 => hrel r1 r2⟩
  · exact absurd rfl z
/-! data that is laid out -/
theorem canLay_all {ps : List PyData} (h : ∀ p ∈ ps, p.canLay0 = true) : PyData.canLayAll0 ps = true := by
  induction ps with
  | nil => rfl
  | cons p ps ih => rw [PyData.canLayAll0, h p List.mem_cons_self, ih fun q hq => h q (List.mem_cons_of_mem _ hq)]; rfl
theorem depth_all {ps : List PyData} {n : Nat} (h : ∀ p ∈ ps, p.depth ≤ n) : PyData.depthAll ps ≤ n := by
  induction ps with
  | nil => exact Nat.zero_le _
  | cons p ps ih =>
    have h1 := h p List.mem_cons_self
    have h2 := ih fun q hq => h q (List.mem_cons_of_mem _ hq)
    simp only [PyData.depthAll]
    omega
end Ed

set_option Elab.async false
set_option linter.all false
set_option maxRecDepth 100000
set_option maxHeartbeats 2000000
/-! Data without dicts: as == compares it. -/
namespace Ed
open PySem PySem.Spec PyProof.Rows L2 Dz
mutual
theorem py_plain (L : Lc) : ∀ d, okD d = true → noK d = true → PyR L d (pyOf d)
  | .non, _, _ => by rw [pyOf.eq_def]; exact .non
  | .bl b, _, _ => by rw [pyOf.eq_def]; exact .bl b
  | .int i, _, _ => by rw [pyOf.eq_def]; exact .int i
  | .str x, _, _ => by rw [pyOf.eq_def]; exact .str x
  | .lst ds, h, n => by rw [pyOf.eq_def]; exact .lst (pyL_plain L ds (by rw [okD.eq_def] at h; exact h) (by rw [noK.eq_def] at n; exact n))
  | .tup ds, h, n => by rw [pyOf.eq_def]; exact .tup (pyL_plain L ds (by rw [okD.eq_def] at h; exact h) (by rw [noK.eq_def] at n; exact n))
  | .ctup _, h, _ => by rw [okD.eq_def] at h; cases h
  | .dK es, _, n => by rw [noK.eq_def] at n; cases n
  | .ty _, h, _ => by rw [okD.eq_def] at h; cases h
  | .dT _, h, _ => by rw [okD.eq_def] at h; cases h
  | .ins _ _, h, _ => by rw [okD.eq_def] at h; cases h
  | .err _ _, h, _ => by rw [okD.eq_def] at h; cases h
  | .exo _ _ _ _, h, _ => by rw [okD.eq_def] at h; cases h
  | .scr _, h, _ => by rw [okD.eq_def] at h; cases h
  | .ref _, h, _ => by rw [okD.eq_def] at h; cases h
theorem pyL_plain (L : Lc) : ∀ ds, okDs ds = true → noKs ds = true → PyRL L ds (pyOfL ds)
  | [], _, _ => by rw [pyOfL.eq_def]; exact .nil
  | d :: ds, h, n => by
    rw [okDs.eq_def] at h
    rw [noKs.eq_def] at n
    obtain ⟨h1, h2⟩ := Bool.and_eq_true_iff.mp h
    obtain ⟨n1, n2⟩ := Bool.and_eq_true_iff.mp n
    rw [pyOfL.eq_def]
    exact .cons (py_plain L d h1 n1) (pyL_plain L ds h2 n2)
end
mutual
theorem lay_plain : ∀ d, okD d = true → noK d = true → (pyOf d).canLay0 = true
  | .non, _, _ => by rw [pyOf.eq_def]; rfl
  | .bl b, _, _ => by rw [pyOf.eq_def]; rfl
  | .int i, _, _ => by rw [pyOf.eq_def]; rfl
  | .str x, h, _ => by
    rw [pyOf.eq_def]
    rw [okD.eq_def] at h
    have := asc_ok (asc_of (Bool.and_eq_true_iff.mp h).1)
    simp [PyData.canLay0, this]
  | .lst ds, h, n => by
    rw [pyOf.eq_def]
    have := layL_plain ds (by rw [okD.eq_def] at h; exact h) (by rw [noK.eq_def] at n; exact n)
    simp [PyData.canLay0, this]
  | .tup ds, h, n => by
    rw [pyOf.eq_def]
    have := layL_plain ds (by rw [okD.eq_def] at h; exact h) (by rw [noK.eq_def] at n; exact n)
    simp [PyData.canLay0, this]
  | .ctup _, h, _ => by rw [okD.eq_def] at h; cases h
  | .dK es, _, n => by rw [noK.eq_def] at n; cases n
  | .ty _, h, _ => by rw [okD.eq_def] at h; cases h
  | .dT _, h, _ => by rw [okD.eq_def] at h; cases h
  | .ins _ _, h, _ => by rw [okD.eq_def] at h; cases h
  | .err _ _, h, _ => by rw [okD.eq_def] at h; cases h
  | .exo _ _ _ _, h, _ => by rw [okD.eq_def] at h; cases h
  | .scr _, h, _ => by rw [okD.eq_def] at h; cases h
  | .ref _, h, _ => by rw [okD.eq_def] at h; cases h
theorem layL_plain : ∀ ds, okDs ds = true → noKs ds = true → PyData.canLayAll0 (pyOfL ds) = true
  | [], _, _ => by rw [pyOfL.eq_def]; rfl
  | d :: ds, h, n => by
    rw [okDs.eq_def] at h
    rw [noKs.eq_def] at n
    obtain ⟨h1, h2⟩ := Bool.and_eq_true_iff.mp h
    obtain ⟨n1, n2⟩ := Bool.and_eq_true_iff.mp n
    rw [pyOfL.eq_def]
    simp [PyData.canLayAll0, lay_plain d h1 n1, layL_plain ds h2 n2]
end
mutual
theorem eqv_plain : ∀ d, okD d = true → noK d = true → PyData.eqv (pyOf d) (pyOf d) = true
  | .non, _, _ => by rw [pyOf.eq_def]; simp [PyData.eqv]
  | .bl b, _, _ => by rw [pyOf.eq_def]; simp [PyData.eqv]
  | .int i, _, _ => by rw [pyOf.eq_def]; simp [PyData.eqv]
  | .str x, h, _ => by rw [pyOf.eq_def]; simp [PyData.eqv]
  | .lst ds, h, n => by
    rw [pyOf.eq_def]
    have := eqvL_plain ds (by rw [okD.eq_def] at h; exact h) (by rw [noK.eq_def] at n; exact n)
    simp [PyData.eqv, this]
  | .tup ds, h, n => by
    rw [pyOf.eq_def]
    have := eqvL_plain ds (by rw [okD.eq_def] at h; exact h) (by rw [noK.eq_def] at n; exact n)
    simp [PyData.eqv, this]
  | .ctup _, h, _ => by rw [okD.eq_def] at h; cases h
  | .dK es, _, n => by rw [noK.eq_def] at n; cases n
  | .ty _, h, _ => by rw [okD.eq_def] at h; cases h
  | .dT _, h, _ => by rw [okD.eq_def] at h; cases h
  | .ins _ _, h, _ => by rw [okD.eq_def] at h; cases h
  | .err _ _, h, _ => by rw [okD.eq_def] at h; cases h
  | .exo _ _ _ _, h, _ => by rw [okD.eq_def] at h; cases h
  | .scr _, h, _ => by rw [okD.eq_def] at h; cases h
  | .ref _, h, _ => by rw [okD.eq_def] at h; cases h
theorem eqvL_plain : ∀ ds, okDs ds = true → noKs ds = true → PyData.eqvAll (pyOfL ds) (pyOfL ds) = true
  | [], _, _ => by rw [pyOfL.eq_def]; simp [PyData.eqvAll]
  | d :: ds, h, n => by
    rw [okDs.eq_def] at h
    rw [noKs.eq_def] at n
    obtain ⟨h1, h2⟩ := Bool.and_eq_true_iff.mp h
    obtain ⟨n1, n2⟩ := Bool.and_eq_true_iff.mp n
    rw [pyOfL.eq_def]
    simp [PyData.eqvAll, eqv_plain d h1 n1, eqvL_plain ds h2 n2]
end
theorem shaped_plain {d : D} {B k : Nat} (h : Th d B k) (n : noK d = true) (hk : k ≤ 60 := by omega) : SeqAt.shaped (pyOf d) = true := by
  unfold SeqAt.shaped
  rw [lay_plain d h.ok n, Bool.true_and]
  exact decide_eq_true (Nat.le_trans h.sq.dp (by omega))
/-- a list that is known, as such a list shows itself -/
theorem py_cell {L : Lc} {a : Addr} {ds : List D} (h : L a = some (.lst ds)) (ok : okDs ds = true) (n : noKs ds = true) : PyR L (.ref a) (pyOf (.lst ds)) := by
  rw [pyOf.eq_def]; exact .ref h (pyL_plain L ds ok n)
theorem noKs_all {ts : List D} (h : ∀ t ∈ ts, noK t = true) : noKs ts = true := by
  induction ts with
  | nil => rfl
  | cons t ts ih => rw [noKs.eq_def]; simp only [h t List.mem_cons_self, ih fun u hu => h u (List.mem_cons_of_mem _ hu), Bool.and_self]
end Ed

set_option Elab.async false
set_option linter.all false
set_option maxRecDepth 100000
set_option maxHeartbeats 2000000
/-! Comprehensions that make dicts by one text or number. -/
namespace L2
open PySem PySem.Spec PyProof.Rows Dz
/-- the walk of such a comprehension, by an invariant -/
theorem dc_it {J : It} {n : Nat} {G : Hp → Prop} {Y : Nat → Hp → V → Hp → Prop} (w : Walk J n G Y) {g : TG} {tt : TT} {tk tv : TE} {vs : List Nat} {σ : St} {H1 : Hp} {D : Addr} {Qd : Hp → Prop} (Pv : Nat → Hp → Prop) (h0 : Pv 0 (upd H1 D (.dK [])))
    (hG : ∀ i H, i ≤ n → Pv i H → G H)
    (hs : ∀ i x H H', i < n → Pv i H → Y i H x H' → g x (wipe σ vs) H' fun σ2 H2 => wipe σ2 vs = wipe σ vs ∧ tt σ2 H2 fun b H3 => if b = true then tk σ2 H3 fun y H4 => tv σ2 H4 fun z H5 => ∃ kvs k, y = kV k ∧ H5 D = some (.dK kvs) ∧ kvs.length < sizeLine ∧ Pv (i + 1) (upd H5 D (.dK (putK kvs k z))) else Pv (i + 1) H3)
    (hd : ∀ H, Pv n H → Qd H) :
    ∃ W : Nat → Nat → Hp → Prop, (∃ m, W 0 m (upd H1 D (.dK []))) ∧ ∀ i m H, W i m H → (J.stop i H ∧ Qd H) ∨ (J.go i H ∧ ∃ Nx : Hp → Prop, (∀ H', Nx H' → ∃ m', m' < m ∧ W (i + 1) m' H') ∧
      ∀ x H', J.yld i H x H' → g x (wipe σ vs) H' fun σ2 H2 => wipe σ2 vs = wipe σ vs ∧ tt σ2 H2 fun b H3 => if b = true then tk σ2 H3 fun y H4 => tv σ2 H4 fun z H5 => ∃ kvs k, y = kV k ∧ H5 D = some (.dK kvs) ∧ kvs.length < sizeLine ∧ Nx (upd H5 D (.dK (putK kvs k z))) else Nx H3) := by
  refine ⟨fun i m H => i ≤ n ∧ m = n - i ∧ Pv i H, ⟨n, Nat.zero_le _, rfl, h0⟩, ?_⟩
  rintro i m H ⟨hi, rfl, p⟩
  by_cases e : i < n
  · refine .inr ⟨w.goes i H e (hG i H hi p), Pv (i + 1), fun H' h => ⟨n - (i + 1), by omega, by omega, rfl, h⟩, fun x H' y => ?_⟩
    exact hs i x H H' e p (w.yields i H x H' e (hG i H hi p) y)
  · have : i = n := by omega
    subst this
    exact .inl ⟨w.stops H (hG _ H hi p), hd H p⟩
end L2
namespace Ed
open PySem PySem.Spec PyProof.Rows L2 Dz
def dcD (g : D → Dv → Lc → (Dv → Lc → Prop) → Prop) (tt : Dv → Lc → (Bool → Lc → Prop) → Prop) (tk tv : Dv → Lc → DQ → Prop) (G : Lc → Prop) (ρ : Dv) (q : List (Key × D) → Lc → Prop) : List D → List (Key × D) → Lc → Prop
  | [], es, L => G L ∧ q es L
  | d :: ds, es, L => G L ∧ g d ρ L fun ρ2 L2 => tt ρ2 L2 fun b L3 => if b = true then tk ρ2 L3 fun y L4 => tv ρ2 L4 fun z L5 => ∃ k, kD y = some k ∧ es.length < sizeLine ∧ dcD g tt tk tv G ρ q ds (putD es k z) L5 else dcD g tt tk tv G ρ q ds es L3
theorem dcD.head {g : D → Dv → Lc → (Dv → Lc → Prop) → Prop} {tt : Dv → Lc → (Bool → Lc → Prop) → Prop} {tk tv : Dv → Lc → DQ → Prop} {G : Lc → Prop} {ρ : Dv} {q : List (Key × D) → Lc → Prop} {ds : List D} {es : List (Key × D)} {L : Lc} (h : dcD g tt tk tv G ρ q ds es L) : G L := by
  cases ds <;> exact h.1
/-- such a comprehension, its dict not changed any more -/
def dDc (di : DTI) (g : DTG) (tt : DTT) (tk tv : DTE) (vs : List Nat) : DTE := fun w ρ L q => di w ρ L fun ds G L1 => dcD (g noW) (tt noW) (tk noW) (tv noW) G (dwipe ρ vs) (fun es L2 => q (.dK es) L2) ds [] L1
/-- .. whose dict may change -/
def dDcC (di : DTI) (g : DTG) (tt : DTT) (tk tv : DTE) (vs : List Nat) : DTE := fun w ρ L q => di w ρ L fun ds G L1 => dcD (g noW) (tt noW) (tk noW) (tv noW) G (dwipe ρ vs) (fun es L2 => ∀ p, L2 p = none → q (.ref p) (updL L2 p (.dK es))) ds [] L1
section
variable {X : Cx} {K : PySem.W.Frag}
theorem Ok.knownK {S : Sta} {p : Addr} {ks : List (Key × V)} {es : List (Key × D)} (k : Ok K S) (q1 : S.Λ p) (h : S.H p = some (.dK ks)) (r : TabR K S.H S.Λ ks es) : Ok K ⟨S.H, updL S.L p (.dK es), S.Λ⟩ := by
  refine ⟨fun b c hb => ?_, k.there⟩
  by_cases z : b = p
  · rw [z]
    rw [z, show (⟨S.H, updL S.L p (.dK es), S.Λ⟩ : Sta).L p = some (.dK es) from updL_same] at hb
    cases hb
    exact ⟨q1, ks, h, r⟩
  · rw [show (⟨S.H, updL S.L p (.dK es), S.Λ⟩ : Sta).L b = S.L b from updL_ne z] at hb
    exact k.cell b c hb
theorem dc_sim {wi : WX → TI} {di : DTI} {tg : WX → TG} {dg : DTG} {tt : WX → TT} {dt : DTT} {tk tv : WX → TE} {dk dv : DTE} {vs : List Nat} (hg : SimG K tg dg) (hw : GW tg vs) (ht : SimT K tt dt) (hk : SimE K tk dk) (he : SimE K tv dv) (W : WX) (ew : EW) (S : Sta) (σ : L2.St) (ρ : Dv) (Q : VK) (q : List (Key × D) → Lc → Prop)
    (I : In K W ew S σ ρ) (hi : SimI1 K wi di W ew S σ ρ) (R : ∀ S' p es ks, Ev S S' → Ok K S' → (∀ a, S.Λ a → S.L a = none → a ≠ p) → S'.Λ p → S'.L p = none → S'.H p = some (.dK ks) → TabR K S'.H S'.Λ ks es → q es S'.L → Q (.ref p) S'.H)
    (h : di ew ρ S.L fun ds G L1 => dcD (dg noW) (dt noW) (dk noW) (dv noW) G (dwipe ρ vs) q ds [] L1) : tDc (wi W) (tg fun _ _ _ _ => False) (tt fun _ _ _ _ => False) (tk fun _ _ _ _ => False) (tv fun _ _ _ _ => False) vs σ S.H Q := by
  refine hi _ _ (fun S1 J ds G e1 k1 it h1 => ?_) h
  obtain ⟨Gd, Y, w, hG, hY⟩ := it.ex
  intro p np
  have pl : S1.L p = none := k1.lno np
  have wN : ∀ S', RelW K S' (fun _ _ _ _ => False) noW := fun S' T C dd fs gs σ ρ _ _ _ _ _ _ _ z => z.elim
  refine dc_it w (fun i H => ∃ S2 es ks, S2.H = H ∧ Ev S1 S2 ∧ Ok K S2 ∧ S2.Λ p ∧ S2.L p = none ∧ S2.H p = some (.dK ks) ∧ TabR K S2.H S2.Λ ks es ∧ dcD (dg noW) (dt noW) (dk noW) (dv noW) G (dwipe ρ vs) q (ds.drop i) es S2.L) ?_ (fun i H hi p => ?_) (fun i x H H' hi p y => ?_) fun H p => ?_
  · have a1 := ev_newc (o := .dK []) (c := .dK []) np k1
    have a2 := ok_newc (K := K) (o := .dK []) (c := .dK []) np k1 ⟨[], upd_same, rfl, .nil⟩
    have fewer : ∀ a c, S1.L a = some c → (S1.newc p (.dK []) (.dK [])).L a = some c := fun a c e => by
      have : a ≠ p := fun z => by rw [z, pl] at e; cases e
      exact (updL_ne this).trans e
    exact ⟨(S1.newc p (.dK []) (.dK [])).gone S1.L, [], [], rfl, a1.trans (ev_gone fewer), ok_gone fewer a2, .inl rfl, pl, upd_same, ⟨rfl, .nil⟩, h1⟩
  · obtain ⟨S2, es, ks, rfl, e2, k2, _, _, _, _, h2⟩ := p
    exact hG S2 e2 k2 h2.head
  · obtain ⟨S2, es, ks, rfl, e2, k2, p1, p2, p3, p4, h2⟩ := p
    obtain ⟨S3, dd, rfl, eL, e3, k3, hd, rd⟩ := hY S2 i x H' e2 k2 h2.head hi y
    rw [List.drop_eq_getElem_cons hi] at h2
    rw [List.getElem?_eq_getElem hi] at hd
    cases hd
    have h3 := h2.2
    rw [← eL] at h3
    have e13 := e2.trans e3
    refine hw _ x σ S3.H _ ?_
    refine hg _ noW S3 _ _ x _ _ _ ⟨k3, ((I.sl.ev e1).ev e13).wipe, wN S3⟩ rd (fun S4 σ4 ρ4 e4 k4 s4 h4 => ?_) h3
    refine ht _ noW S4 σ4 ρ4 _ _ ⟨k4, s4, wN S4⟩ (fun S5 b e5 k5 h5 => ?_) h4
    have e25 := (e3.trans e4).trans e5
    obtain ⟨p3', p1', p2'⟩ := e25.hid p p1 p2
    cases b with
    | false => exact ⟨S5, es, ks, rfl, e2.trans e25, k5, p1', p2', p3'.trans p3, p4.ev e25, h5⟩
    | true =>
      refine hk _ noW S5 σ4 ρ4 _ _ ⟨k5, s4.ev e5, wN S5⟩ (fun S6 u y e6 k6 r6 h6 => ?_) h5
      refine he _ noW S6 σ4 ρ4 _ _ ⟨k6, (s4.ev e5).ev e6, wN S6⟩ (fun S7 v z e7 k7 r7 h7 => ?_) h6
      obtain ⟨kk, hkk, hlen, h7⟩ := h7
      have e27 := (e25.trans e6).trans e7
      obtain ⟨q3, q1, q2⟩ := e27.hid p p1 p2
      have p7 := p4.ev e27
      refine ⟨ks, kk, kD_ok (r6.ev e7) hkk, q3.trans p3, by rw [p7.len]; exact hlen, ?_⟩
      have known : Ok K ⟨S7.H, updL S7.L p (.dK es), S7.Λ⟩ := k7.knownK q1 (q3.trans p3) p7
      have z0 : (⟨S7.H, updL S7.L p (.dK es), S7.Λ⟩ : Sta).L p = some (.dK es) := updL_same
      have b1 := ev_put (o := .dK (putK ks kk v)) (c := .dK (putD es kk z)) z0 known
      have rr : TabR K S7.H S7.Λ (putK ks kk v) (putD es kk z) := p7.put kk r7
      have rr' := TabR.ev (S := ⟨S7.H, updL S7.L p (.dK es), S7.Λ⟩) rr b1
      have b2 := ok_put (K := K) (o := .dK (putK ks kk v)) (c := .dK (putD es kk z)) z0 known ⟨_, upd_same, rr'⟩
      have fewer : ∀ a c, S7.L a = some c → ((⟨S7.H, updL S7.L p (.dK es), S7.Λ⟩ : Sta).put p (.dK (putK ks kk v)) (.dK (putD es kk z))).L a = some c := fun a c e => by
        have : a ≠ p := fun z => by rw [z, q2] at e; cases e
        exact (updL_ne this).trans ((updL_ne this).trans e)
      have st : Ev S1 ⟨S7.H, updL S7.L p (.dK es), S7.Λ⟩ := by
        have e17 := e2.trans e27
        refine ⟨e17.stay, fun a h n => ?_⟩
        obtain ⟨z1, z2, z3⟩ := e17.hid a h n
        refine ⟨z1, z2, ?_⟩
        have : a ≠ p := fun z => by rw [z] at h; exact k1.lam np h
        exact (updL_ne this).trans z3
      exact ⟨((⟨S7.H, updL S7.L p (.dK es), S7.Λ⟩ : Sta).put p (.dK (putK ks kk v)) (.dK (putD es kk z))).gone S7.L, putD es kk z, putK ks kk v, rfl, (st.trans b1).trans (ev_gone fewer), ok_gone fewer b2, q1, q2, upd_same, rr', h7⟩
  · obtain ⟨S2, es, ks, rfl, e2, k2, p1, p2, p3, p4, h2⟩ := p
    rw [List.drop_length] at h2
    exact R S2 p es ks (e1.trans e2) k2 (fun a h n z => k1.lam (p := a) (by rw [z]; exact np) (e1.hid a h n).2.1) p1 p2 p3 p4 h2.2
theorem sim_dc1 {wi : WX → TI} {di : DTI} {tg : WX → TG} {dg : DTG} {tt : WX → TT} {dt : DTT} {tk tv : WX → TE} {dk dv : DTE} {vs : List Nat} (hg : SimG K tg dg) (hw : GW tg vs) (ht : SimT K tt dt) (hk : SimE K tk dk) (he : SimE K tv dv) (W : WX) (ew : EW) (S : Sta) (σ : L2.St) (ρ : Dv) (Q : VK) (q : DQ) (I : In K W ew S σ ρ) (R : RelQ K S Q q) (hi : SimI1 K wi di W ew S σ ρ) (h : dDc di dg dt dk dv vs ew ρ S.L q) : tDc (wi W) (tg fun _ _ _ _ => False) (tt fun _ _ _ _ => False) (tk fun _ _ _ _ => False) (tv fun _ _ _ _ => False) vs σ S.H Q :=
  dc_sim hg hw ht hk he W ew S σ ρ Q _ I hi (fun S' p es ks e k pn p1 p2 p3 r qq => by
    have st : Ev S ⟨S'.H, S'.L, fun b => S'.Λ b ∧ b ≠ p⟩ := ⟨fun b u h n => by
      obtain ⟨z1, z2⟩ := e.stay b u h n
      exact ⟨fun z => z1 z.1, z2⟩, fun b h n => by
      obtain ⟨z1, z2, z3⟩ := e.hid b h n
      exact ⟨z1, ⟨z2, pn b h n⟩, z3⟩⟩
    have known : Ok K ⟨S'.H, updL S'.L p (.dK es), S'.Λ⟩ := k.knownK p1 p3 r
    have z0 : (⟨S'.H, updL S'.L p (.dK es), S'.Λ⟩ : Sta).L p = some (.dK es) := updL_same
    have fz := ok_fz z0 known
    have r' := TabR.ev (S := ⟨S'.H, updL S'.L p (.dK es), S'.Λ⟩) r (ev_fz z0)
    have eL : (Sta.fz ⟨S'.H, updL S'.L p (.dK es), S'.Λ⟩ p) = ⟨S'.H, S'.L, fun b => S'.Λ b ∧ b ≠ p⟩ := by
      unfold Sta.fz
      rw [delL_updL p2]
    rw [eL] at fz r'
    exact R ⟨S'.H, S'.L, fun b => S'.Λ b ∧ b ≠ p⟩ _ _ st fz (.dK (fun z => z.2 rfl) (.inl p3) r'.1 r'.2) qq) h
theorem sim_dcC1 {wi : WX → TI} {di : DTI} {tg : WX → TG} {dg : DTG} {tt : WX → TT} {dt : DTT} {tk tv : WX → TE} {dk dv : DTE} {vs : List Nat} (hg : SimG K tg dg) (hw : GW tg vs) (ht : SimT K tt dt) (hk : SimE K tk dk) (he : SimE K tv dv) (W : WX) (ew : EW) (S : Sta) (σ : L2.St) (ρ : Dv) (Q : VK) (q : DQ) (I : In K W ew S σ ρ) (R : RelQ K S Q q) (hi : SimI1 K wi di W ew S σ ρ) (h : dDcC di dg dt dk dv vs ew ρ S.L q) : tDc (wi W) (tg fun _ _ _ _ => False) (tt fun _ _ _ _ => False) (tk fun _ _ _ _ => False) (tv fun _ _ _ _ => False) vs σ S.H Q :=
  dc_sim hg hw ht hk he W ew S σ ρ Q _ I hi (fun S' p es ks e k pn p1 p2 p3 r qq => by
    have st : Ev S ⟨S'.H, updL S'.L p (.dK es), S'.Λ⟩ := ⟨e.stay, fun b h n => by
      obtain ⟨z1, z2, z3⟩ := e.hid b h n
      exact ⟨z1, z2, (updL_ne (pn b h n)).trans z3⟩⟩
    exact R ⟨S'.H, updL S'.L p (.dK es), S'.Λ⟩ _ _ st (k.knownK p1 p3 r) (.ref p) (qq p p2)) h
end
section
variable {X : Cx} {K : PySem.W.Frag} {kx vx tge iter : Expr} {ifs : List Expr} {scope : Scope} {own : List (Str × Nat)} {pos : Pos} {wi : WX → TI} {di : DTI} {tg : WX → TG} {dg : DTG} {tt : WX → TT} {dt : DTT} {tk tv : WX → TE} {dk dv : DTE}
theorem d_dc (hc : X.calm = true) (hN : X.N.Nodup) (hi : DI X K wi tge iter di) (ok : BlkOk X.N X.env.scope scope own) (hg : Blk X scope fun Y => DG Y K tg tge dg) (hw : GW tg (own.map (·.2))) (ht : Blk X scope fun Y => DPs Y K tt ifs dt) (hk : Blk X scope fun Y => DE Y K tk kx dk) (he : Blk X scope fun Y => DE Y K tv vx dv)
    (hs : ∀ x, foldedSetIterable iter X.env x = pure x := by intro _; rfl) :
    DE X K (fun W => tDc (wi W) (tg fun _ _ _ _ => False) (tt fun _ _ _ _ => False) (tk fun _ _ _ _ => False) (tv fun _ _ _ _ => False) (own.map (·.2))) (.DictComp kx vx [⟨tge, iter, ifs, 0⟩] scope pos) (dDc di dg dt dk dv (own.map (·.2))) :=
  ⟨fun W t => pe_dc hc hN (hi.pi W t) ok (fun s H C cl fp => (hg s H C cl fp).pg _ takes0) (fun s H C cl fp => (ht s H C cl fp).pt _ takes0) (fun s H C cl fp => (hk s H C cl fp).pe _ takes0) (fun s H C cl fp => (he s H C cl fp).pe _ takes0) hs,
    fun W ew S σ ρ Q q I R h => sim_dc1 (hg {} (fun _ => none) 0 [] []).sim hw (ht {} (fun _ => none) 0 [] []).sim (hk {} (fun _ => none) 0 [] []).sim (he {} (fun _ => none) 0 [] []).sim W ew S σ ρ Q q I R (fun R k => hi.sim W ew S σ ρ R k I) h⟩
theorem d_dcC (hc : X.calm = true) (hN : X.N.Nodup) (hi : DI X K wi tge iter di) (ok : BlkOk X.N X.env.scope scope own) (hg : Blk X scope fun Y => DG Y K tg tge dg) (hw : GW tg (own.map (·.2))) (ht : Blk X scope fun Y => DPs Y K tt ifs dt) (hk : Blk X scope fun Y => DE Y K tk kx dk) (he : Blk X scope fun Y => DE Y K tv vx dv)
    (hs : ∀ x, foldedSetIterable iter X.env x = pure x := by intro _; rfl) :
    DE X K (fun W => tDc (wi W) (tg fun _ _ _ _ => False) (tt fun _ _ _ _ => False) (tk fun _ _ _ _ => False) (tv fun _ _ _ _ => False) (own.map (·.2))) (.DictComp kx vx [⟨tge, iter, ifs, 0⟩] scope pos) (dDcC di dg dt dk dv (own.map (·.2))) :=
  ⟨fun W t => pe_dc hc hN (hi.pi W t) ok (fun s H C cl fp => (hg s H C cl fp).pg _ takes0) (fun s H C cl fp => (ht s H C cl fp).pt _ takes0) (fun s H C cl fp => (hk s H C cl fp).pe _ takes0) (fun s H C cl fp => (he s H C cl fp).pe _ takes0) hs,
    fun W ew S σ ρ Q q I R h => sim_dcC1 (hg {} (fun _ => none) 0 [] []).sim hw (ht {} (fun _ => none) 0 [] []).sim (hk {} (fun _ => none) 0 [] []).sim (he {} (fun _ => none) 0 [] []).sim W ew S σ ρ Q q I R (fun R k => hi.sim W ew S σ ρ R k I) h⟩
end
end Ed

set_option Elab.async false
set_option linter.all false
set_option maxRecDepth 100000
set_option maxHeartbeats 2000000
/-! Comprehensions that make dicts, over dicts; steps. -/
namespace Ed
open PySem PySem.Spec PyProof.Rows L2 Dz
section
variable {X : Cx} {K : PySem.W.Frag} {tge kx vx iter' : Expr} {te : WX → TE} {val : Dv → Lc → D → Prop} {wi : TE → TI} {f : List (Key × D) → List D} {J : Addr → Obj → List (Key × V) → It} {tg : WX → TG} {dg : DTG} {pos : Pos} {ifs : List Expr} {scope : Scope} {own : List (Str × Nat)} {tt : WX → TT} {dt : DTT} {tk tv : WX → TE} {dk dv : DTE}
def dDcD (val : Dv → Lc → D → Prop) (f : List (Key × D) → List D) (g : DTG) (tt : DTT) (tk tv : DTE) (vs : List Nat) : DTE := fun w ρ L q => ∃ es, val ρ L (.dK es) ∧ dDc (fun _ _ L k => k (f es) (fun _ => True) L) g tt tk tv vs w ρ L q
def dDcDC (val : Dv → Lc → D → Prop) (f : List (Key × D) → List D) (g : DTG) (tt : DTT) (tk tv : DTE) (vs : List Nat) : DTE := fun w ρ L q => ∃ es, val ρ L (.dK es) ∧ dDcC (fun _ _ L k => k (f es) (fun _ => True) L) g tt tk tv vs w ρ L q
theorem d_dcD (hc : X.calm = true) (hN : X.N.Nodup) (ki : KI K wi f J) (wd : WD X K tge iter' wi te val) (ok : BlkOk X.N X.env.scope scope own) (hg : Blk X scope fun Y => DG Y K tg tge dg) (hw : GW tg (own.map (·.2))) (ht : Blk X scope fun Y => DPs Y K tt ifs dt) (hk : Blk X scope fun Y => DE Y K tk kx dk) (he : Blk X scope fun Y => DE Y K tv vx dv)
    (hs : ∀ x, foldedSetIterable iter' X.env x = pure x := by intro _; rfl) :
    DE X K (fun W σ H Q => tLockE (tDc (wi (te W)) (tg fun _ _ _ _ => False) (tt fun _ _ _ _ => False) (tk fun _ _ _ _ => False) (tv fun _ _ _ _ => False) (own.map (·.2))) σ H Q ∨ tDc (wi (te W)) (tg fun _ _ _ _ => False) (tt fun _ _ _ _ => False) (tk fun _ _ _ _ => False) (tv fun _ _ _ _ => False) (own.map (·.2)) σ H Q)
      (.DictComp kx vx [⟨tge, iter', ifs, 0⟩] scope pos) (dDcD val f dg dt dk dv (own.map (·.2))) := by
  obtain ⟨⟨_, vxx⟩, hpi⟩ := wd
  have pl : ∀ W, Takes X W → PE X (.DictComp kx vx [⟨tge, iter', ifs, 0⟩] scope pos) (tDc (wi (te W)) (tg fun _ _ _ _ => False) (tt fun _ _ _ _ => False) (tk fun _ _ _ _ => False) (tv fun _ _ _ _ => False) (own.map (·.2))) := fun W t =>
    pe_dc hc hN (hpi W t) ok (fun s H C cl fp => (hg s H C cl fp).pg _ takes0) (fun s H C cl fp => (ht s H C cl fp).pt _ takes0) (fun s H C cl fp => (hk s H C cl fp).pe _ takes0) (fun s H C cl fp => (he s H C cl fp).pe _ takes0) hs
  refine ⟨fun W t => pe_or2 (pe_lock (pl W t)) (pl W t), fun W ew S σ ρ Q q I R h => ?_⟩
  obtain ⟨es, hv, h⟩ := h
  obtain ⟨v, rv, q1, q2⟩ := vxx.run W S σ ρ _ I.ok I.sl hv
  have sg := (hg {} (fun _ => none) 0 [] []).sim
  have st := (ht {} (fun _ => none) 0 [] []).sim
  have sk := (hk {} (fun _ => none) 0 [] []).sim
  have se := (he {} (fun _ => none) 0 [] []).sim
  cases rv with
  | @dK a ks _ n h1 h2 h3 =>
  rcases h1 with h1 | ⟨o, h1⟩
  · left
    refine ⟨a, .dK ks, h1, trivial, fun od => ?_⟩
    have e01 : Ev S (S.lk a (.frz od (.dK ks))) := ev_lk h1 trivial n
    have k1 := ok_lk (w := .frz od (.dK ks)) I.ok n e01.w
    refine sim_dc1 sg hw st sk se W ew (S.lk a (.frz od (.dK ks))) σ ρ _ q (I.ev e01 k1) (fun S' v' d' e k r hh => ?_) (ki_sim ki k1 (q2 a od _ h1 trivial) upd_same n h2 (h3.ev e01)) h
    obtain ⟨n', h'⟩ := e.lk (a := a) (o := od) (u := .dK ks) upd_same n
    exact ⟨h', R (S'.lk a (.dK ks)) v' d' (ev_un h1 trivial n e) (ok_lk k n' (ew_un h' trivial)) (r.ew (ew_un h' trivial)) hh⟩
  · right
    exact sim_dc1 sg hw st sk se W ew S σ ρ Q q I R (ki_sim ki I.ok q1 h1 n h2 h3) h
theorem d_dcDC (hc : X.calm = true) (hN : X.N.Nodup) (ki : KI K wi f J) (wd : WD X K tge iter' wi te val) (ok : BlkOk X.N X.env.scope scope own) (hg : Blk X scope fun Y => DG Y K tg tge dg) (hw : GW tg (own.map (·.2))) (ht : Blk X scope fun Y => DPs Y K tt ifs dt) (hk : Blk X scope fun Y => DE Y K tk kx dk) (he : Blk X scope fun Y => DE Y K tv vx dv)
    (hs : ∀ x, foldedSetIterable iter' X.env x = pure x := by intro _; rfl) :
    DE X K (fun W σ H Q => tLockE (tDc (wi (te W)) (tg fun _ _ _ _ => False) (tt fun _ _ _ _ => False) (tk fun _ _ _ _ => False) (tv fun _ _ _ _ => False) (own.map (·.2))) σ H Q ∨ tDc (wi (te W)) (tg fun _ _ _ _ => False) (tt fun _ _ _ _ => False) (tk fun _ _ _ _ => False) (tv fun _ _ _ _ => False) (own.map (·.2)) σ H Q)
      (.DictComp kx vx [⟨tge, iter', ifs, 0⟩] scope pos) (dDcDC val f dg dt dk dv (own.map (·.2))) := by
  obtain ⟨⟨_, vxx⟩, hpi⟩ := wd
  have pl : ∀ W, Takes X W → PE X (.DictComp kx vx [⟨tge, iter', ifs, 0⟩] scope pos) (tDc (wi (te W)) (tg fun _ _ _ _ => False) (tt fun _ _ _ _ => False) (tk fun _ _ _ _ => False) (tv fun _ _ _ _ => False) (own.map (·.2))) := fun W t =>
    pe_dc hc hN (hpi W t) ok (fun s H C cl fp => (hg s H C cl fp).pg _ takes0) (fun s H C cl fp => (ht s H C cl fp).pt _ takes0) (fun s H C cl fp => (hk s H C cl fp).pe _ takes0) (fun s H C cl fp => (he s H C cl fp).pe _ takes0) hs
  refine ⟨fun W t => pe_or2 (pe_lock (pl W t)) (pl W t), fun W ew S σ ρ Q q I R h => ?_⟩
  obtain ⟨es, hv, h⟩ := h
  obtain ⟨v, rv, q1, q2⟩ := vxx.run W S σ ρ _ I.ok I.sl hv
  have sg := (hg {} (fun _ => none) 0 [] []).sim
  have st := (ht {} (fun _ => none) 0 [] []).sim
  have sk := (hk {} (fun _ => none) 0 [] []).sim
  have se := (he {} (fun _ => none) 0 [] []).sim
  cases rv with
  | @dK a ks _ n h1 h2 h3 =>
  rcases h1 with h1 | ⟨o, h1⟩
  · left
    refine ⟨a, .dK ks, h1, trivial, fun od => ?_⟩
    have e01 : Ev S (S.lk a (.frz od (.dK ks))) := ev_lk h1 trivial n
    have k1 := ok_lk (w := .frz od (.dK ks)) I.ok n e01.w
    refine sim_dcC1 sg hw st sk se W ew (S.lk a (.frz od (.dK ks))) σ ρ _ q (I.ev e01 k1) (fun S' v' d' e k r hh => ?_) (ki_sim ki k1 (q2 a od _ h1 trivial) upd_same n h2 (h3.ev e01)) h
    obtain ⟨n', h'⟩ := e.lk (a := a) (o := od) (u := .dK ks) upd_same n
    exact ⟨h', R (S'.lk a (.dK ks)) v' d' (ev_un h1 trivial n e) (ok_lk k n' (ew_un h' trivial)) (r.ew (ew_un h' trivial)) hh⟩
  · right
    exact sim_dcC1 sg hw st sk se W ew S σ ρ Q q I R (ki_sim ki I.ok q1 h1 n h2 h3) h
end
section
variable {w : EW} {ρ : Dv} {L : Lc} {q : DQ} {di : DTI} {g : DTG} {tt : DTT} {tk tv : DTE} {vs : List Nat}
theorem v_dc (h : di w ρ L fun ds G L1 => dcD (g noW) (tt noW) (tk noW) (tv noW) G (dwipe ρ vs) (fun es L2 => q (.dK es) L2) ds [] L1) : dDc di g tt tk tv vs w ρ L q := h
theorem v_dcC (h : di w ρ L fun ds G L1 => dcD (g noW) (tt noW) (tk noW) (tv noW) G (dwipe ρ vs) (fun es L2 => ∀ p, L2 p = none → q (.ref p) (updL L2 p (.dK es))) ds [] L1) : dDcC di g tt tk tv vs w ρ L q := h
end
/-- a comprehension that changes nothing -/
theorem dc_pure {g : D → Dv → Lc → (Dv → Lc → Prop) → Prop} {tt : Dv → Lc → (Bool → Lc → Prop) → Prop} {tk tv : Dv → Lc → DQ → Prop} {G : Lc → Prop} {ρ : Dv} {L : Lc} {q : List (Key × D) → Lc → Prop} {ds : List D} (keep : D → Bool) (kf : D → Key) (f : D → D) (hG : G L) (hl : ds.length ≤ sizeLine)
    (hs : ∀ d, d ∈ ds → ∀ (es : List (Key × D)) (N : Key → D → Lc → Prop) (S : Lc → Prop), es.length < sizeLine → (keep d = true → N (kf d) (f d) L) → (keep d = false → S L) → g d ρ L fun ρ2 L2 => tt ρ2 L2 fun b L3 => if b = true then tk ρ2 L3 fun y L4 => tv ρ2 L4 fun z L5 => ∃ k, kD y = some k ∧ es.length < sizeLine ∧ N k z L5 else S L3)
    (hn : q ((ds.filter keep).foldl (fun es d => putD es (kf d) (f d)) []) L) : dcD g tt tk tv G ρ q ds [] L := by
  have key : ∀ (es : List D) (acc : List (Key × D)), (∀ d, d ∈ es → d ∈ ds) → acc.length + es.length ≤ sizeLine → q ((es.filter keep).foldl (fun es d => putD es (kf d) (f d)) acc) L → dcD g tt tk tv G ρ q es acc L := by
    intro es
    induction es with
    | nil => exact fun acc _ _ h => ⟨hG, h⟩
    | cons d es ih =>
      intro acc hm hl h
      rw [List.length_cons] at hl
      refine ⟨hG, hs d (hm d List.mem_cons_self) acc _ _ (by omega) (fun hk => ?_) (fun hk => ?_)⟩
      · rw [List.filter_cons, if_pos hk, List.foldl_cons] at h
        exact ih _ (fun e he => hm e (List.mem_cons_of_mem _ he)) (by have := len_put (es := acc) (k := kf d) (v := f d); omega) h
      · rw [List.filter_cons, if_neg (by rw [hk]; decide)] at h
        exact ih _ (fun e he => hm e (List.mem_cons_of_mem _ he)) (by omega) h
  exact key ds [] (fun _ h => h) (by rw [List.length_nil]; omega) hn
end Ed

set_option Elab.async false
set_option linter.all false
set_option maxRecDepth 100000
set_option maxHeartbeats 2000000
/-! An error of an own class as a value, its kind; dicts that are written down. -/
namespace Ed
open PySem PySem.Spec PyProof.Rows L2 Dz
theorem objR {P : Program} {w : World} {H : Hp} {h : Heap} {a : Addr} {f : Heap → Prop} (k : HOk P w H h) (r : Rd H a (.ext f)) : f h := by
  rcases r with r | ⟨o, r⟩
  · exact (show ObjOk P w H h a (.ext f) from k a _ r).1
  · exact ((show ObjOk P w H h a (.frz o (.ext f)) from k a _ r).2).1
section
variable {X : Cx} {K : PySem.W.Frag}
/-- isinstance of an own error and a built-in class -/
def rIsiE (K : PySem.W.Frag) : List V → Hp → VK → Prop := fun xs H Q => ∃ a d C fs n b, xs = [.ref a, .ty n] ∧ Rd H a (exo a C (some d)) ∧ Rd H d (exd d fs) ∧ EI K C ∧ PySem.W.kitOne K (.ref C) (.type n) = some b ∧ Q (.bl b) H
theorem call_isiE (hK : X.K = K) : CallR X (.builtin "isinstance") (rIsiE K) := by
  subst hK
  intro pins s σ H xs us Q I r h
  obtain ⟨a, d, C, fs, n, b, rfl, e, g, T, hb, q⟩ := h
  cases r with
  | @cons _ u1 _ _ r1 r2 =>
  cases r2 with
  | @cons _ u2 _ _ r2 r3 =>
  cases r3
  cases (show u1 = Value.ref a from r1)
  cases (show u2 = Value.type n from r2)
  obtain ⟨t1, ho⟩ := objR I.hok e
  obtain ⟨mA, ⟨od, es, ep, hd', _⟩, _⟩ := objR I.hok g
  refine PySem.W.kia_one (PySem.W.kitx_exc T.hcl T.hga T.hgt T.hsub T.hc T.hn T.htk T.hm) I.kIn (show PySem.W.InstAt s.heap a _ C (some od) from ⟨ho, rfl, rfl, hd'⟩) hb (fun z => nomatch z) fun tk => ⟨.bl _, H, I.tok tk, rfl, q⟩
def rIsiBE (K : PySem.W.Frag) : List V → Hp → VK → Prop := fun xs H Q => rIsiB K xs H Q ∨ rIsiE K xs H Q
theorem call_isiBE (hK : X.K = K) : CallR X (.builtin "isinstance") (rIsiBE K) := (call_isiA hK).or (call_isiE hK)
def b6 : List String := ["int", "bool", "str", "list", "tuple", "dict"]
theorem ei_no {C : Addr} (T : EI K C) {n : String} (h : n ∈ b6) : PySem.W.kitOne K (.ref C) (.type n) = some false := by
  unfold b6 at h
  simp only [List.mem_cons, List.not_mem_nil, or_false] at h
  rcases h with rfl | rfl | rfl | rfl | rfl | rfl
  · exact T.k1
  · exact T.k2
  · exact T.k3
  · exact T.k4
  · exact T.k5
  · exact T.k6
/-- isinstance(x, T), x any thing, own errors, too -/
def isiED (me : Addr → Prop) : DRL := fun xs L q => isiD xs L q ∨ ∃ C fs n, xs = [.err C fs, .ty n] ∧ me C ∧ n ∈ b6 ∧ q (.bl false) L
theorem sim_isiE {me : Addr → Prop} (hm : ∀ C, me C → EI K C) : SimRL K (rIsiBE K) (isiED me) := by
  intro S xs as Q q k r R h
  rcases h with h | ⟨C, fs, n, rfl, hC, hn, h⟩
  · exact .inl (sim_isi S xs as Q q k r R h)
  · obtain ⟨v, w, rfl, rv, rw'⟩ := vals2R r
    cases rw'
    have T := hm C hC
    cases rv with
    | err n1 n2 h1 h2 e1 e2 => exact .inr ⟨_, _, _, _, _, _, rfl, h1, h2, T, ei_no T hn, R S _ _ (.refl S) k (.bl _) h⟩
/-- a new error of an own class, as a value -/
def mkErrD (C : Addr) (f : Str) : DRL := fun xs L q => ∃ y, xs = [y] ∧ q (.err C [(f, y)]) L
theorem sim_mkErr {C : Addr} {f : Str} : SimRL K (fun vs H Q => ∃ y, vs = [y] ∧ NewE C f y H Q) (mkErrD C f) := by
  rintro S xs as Q q k r R ⟨y, rfl, h⟩
  obtain ⟨v, rfl, rv⟩ := vals1R r
  refine ⟨v, rfl, fun a d na nd ne => ?_⟩
  have e1 := ev_new (o := exd d [(f, v)]) nd k
  have k1 := ok_new (o := exd d [(f, v)]) nd k
  have na' : (S.new d (exd d [(f, v)])).H a = none := (upd_ne (fun z => ne z.symm)).trans na
  have e2 := ev_new (o := exo a C (some d)) na' k1
  have k2 := ok_new (o := exo a C (some d)) na' k1
  refine R ((S.new d (exd d [(f, v)])).new a (exo a C (some d))) _ _ (e1.trans e2) k2 ?_ h
  have e12 := e1.trans e2
  refine .err (k.lam na) (k.lam nd) (.inl upd_same) (.inl ((upd_ne ne).trans upd_same)) rfl (.cons (rv.ev e12) .nil)
theorem d_err {x f : Str} {C fI : Addr} {k : Nat} {tr : WX → TA} {dr : DTA} {e : Expr} {es : List Expr} {p pos : Pos} (T : Er X.K X.mg x f C fI) (G : Kp X.prog X.w X.K X.mg X.base CX0 k fI ["self", "found"] [] (spErr f C)) (hcl : Calm X.A) (hr : Room (k + 1) X.A) (hg : Gl X x) (ha : DA X K tr (e :: es) dr)
    (hdb : (x == ("__debug__" : Str)) = false := by decide) (hst : starEach (e :: es) X.env = (false, eval e X.env) :: starEach es X.env := by rfl) (hpl : (backTo pos (starEach es X.env)).any (·.1) = false := by rfl) :
    DE X K (fun W => tCB (fun vs H Q => ∃ y, vs = [y] ∧ NewE C f y H Q) (tr W)) (.Call (.Name x p) (e :: es) [] pos) (dCB (mkErrD C f) dr) :=
  ⟨fun W t => pe_fn (er_call T G hcl hr) hg T.mg T.oex.kC (ha.pa W t) hdb hst hpl, fun W ew S σ ρ Q q I R hh => ha.sim W ew S σ ρ _ _ I (fun S1 vs xs e1 k1 r1 h1 => sim_mkErr S1 vs xs Q q k1 r1 (R.ev e1) h1) hh⟩
/-! ### {k: v, ..} -/
def dPrs : List (DTE × DTE) → EW → Dv → Lc → (List (Key × D) → Lc → Prop) → Prop
  | [], _, _, L, q => q [] L
  | (k, v) :: l, w, ρ, L, q => k w ρ L fun y L1 => v w ρ L1 fun z L2 => ∃ kk, kD y = some kk ∧ dPrs l w ρ L2 fun es L3 => q ((kk, z) :: es) L3
structure DPP (X : Cx) (K : PySem.W.Frag) (pos : Pos) (ks : List (Option Expr)) (vs : List Expr) (trs : WX → List (TE × TE)) (drs : List (DTE × DTE)) : Prop where
  pps : ∀ W, Takes X W → PPs X pos ks vs (trs W)
  sim : ∀ (W : WX) (ew : EW) (S : Sta) (σ : L2.St) (ρ : Dv) (Q : List (V × V) → Hp → Prop) (q : List (Key × D) → Lc → Prop), In K W ew S σ ρ → (∀ S' kvs es, Ev S S' → Ok K S' → TabR K S'.H S'.Λ kvs es → q es S'.L → Q (kvs.map fun kv => (kV kv.1, kv.2)) S'.H) → dPrs drs ew ρ S.L q → tPairs (trs W) σ S.H Q
theorem dpp_nil {pos : Pos} : DPP X K pos [] [] (fun _ => []) [] := ⟨fun _ _ => pps_nil, fun W ew S σ ρ Q q I R h => R S [] [] (.refl S) I.ok ⟨rfl, .nil⟩ h⟩
theorem dpp_cons {pos : Pos} {k v : Expr} {ks : List (Option Expr)} {vs : List Expr} {tk tv : WX → TE} {dk dv : DTE} {trs : WX → List (TE × TE)} {drs : List (DTE × DTE)} (hk : DE X K tk k dk) (hv : DE X K tv v dv) (r : DPP X K pos ks vs trs drs) :
    DPP X K pos (some k :: ks) (v :: vs) (fun W => (tk W, tv W) :: trs W) ((dk, dv) :: drs) := by
  refine ⟨fun W t => pps_cons (hk.pe W t) (hv.pe W t) (r.pps W t), fun W ew S σ ρ Q q I R h => ?_⟩
  refine hk.sim W ew S σ ρ _ _ I (fun S1 u y e1 k1 r1 h1 => ?_) h
  refine hv.sim W ew S1 σ ρ _ _ (I.ev e1 k1) (fun S2 z d e2 k2 r2 h2 => ?_) h1
  obtain ⟨kk, hkk, h2⟩ := h2
  refine r.sim W ew S2 σ ρ _ _ ((I.ev e1 k1).ev e2 k2) (fun S3 kvs es e3 k3 t3 h3 => ?_) h2
  have ku := kD_ok (r1.ev (e2.trans e3)) hkk
  subst ku
  exact R S3 ((kk, z) :: kvs) ((kk, d) :: es) ((e1.trans e2).trans e3) k3 ⟨by show kk :: _ = kk :: _; rw [t3.1], .cons (r2.ev e3) t3.2⟩ h3
def mergeD (es more : List (Key × D)) : List (Key × D) := more.foldl (fun acc kv => putD acc kv.1 kv.2) es
theorem TabR.merge {S : Sta} : ∀ {more : List (Key × V)} {moreD : List (Key × D)} {ks : List (Key × V)} {es : List (Key × D)}, TabR K S.H S.Λ ks es → TabR K S.H S.Λ more moreD → TabR K S.H S.Λ (mergeK ks more) (mergeD es moreD)
  | [], [], _, _, r, _ => r
  | [], _ :: _, _, _, _, m => by cases m.1
  | _ :: _, [], _, _, _, m => by cases m.1
  | (k, v) :: l, (k', d) :: l', ks, es, r, m => by
    show TabR K S.H S.Λ (mergeK (putK ks k v) l) (mergeD (putD es k' d) l')
    obtain ⟨m1, m2⟩ := m
    obtain ⟨e1, m3⟩ := List.cons.inj m1
    have e1 : k = k' := e1
    subst e1
    cases m2 with
    | cons a b => exact TabR.merge (more := l) (ks := putK ks k v) (es := putD es k d) (TabR.put (v := v) (d := d) k a r) ⟨m3, b⟩
def dDis (drs : List (DTE × DTE)) : DTE := fun w ρ L q => dPrs drs w ρ L fun es L1 => es.length ≤ 15 ∧ q (.dK (mergeD [] es)) L1
def dDisC (drs : List (DTE × DTE)) : DTE := fun w ρ L q => dPrs drs w ρ L fun es L1 => es.length ≤ 15 ∧ ∀ p, L1 p = none → q (.ref p) (updL L1 p (.dK (mergeD [] es)))
theorem dis_sim {pos : Pos} {ks : List (Option Expr)} {vs : List Expr} {trs : WX → List (TE × TE)} {drs : List (DTE × DTE)} (r : DPP X K pos ks vs trs drs) (W : WX) (ew : EW) (S : Sta) (σ : L2.St) (ρ : Dv) (Q : VK) (q : List (Key × D) → Lc → Prop) (I : In K W ew S σ ρ)
    (R : ∀ S' p ks es, Ev S S' → Ok K S' → (∀ a, S.Λ a → S.L a = none → a ≠ p) → S'.Λ p → S'.L p = none → S'.H p = some (.dK ks) → TabR K S'.H S'.Λ ks es → q es S'.L → Q (.ref p) S'.H)
    (h : dPrs drs ew ρ S.L fun es L1 => es.length ≤ 15 ∧ q (mergeD [] es) L1) : tDisp (trs W) σ S.H Q := by
  intro p np
  have k1 := I.ok
  have pl : S.L p = none := k1.lno np
  have a1 := ev_newc (o := .dK []) (c := .dK []) np k1
  have a2 := ok_newc (K := K) (o := .dK []) (c := .dK []) np k1 ⟨[], upd_same, rfl, .nil⟩
  have fewer : ∀ a c, S.L a = some c → (S.newc p (.dK []) (.dK [])).L a = some c := fun a c e => by
    have : a ≠ p := fun z => by rw [z, pl] at e; cases e
    exact (updL_ne this).trans e
  have e0 : Ev S ((S.newc p (.dK []) (.dK [])).gone S.L) := a1.trans (ev_gone fewer)
  have k0 : Ok K ((S.newc p (.dK []) (.dK [])).gone S.L) := ok_gone fewer a2
  refine r.sim W ew ((S.newc p (.dK []) (.dK [])).gone S.L) σ ρ _ _ (I.ev e0 k0) (fun S1 kvs es e1 k2 t h1 => ?_) h
  obtain ⟨p3, p1, p2⟩ := e1.hid p (.inl rfl) pl
  have p3 : S1.H p = some (.dK []) := p3.trans upd_same
  obtain ⟨hl, h1⟩ := h1
  refine ⟨p3, kvs, rfl, by have := congrArg List.length t.1; rw [List.length_map, List.length_map] at this; omega, ?_⟩
  have t0 : TabR K S1.H S1.Λ ([] : List (Key × V)) ([] : List (Key × D)) := ⟨rfl, .nil⟩
  have known : Ok K ⟨S1.H, updL S1.L p (.dK []), S1.Λ⟩ := k2.knownK p1 p3 t0
  have z0 : (⟨S1.H, updL S1.L p (.dK []), S1.Λ⟩ : Sta).L p = some (.dK []) := updL_same
  have b1 := ev_put (o := .dK (mergeK [] kvs)) (c := .dK (mergeD [] es)) z0 known
  have rr : TabR K S1.H S1.Λ (mergeK [] kvs) (mergeD [] es) := t0.merge t
  have rr' := TabR.ev (S := ⟨S1.H, updL S1.L p (.dK []), S1.Λ⟩) rr b1
  have b2 := ok_put (K := K) (o := .dK (mergeK [] kvs)) (c := .dK (mergeD [] es)) z0 known ⟨_, upd_same, rr'⟩
  have fewer' : ∀ a c, S1.L a = some c → ((⟨S1.H, updL S1.L p (.dK []), S1.Λ⟩ : Sta).put p (.dK (mergeK [] kvs)) (.dK (mergeD [] es))).L a = some c := fun a c e => by
    have : a ≠ p := fun z => by rw [z, p2] at e; cases e
    exact (updL_ne this).trans ((updL_ne this).trans e)
  have st : Ev S ⟨S1.H, updL S1.L p (.dK []), S1.Λ⟩ := by
    have e17 := e0.trans e1
    refine ⟨e17.stay, fun a h n => ?_⟩
    obtain ⟨z1, z2, z3⟩ := e17.hid a h n
    refine ⟨z1, z2, ?_⟩
    have : a ≠ p := fun z => by rw [z] at h; exact k1.lam np h
    exact (updL_ne this).trans z3
  exact R (((⟨S1.H, updL S1.L p (.dK []), S1.Λ⟩ : Sta).put p (.dK (mergeK [] kvs)) (.dK (mergeD [] es))).gone S1.L) p (mergeK [] kvs) (mergeD [] es) ((st.trans b1).trans (ev_gone fewer')) (ok_gone fewer' b2) (fun a h n z => k1.lam (p := a) (by rw [z]; exact np) h) p1 p2 upd_same rr' h1
theorem d_dis {pos : Pos} {ks : List (Option Expr)} {vs : List Expr} {trs : WX → List (TE × TE)} {drs : List (DTE × DTE)} (r : DPP X K pos ks vs trs drs) (h1 : ks.all (·.isSome) = true) (h2 : ks.length = vs.length) (h3 : ks ≠ []) (h4 : ks.length ≤ 15) : DE X K (fun W => tDisp (trs W)) (.Dict ks vs pos) (dDis drs) :=
  ⟨fun W t => pe_disp (r.pps W t) h1 h2 h3 h4, fun W ew S σ ρ Q q I R h => dis_sim r W ew S σ ρ Q (fun es L => q (.dK es) L) I (fun S' p ks es e k pn p1 p2 p3 r qq => by
    have st : Ev S ⟨S'.H, S'.L, fun b => S'.Λ b ∧ b ≠ p⟩ := ⟨fun b u h n => by
      obtain ⟨z1, z2⟩ := e.stay b u h n
      exact ⟨fun z => z1 z.1, z2⟩, fun b h n => by
      obtain ⟨z1, z2, z3⟩ := e.hid b h n
      exact ⟨z1, ⟨z2, pn b h n⟩, z3⟩⟩
    have known : Ok K ⟨S'.H, updL S'.L p (.dK es), S'.Λ⟩ := k.knownK p1 p3 r
    have z0 : (⟨S'.H, updL S'.L p (.dK es), S'.Λ⟩ : Sta).L p = some (.dK es) := updL_same
    have fz := ok_fz z0 known
    have r' := TabR.ev (S := ⟨S'.H, updL S'.L p (.dK es), S'.Λ⟩) r (ev_fz z0)
    have eL : (Sta.fz ⟨S'.H, updL S'.L p (.dK es), S'.Λ⟩ p) = ⟨S'.H, S'.L, fun b => S'.Λ b ∧ b ≠ p⟩ := by
      unfold Sta.fz
      rw [delL_updL p2]
    rw [eL] at fz r'
    exact R ⟨S'.H, S'.L, fun b => S'.Λ b ∧ b ≠ p⟩ _ _ st fz (.dK (fun z => z.2 rfl) (.inl p3) r'.1 r'.2) qq) h⟩
theorem d_disC {pos : Pos} {ks : List (Option Expr)} {vs : List Expr} {trs : WX → List (TE × TE)} {drs : List (DTE × DTE)} (r : DPP X K pos ks vs trs drs) (h1 : ks.all (·.isSome) = true) (h2 : ks.length = vs.length) (h3 : ks ≠ []) (h4 : ks.length ≤ 15) : DE X K (fun W => tDisp (trs W)) (.Dict ks vs pos) (dDisC drs) :=
  ⟨fun W t => pe_disp (r.pps W t) h1 h2 h3 h4, fun W ew S σ ρ Q q I R h => dis_sim r W ew S σ ρ Q (fun es L => ∀ p, L p = none → q (.ref p) (updL L p (.dK es))) I (fun S' p ks es e k pn p1 p2 p3 r qq => by
    have st : Ev S ⟨S'.H, updL S'.L p (.dK es), S'.Λ⟩ := ⟨e.stay, fun b h n => by
      obtain ⟨z1, z2, z3⟩ := e.hid b h n
      exact ⟨z1, z2, (updL_ne (pn b h n)).trans z3⟩⟩
    exact R ⟨S'.H, updL S'.L p (.dK es), S'.Λ⟩ _ _ st (k.knownK p1 p3 r) (.ref p) (qq p p2)) h⟩
end
/-! ### in a walk -/
section
variable {w : EW} {ρ : Dv} {L : Lc} {q : DQ}
/-- isinstance of things that are told apart: a built-in thing, an own error -/
theorem v_isiEb {me : Addr → Prop} {xs : List D} (h : isiD xs L q) : isiED me xs L q := .inl h
theorem v_isiEe {me : Addr → Prop} {C : Addr} {fs : List (Str × D)} {n : String} (hC : me C) (hn : n ∈ b6) (h : q (.bl false) L) : isiED me [.err C fs, .ty n] L q := .inr ⟨C, fs, n, rfl, hC, hn, h⟩
theorem v_dis {drs : List (DTE × DTE)} (h : dPrs drs w ρ L fun es L1 => es.length ≤ 15 ∧ q (.dK (mergeD [] es)) L1) : dDis drs w ρ L q := h
theorem v_disC {drs : List (DTE × DTE)} (h : dPrs drs w ρ L fun es L1 => es.length ≤ 15 ∧ ∀ p, L1 p = none → q (.ref p) (updL L1 p (.dK (mergeD [] es)))) : dDisC drs w ρ L q := h
theorem v_prN {q : List (Key × D) → Lc → Prop} (h : q [] L) : dPrs [] w ρ L q := h
theorem v_prC {k v : DTE} {l : List (DTE × DTE)} {q : List (Key × D) → Lc → Prop} (h : k w ρ L fun y L1 => v w ρ L1 fun z L2 => ∃ kk, kD y = some kk ∧ dPrs l w ρ L2 fun es L3 => q ((kk, z) :: es) L3) : dPrs ((k, v) :: l) w ρ L q := h
end
end Ed

set_option Elab.async false
set_option linter.all false
set_option maxRecDepth 100000
set_option maxHeartbeats 2000000
/-! A text times a number; a list times a number, and the parts of a text, as lists that may change. -/
namespace Ed
open PySem PySem.Spec PyProof.Rows L2 Dz
def rMulS : R2 := fun x y H Q => ∃ a i, x = .str a ∧ y = .int i ∧ MulOk a i ∧ Q (.str (Txt.mul a i)) H
theorem op_mulS {X : Cx} : OpR X (binaryOp .Mult) rMulS := by
  intro pins s σ H x y v u Q I rx ry h
  obtain ⟨a, i, rfl, rfl, hm, q⟩ := h
  obtain ⟨t, rfl⟩ := rx
  obtain ⟨t', rfl⟩ := ry
  exact PySem.SB.mul hm fun t' k => ⟨.str _, H, I.tok _, ⟨_, rfl⟩, q⟩
def rMulB (K : PySem.W.Frag) : R2 := fun x y H Q => rMulA K x y H Q ∨ rMulS x y H Q
theorem op_mulB {K : PySem.W.Frag} {X : Cx} (hK : X.K = K) : OpR X (binaryOp .Mult) (rMulB K) := (op_mulA hK).or op_mulS
def mulSD : DR2 := fun x y L q => mulD x y L q ∨ ∃ a i, x = .str a ∧ y = .int i ∧ MulOk a i ∧ q (.str (Txt.mul a i)) L
section
variable {K : PySem.W.Frag} {X : Cx}
theorem sim_mulS : SimR2 K (rMulB K) mulSD := by
  rintro S x y a b Q q k rx ry R (h | ⟨z, i, rfl, rfl, hm, h⟩)
  · exact .inl (sim_mul S x y a b Q q k rx ry R h)
  · cases rx; cases ry
    exact .inr ⟨z, i, rfl, rfl, hm, R S _ _ (.refl S) k (.str _) h⟩
/-- a list times a number, a list that may change -/
def mulCD : DR2 := fun x y L q => ∃ xs k, vLst L x = some xs ∧ y = .int k ∧ -(2 ^ 63) ≤ k ∧ k < 2 ^ 63 ∧ xs.length * k.toNat ≤ sizeLine ∧ ∀ p, L p = none → q (.ref p) (updL L p (.lst (List.replicate k.toNat xs).flatten))
theorem sim_mulC : SimR2 K (rMulA K) mulCD := by
  rintro S x y a b Q q k rx ry R ⟨xs, i, h1, rfl, c1, c2, c3, h⟩
  obtain ⟨l, us, rfl, e1, r1⟩ := vLst_ok k rx h1
  cases ry
  refine .inr (.inl ⟨l, i, us, rfl, rfl, e1, c1, c2, by rw [r1.length]; exact c3, fun p np => ?_⟩)
  have e := ev_newc (o := .lst (List.replicate i.toNat us).flatten) (c := .lst (List.replicate i.toNat xs).flatten) np k
  exact R _ _ _ e (ok_newc np k ⟨_, upd_same, (r1.rep _).ev e⟩) (.ref p) (h p (k.lno np))
/-- the parts of a text, a list that may change -/
def splitCD : DRM := fun x xs L q => ∃ a b, x = .str a ∧ xs = [.str b] ∧ (b.length == 0) = false ∧ a.length + 2 ≤ sizeLine ∧ ∀ p, L p = none → q (.ref p) (updL L p (.lst ((Txt.split a b).map .str)))
theorem sim_splitC : SimRM K "str" rSplitA splitCD := by
  rintro S S2 x a xs as Q q e k k2 r rs R ⟨z, b, rfl, rfl, h1, h2, h⟩
  cases r
  obtain ⟨v, rfl, rv⟩ := vals1R rs
  cases rv
  refine ⟨z, b, rfl, rfl, h1, h2, fun p np => ?_⟩
  have ev := ev_newc (o := .lst ((Txt.split z b).map V.str)) (c := .lst ((Txt.split z b).map D.str)) np k2
  exact R _ _ _ ev (ok_newc np k2 ⟨_, upd_same, RpL.strs (S := S2.newc p _ _) _⟩) (.ref p) (h p (k2.lno np))
end
section
variable {L : Lc} {q : DQ} {x y : D}
theorem v_mulSA (h : mulD x y L q) : mulSD x y L q := .inl h
theorem v_mulS {a : Str} {i : Int} (hm : MulOk a i) (h : q (.str (Txt.mul a i)) L) : mulSD (.str a) (.int i) L q := .inr ⟨a, i, rfl, rfl, hm, h⟩
theorem v_mulC {xs : List D} {k : Int} (h1 : vLst L x = some xs) (h2 : 0 ≤ k) (h3 : k < 2 ^ 63) (h4 : xs.length * k.toNat ≤ sizeLine) (h : ∀ p, L p = none → q (.ref p) (updL L p (.lst (List.replicate k.toNat xs).flatten))) : mulCD x (.int k) L q := ⟨xs, k, h1, rfl, by omega, h3, h4, h⟩
theorem v_splitC {a b : Str} (h1 : (b.length == 0) = false) (h2 : a.length + 2 ≤ sizeLine) (h : ∀ p, L p = none → q (.ref p) (updL L p (.lst ((Txt.split a b).map .str)))) : splitCD (.str a) [.str b] L q := ⟨a, b, rfl, rfl, h1, h2, h⟩
end
theorem mul_ok {x : Str} {n : Int} (h1 : 1 ≤ n) (h2 : n ≤ 1000) (h3 : x.length ≤ 5000) : MulOk x n := by
  refine ⟨by simp; omega, fun _ _ => ?_, fun _ _ => ?_⟩
  · have : (x.length : Int) ≤ (2 ^ 63 - 1) / n := by
      rw [Int.le_ediv_iff_mul_le (by omega)]
      have : (x.length : Int) * n ≤ 5000 * 1000 := Int.mul_le_mul (by omega) h2 (by omega) (by omega)
      omega
    omega
  · have : x.length * n.toNat ≤ 5000 * 1000 := Nat.mul_le_mul h3 (by omega)
    exact decide_eq_false (by show ¬ (_ > 2 ^ 24); omega)
theorem rep_all {P : Nat → Prop} {a : Array Nat} (h : ∀ c ∈ a.toList, P c) : ∀ (k : Nat) (acc : Array Nat), (∀ c ∈ acc.toList, P c) → ∀ c ∈ (List.foldl (fun x1 x2 => x1 ++ x2) acc (List.replicate k a)).toList, P c
  | 0, acc, g => g
  | k + 1, acc, g => by
    rw [List.replicate_succ, List.foldl_cons]
    refine rep_all h k (acc ++ a) fun c hc => ?_
    rw [Array.toList_append, List.mem_append] at hc
    exact hc.elim (g c) (h c)
theorem mul_all {P : Nat → Prop} {x : Str} {n : Int} (h : ∀ c ∈ x.cps.toList, P c) : ∀ c ∈ (Txt.mul x n).cps.toList, P c := by
  unfold Txt.mul
  split
  · intro c hc; simp [Str.empty] at hc
  · split
    · exact h
    · exact rep_all h _ _ (by simp)
theorem mul_len {x : Str} {n : Int} (h1 : 1 ≤ n) : (Txt.mul x n).length = n.toNat * x.length := by
  unfold Txt.mul
  rw [if_neg (by omega)]
  split
  · rename_i h
    simp only [Bool.or_eq_true, beq_iff_eq] at h
    rcases h with h | h
    · rw [h]; simp
    · rw [h]; simp
  · show (List.foldl _ _ _ : Array Nat).size = _
    rw [PySem.size_reps]; simp [Str.length]
end Ed

set_option Elab.async false
set_option linter.all false
set_option maxRecDepth 100000
set_option maxHeartbeats 2000000
/-! str of data. -/
namespace Ed
open PySem PySem.Spec PyProof.Rows L2 Dz
def strP : PyData → Str
  | .str z => z
  | d => d.shown
def rStrW (K : PySem.W.Frag) : List V → Hp → VK → Prop := fun xs H Q => ∃ v d, xs = [v] ∧ Dw K H v d ∧ d.showable = true ∧ d.depth ≤ 60 ∧ d.shown.length ≤ sizeLine ∧ Q (.str (strP d)) H
theorem call_strW {X : Cx} {K : PySem.W.Frag} {k : Nat} (hK : X.K = K) (hb : ∃ o, X.base.get? sysModules = some o) (hg : Calm X.A) (hr : Room k X.A) : CallR X (.type "str") (rStrW K) := by
  subst hK
  intro pins s σ H xs us Q I r h
  obtain ⟨v, d, rfl, hd, hs, hp, hz, q⟩ := h
  cases r with
  | @cons _ u _ _ rv rn =>
  cases rn
  have hu := hr.units
  obtain ⟨as, rd, nas⟩ := Dw.reads I (no_sm I hb) _ _ _ hd rv
  cases hd with
  | non => cases rv; exact PySem.P.str_of_none ⟨.str _, H, I.tok _, ⟨_, rfl⟩, q⟩
  | bl b => cases rv; exact PySem.P.str_of_bool ⟨.str _, H, I.tok _, ⟨_, rfl⟩, q⟩
  | int i =>
    obtain ⟨t, rfl⟩ := rv
    exact PySem.P.str_of_int (of_decide_eq_true hs) ⟨.str _, H, I.tok _, ⟨_, rfl⟩, q⟩
  | str x =>
    obtain ⟨t, rfl⟩ := rv
    exact PySem.P.str_of_str ⟨.str _, H, I, ⟨_, rfl⟩, q⟩
  | lst h1 h2 =>
    cases rv
    exact PySem.str_of_reads rd hs (fun _ => nas) hg (by omega) (fun _ _ e => e) (fun h' u tk hk => ⟨.str _, H, I.kept hk, ⟨_, rfl⟩, q⟩) hz
  | tup h1 h2 =>
    cases rv
    exact PySem.str_of_reads rd hs (fun _ => nas) hg (by omega) (fun _ _ e => e) (fun h' u tk hk => ⟨.str _, H, I.kept hk, ⟨_, rfl⟩, q⟩) hz
  | dct h1 h2 =>
    cases rv
    exact PySem.str_of_reads rd hs (fun _ => nas) hg (by omega) (fun _ _ e => e) (fun h' u tk hk => ⟨.str _, H, I.kept hk, ⟨_, rfl⟩, q⟩) hz
def strQD : DRL := fun xs L q => ∃ x d, xs = [x] ∧ PyQ L x d ∧ d.showable = true ∧ d.depth ≤ 60 ∧ d.shown.length ≤ sizeLine ∧ q (.str (strP d)) L
theorem sim_strQ {K : PySem.W.Frag} : SimRL K (rStrW K) strQD := by
  rintro S xs as Q q k r R ⟨x, d, rfl, h1, a, c, e, h⟩
  obtain ⟨v, rfl, r1⟩ := vals1R r
  exact ⟨v, d, rfl, h1.dw k r1, a, c, e, R S _ _ (.refl S) k (.str _) h⟩
theorem v_strQ {L : Lc} {q : DQ} {x : D} {d : PyData} {B k : Nat} (h : PyQ L x d) (s : Dz.Sq d B k) (hq : q (.str (strP d)) L) (hk : k ≤ 60 := by decide) (hB : B ≤ 16777216 := by decide) : strQD [x] L q :=
  ⟨x, d, rfl, h, s.ok, Nat.le_trans s.dp hk, Nat.le_trans s.ln (Nat.le_trans hB (by decide)), hq⟩
end Ed

set_option Elab.async false
set_option linter.all false
set_option maxRecDepth 100000
set_option maxHeartbeats 2000000
local macro_rules | `(tactic| walk_at "vc1") => `(tactic| first
  | with_reducible refine Ed.v_seq ?_
  | with_reducible refine Ed.v_next ?_
  | with_reducible refine Ed.v_set ?_
  | with_reducible refine Ed.v_asg ?_
  | with_reducible refine Ed.v_gn ?_
  | with_reducible refine Ed.v_ret ?_
  | with_reducible refine Ed.v_ifS ?_
  | with_reducible refine Ed.v_op ?_
  | with_reducible refine Ed.v_c ?_
  | ((with_reducible refine Ed.v_var ?_); (refine ⟨_, rfl, ?_⟩))
  | with_reducible refine Ed.v_cons ?_
  | with_reducible refine Ed.v_nil ?_
  | with_reducible refine Ed.v_call ?_
  | with_reducible refine Ed.v_callD ?_
  | with_reducible refine Ed.v_test ?_
  | with_reducible refine Ed.v_tnot ?_
  | with_reducible refine Ed.v_tand ?_
  | with_reducible refine Ed.v_tor ?_
  | with_reducible refine Ed.v_not ?_
  | with_reducible refine Ed.v_and ?_
  | with_reducible refine Ed.v_or ?_
  | with_reducible refine Ed.v_bl ?_
  | with_reducible refine Ed.v_int ?_
  | with_reducible refine Ed.v_str1 ?_
  | with_reducible refine Ed.v_addI ?_
  | with_reducible refine Ed.v_sub ?_
  | with_reducible refine Ed.v_lt ?_
  | with_reducible refine Ed.v_le ?_
  | with_reducible refine Ed.v_gt ?_
  | with_reducible refine Ed.v_ge ?_
  | with_reducible refine Ed.v_eqI ?_
  | with_reducible refine Ed.v_neI ?_
  | with_reducible refine Ed.v_eqS ?_
  | with_reducible refine Ed.v_neS ?_
  | with_reducible refine Ed.v_neg ?_
  | with_reducible refine Ed.v_mth ?_
  | with_reducible refine Ed.v_fld ?_
  | with_reducible refine Ed.v_sfld ?_
  | with_reducible refine Ed.v_new ?_
  | with_reducible refine Ed.v_raise ?_
  | with_reducible refine Ed.v_one ?_
  | with_reducible refine Ed.v_cb ?_
  | with_reducible refine Ed.v_un ?_
  | with_reducible refine Ed.v_tup ?_
  | with_reducible refine Ed.v_lst ?_
  | with_reducible refine Ed.v_lstC ?_
  | with_reducible refine Ed.v_ifE ?_
  | with_reducible refine Ed.v_chain ?_
  | with_reducible refine Ed.v_sl ?_
  | with_reducible refine Ed.v_part ?_
  | with_reducible refine Ed.v_nopart ?_
  | with_reducible refine Ed.v_drop ?_
  | with_reducible refine Ed.v_bm ?_
  | with_reducible refine Ed.v_for ?_
  | with_reducible refine Ed.v_lc ?_
  | with_reducible refine Ed.v_lcC ?_
  | with_reducible refine Ed.v_rng1 ?_
  | with_reducible refine Ed.v_iseq ?_
  | with_reducible refine Ed.v_itup ?_
  | with_reducible refine Ed.v_istr ?_
  | with_reducible refine Ed.v_yes ?_
  | ((with_reducible refine Ed.v_gtup ?_); (refine ⟨rfl, ?_⟩))
  | ((with_reducible refine Ed.v_gunl ?_); (refine ⟨rfl, ?_⟩))
  | with_reducible refine Ed.v_gcons ?_
  | with_reducible refine Ed.v_gnil ?_
  | with_reducible refine Ed.v_gsub ?_
  | with_reducible refine Ed.v_par ?_
  | with_reducible refine Ed.v_pair ?_
  | with_reducible refine Ed.v_par3 ?_
  | with_reducible refine Ed.v_three ?_
  | with_reducible refine Ed.v_joined ?_
  | with_reducible refine Ed.v_jcons ?_
  | with_reducible refine Ed.v_jnil ?_
  | with_reducible refine Ed.v_fmtS ?_
  | with_reducible refine Ed.v_isN ?_
  | with_reducible refine Ed.v_notN ?_
  | with_reducible refine Ed.v_isB ?_
  | with_reducible refine Ed.v_notB ?_
  | with_reducible refine Ed.v_brk ?_
  | with_reducible refine Ed.v_cnt ?_
  | with_reducible refine Ed.v_retN ?_
  | with_reducible refine Ed.v_dKC ?_
  | with_reducible refine Ed.v_dK ?_
  | with_reducible refine Ed.v_ip ?_
  | ((with_reducible refine Ed.v_aug ?_); (refine ⟨_, rfl, ?_⟩)))
local macro_rules | `(tactic| walk_at "vc") => `(tactic| repeat (walk_at "vc1"))
local macro_rules | `(tactic| walk_at "w1") => `(tactic| first
  | walk_at "vc1"
  | with_reducible refine Ed.v_try ?_
  | with_reducible refine Ed.v_mthK ?_
  | with_reducible refine Ed.v_get2 ?_
  | with_reducible refine Ed.v_revT ?_
  | with_reducible refine Ed.v_tup1 ?_
  | ((with_reducible refine Ed.v_sz ?h ?_); (case h => rfl))
  | ((with_reducible refine Ed.v_ix0 (x0 := ?x0) (l := ?l) ?h ?_); (case h => first | rfl | exact Ed.vs_ref (by assumption)))
  | ((with_reducible refine Ed.v_ix1 (x0 := ?x0) (x1 := ?x1) (l := ?l) ?h ?_); (case h => first | rfl | exact Ed.vs_ref (by assumption)))
  | ((with_reducible refine Ed.v_ix2 (x0 := ?x0) (x1 := ?x1) (x2 := ?x2) (l := ?l) ?h ?_); (case h => first | rfl | exact Ed.vs_ref (by assumption)))
  | ((with_reducible refine Ed.v_ix3 (x0 := ?x0) (x1 := ?x1) (x2 := ?x2) (x3 := ?x3) (l := ?l) ?h ?_); (case h => first | rfl | exact Ed.vs_ref (by assumption)))
  | ((with_reducible refine Ed.v_ix4 (x0 := ?x0) (x1 := ?x1) (x2 := ?x2) (x3 := ?x3) (x4 := ?x4) (l := ?l) ?h ?_); (case h => first | rfl | exact Ed.vs_ref (by assumption)))
  | ((with_reducible refine Ed.v_ix5 (x0 := ?x0) (x1 := ?x1) (x2 := ?x2) (x3 := ?x3) (x4 := ?x4) (x5 := ?x5) (l := ?l) ?h ?_); (case h => first | rfl | exact Ed.vs_ref (by assumption)))
  | ((with_reducible refine Ed.v_ix6 (x0 := ?x0) (x1 := ?x1) (x2 := ?x2) (x3 := ?x3) (x4 := ?x4) (x5 := ?x5) (x6 := ?x6) (l := ?l) ?h ?_); (case h => first | rfl | exact Ed.vs_ref (by assumption)))
  | ((with_reducible refine Ed.v_isiT ?h ?_); (case h => assumption))
  | ((with_reducible refine Ed.v_isiS ?h ?_); (case h => assumption))
  | ((with_reducible refine Ed.v_isiL ?h ?_); (case h => assumption))
  | ((with_reducible refine Ed.v_isiI ?h ?_); (case h => assumption))
  | ((with_reducible refine Ed.v_isiB ?h ?_); (case h => assumption))
  | ((with_reducible refine Ed.v_eqT ?h ?_); (case h => assumption))
  | ((with_reducible refine Ed.v_inT ?h (.inl rfl) ?_); (case h => assumption))
  | ((with_reducible refine Ed.v_lenL (ds := ?ds) ?h ?_); (case h => first | rfl | exact Ed.vs_ref (by assumption)))
  | with_reducible refine Ed.v_isN2 ?_
  | with_reducible refine Ed.v_notN2 ?_
  | ((with_reducible refine Ed.v_itT ?h ?_); (case h => first | rfl | assumption | decide +kernel))
  | ((with_reducible refine Ed.v_itF ?h ?_); (case h => first | rfl | assumption | decide +kernel))
  | ((with_reducible refine Ed.v_szE ?h ?_); (case h => (have hsz : (1 : Nat) = 1 := rfl; omega))))
local macro_rules | `(tactic| walk_at "w") => `(tactic| repeat (walk_at "w1"))
namespace K03
open PySem PySem.Spec PyProof.Rows L2 Dz Ed
/-- where things stand -/
structure Ad where
  f_NoWord_init : Addr
  f_NoList_init : Addr
  f_is_list : Addr
  f_is_word : Addr
  f_words_of : Addr
  f_split_row : Addr
  f_row_of : Addr
  f__law_cell : Addr
  f__law_bag : Addr
  f__law_take : Addr
  f__law_signs : Addr
  f__law_word : Addr
  f__law_is_word : Addr
  f__law_cut : Addr
  f__law_odd : Addr
  f__law_due : Addr
  f__law_asked : Addr
  f__law_read_right : Addr
  f__law_spoilt : Addr
  f_law : Addr
  C_WakeError : Addr
  C_NoWord : Addr
  C_NoList : Addr
  dt_row_of_0 : Addr
def mt (A : Ad) : Addr → Addr → Bool → Prop := fun C c b => (C = A.C_NoWord ∧ c = A.C_NoWord ∧ b = true) ∨ (C = A.C_NoWord ∧ c = A.C_NoList ∧ b = false) ∨ (C = A.C_NoList ∧ c = A.C_NoWord ∧ b = false) ∨ (C = A.C_NoList ∧ c = A.C_NoList ∧ b = true)

def wz (z : Str) : Bool := !decide (z = "") && (!decide (32 ∈ z.cps.toList) && !decide (10 ∈ z.cps.toList))
def isW : D → Bool
  | .str z => wz z
  | _ => false
def isStrD : D → Bool
  | .str _ => true
  | _ => false
theorem str_of {x : D} (h : isStrD x = true) : ∃ z, x = .str z := by cases x <;> first | exact ⟨_, rfl⟩ | cases h
theorem isW_no {x : D} (h : isStrD x = false) : isW x = false := by cases x <;> first | rfl | cases h
/-- a thing whose kind is known, or one of the errors -/
def kE (C : Addr) (L : Lc) (x : D) : Prop := (∃ s, kindD L x = some s) ∨ ∃ fs, x = .err C fs
theorem isStr_kind {L : Lc} {x : D} {s : String} (h : kindD L x = some s) : isStrD x = decide (s = "str") := by
  by_cases e : s = "str"
  · subst e
    obtain ⟨z, rfl⟩ := kind_str h
    rfl
  · rw [decide_eq_false e]
    cases hx : isStrD x with
    | false => rfl
    | true =>
      obtain ⟨z, rfl⟩ := str_of hx
      cases h
      exact absurd rfl e
theorem v_isE {C : Addr} {L : Lc} {x : D} {q : DQ} (h : kE C L x) (hq : q (.bl (isStrD x)) L) : isiED (fun D => D = C) [x, .ty "str"] L q := by
  rcases h with ⟨s, h⟩ | ⟨fs, rfl⟩
  · exact v_isiEb ⟨x, _, s, _, rfl, h, kit_str h, by rw [← isStr_kind h]; exact hq⟩
  · exact v_isiEe rfl (by decide) hq
/-- what is a list or a tuple, and what it has -/
inductive SqO (L : Lc) : D → Option (List D) → Prop
  | lst (ds : List D) : SqO L (.lst ds) (some ds)
  | cel {a : Addr} {ds : List D} : L a = some (.lst ds) → SqO L (.ref a) (some ds)
  | tup (ds : List D) : SqO L (.tup ds) (some ds)
  | ctup (ds : List D) : SqO L (.ctup ds) (some ds)
  | not {x : D} {s : String} : kindD L x = some s → s ∈ ["NoneType", "bool", "int", "str", "dict"] → SqO L x none
theorem kb_list : kitB "list" "list" = some true ∧ kitB "list" "tuple" = some false := ⟨by decide +kernel, by decide +kernel⟩
theorem kb_tup : kitB "tuple" "list" = some false ∧ kitB "tuple" "tuple" = some true := ⟨by decide +kernel, by decide +kernel⟩
theorem v_isi2s {L : Lc} {x : D} {o : Option (List D)} {q : DQ} (h : SqO L x o) (hq : q (.bl o.isSome) L) : isi2D [x, .tup [.ty "list", .ty "tuple"]] L q := by
  cases h with
  | lst ds => exact ⟨_, _, _, _, _, _, rfl, rfl, kb_list.1, kb_list.2, hq⟩
  | cel h => exact ⟨_, _, _, _, _, _, rfl, (by simp [kindD, h]), kb_list.1, kb_list.2, hq⟩
  | tup ds => exact ⟨_, _, _, _, _, _, rfl, rfl, kb_tup.1, kb_tup.2, hq⟩
  | ctup ds => exact ⟨_, _, _, _, _, _, rfl, rfl, kb_tup.1, kb_tup.2, hq⟩
  | @not _ s h m =>
    have : kitB s "list" = some false ∧ kitB s "tuple" = some false := by
      simp only [List.mem_cons, List.not_mem_nil, or_false] at m
      rcases m with rfl | rfl | rfl | rfl | rfl <;> exact ⟨by decide +kernel, by decide +kernel⟩
    exact ⟨x, _, _, s, _, _, rfl, h, this.1, this.2, hq⟩
theorem SqO.seq {L : Lc} {x : D} {ds : List D} (h : SqO L x (some ds)) : vSeq L x = some ds := by
  cases h with
  | lst ds => rfl
  | cel h => exact vs_ref h
  | tup ds => rfl
  | ctup ds => rfl
theorem v_anyO {a : DTE} {w : EW} {ρ : Dv} {L : Lc} {k : List D → (Lc → Prop) → Lc → Prop} {x : D} {ds : List D} (ho : SqO L x (some ds)) (ha : ∀ k' : D → Lc → Prop, k' x L → a w ρ L k') (h : ∀ G : Lc → Prop, G L → k ds G L) : diAny a w ρ L k := by
  cases ho with
  | lst ds => exact .inl (ha _ ⟨_, rfl, h _ rfl⟩)
  | cel e => exact .inl (ha _ ⟨_, vr_ref e, h _ (vr_ref e)⟩)
  | tup ds => exact .inr (ha _ ⟨_, .inl rfl, h _ trivial⟩)
  | ctup ds => exact .inr (ha _ ⟨_, .inr rfl, h _ trivial⟩)
def lenB (o : Option (List D)) (a b : Int) : Bool := match o with
  | some ds => decide (a ≤ ds.length) && decide ((ds.length : Int) ≤ b)
  | none => false
/-- the words of a text -/
def partsOf (z : Str) : List Str := Txt.split z " "
def wordsOf : D → Option (List Str)
  | .str z => if (partsOf z).all wz then some (partsOf z) else none
  | _ => none
theorem parts_ne (z : Str) : partsOf z ≠ [] := fun h => by
  have := (PyProof.Rows.fact_split z " ").1
  rw [show Txt.split z (Str.ofString " ") = partsOf z from rfl, h] at this
  exact absurd this (by decide)
theorem wordsOf_ne {x : D} {ws : List Str} (h : wordsOf x = some ws) : ws ≠ [] := by
  cases x with
  | str z =>
    show ws ≠ []
    have e : wordsOf (.str z) = if (partsOf z).all wz = true then some (partsOf z) else none := rfl
    rw [e] at h
    by_cases c : (partsOf z).all wz = true
    · rw [if_pos c] at h; rw [← Option.some.inj h]; exact parts_ne z
    · rw [if_neg c] at h; cases h
  | _ => cases h
theorem v_in1 {L : Lc} {z : Str} {y : Str} {c : Nat} {q : DQ} (hy : y = ⟨#[c]⟩) (hq : q (.bl (!decide (c ∈ z.cps.toList))) L) : inD true (.str y) (.str z) L q := .inr (.inl ⟨c, z, by rw [hy], rfl, hq⟩)
theorem cut_tl {d : D} {ds : List D} : cutD (d :: ds) (some 1) none = ds := by
  rw [cutD_drop (by decide) (by rw [List.length_cons]; omega)]; rfl
def rowF (z : Str) (zs : List Str) : Str := zs.foldl (fun a b => a ++ " " ++ b) z
theorem rowF_join : ∀ (zs : List Str) (z : Str), Txt.join " " (z :: zs) = rowF z zs := by
  intro zs z
  show Builtin.Str.glued _ _ = _
  rw [PySem.StrLaws.glued_eq_join, ← PySem.StrLaws.glued_cons]
  induction zs generalizing z with
  | nil => rfl
  | cons y ys ih => exact ih (z ++ " " ++ y)
def txt : D → Str
  | .str z => z
  | _ => ""
inductive Du where
  | told (z : Str) | word (v : D) | list (v : D)
/-- what is due of a first one and the others -/
def dueL (x y : D) (ds : List D) : Du := match ds.find? fun d => !isW d with
  | some v => .word v
  | none => .told (rowF (txt x) (ds.map txt))
def due (x y : D) (o : Option (List D)) : Du := if isW x = true then (if lenB o 0 100 = true then dueL x y (o.getD []) else .list y) else .word x
theorem isW_str {x : D} (h : isW x = true) : x = .str (txt x) := by cases x <;> first | rfl | cases h
theorem due_no {x y : D} {o : Option (List D)} (h : isW x = false) : due x y o = .word x := by unfold due; rw [if_neg (by rw [h]; decide)]
theorem due_list {x y : D} {o : Option (List D)} (h : isW x = true) (g : lenB o 0 100 = false) : due x y o = .list y := by unfold due; rw [if_pos h, if_neg (by rw [g]; decide)]
theorem due_in {x y : D} {ds : List D} (h : isW x = true) (g : lenB (some ds) 0 100 = true) : due x y (some ds) = dueL x y ds := by unfold due; rw [if_pos h, if_pos g]; rfl
theorem dueL_at {x y d : D} {ds : List D} {i : Nat} (h : ds[i]? = some d) (n : isW d = false) (b : ∀ e ∈ ds.take i, isW e = true) : dueL x y ds = .word d := by
  have : ds.find? (fun d => !isW d) = some d := by
    rw [← List.take_append_drop i ds, List.find?_append, List.find?_eq_none.mpr (fun e he => by simp [b e he])]
    have : ds.drop i = d :: ds.drop (i + 1) := by
      obtain ⟨hi, e⟩ := List.getElem?_eq_some_iff.mp h
      rw [List.drop_eq_getElem_cons hi, e]
    rw [this, List.find?_cons_of_pos (by simp [n])]; rfl
  unfold dueL
  rw [this]
theorem dueL_all {x y : D} {ds : List D} (b : ∀ e ∈ ds, isW e = true) : dueL x y ds = .told (rowF (txt x) (ds.map txt)) := by
  unfold dueL
  rw [List.find?_eq_none.mpr (fun e he => by simp [b e he])]
theorem map_txt {ds : List D} (b : ∀ e ∈ ds, isW e = true) : ds = (ds.map txt).map D.str := by
  induction ds with
  | nil => rfl
  | cons d ds ih =>
    rw [List.map_cons, List.map_cons, ← isW_str (b d List.mem_cons_self), ← ih fun e he => b e (List.mem_cons_of_mem _ he)]
theorem sum_le {zs : List Str} {n : Nat} (h : ∀ z ∈ zs, z.length ≤ n) : (zs.map (·.length)).sum ≤ zs.length * n := by
  induction zs with
  | nil => exact Nat.zero_le _
  | cons z zs ih =>
    rw [List.map_cons, List.sum_cons, List.length_cons, Nat.add_mul]
    have := h z List.mem_cons_self
    have := ih fun y hy => h y (List.mem_cons_of_mem _ hy)
    omega
def Sh5 (x : D) : Prop := ∀ z, x = .str z → z.length ≤ 5000
theorem parts_len (z : Str) : (partsOf z).length ≤ z.length + 2 := (PyProof.Rows.fact_split z " ").2
theorem sz5 {n : Nat} (h : n ≤ 6000) : n < sizeLine := Nat.lt_of_le_of_lt h (by show 6000 < 2 ^ 24; decide)
theorem allS {ws : List Str} : ((ws.map D.str).all isW) = ws.all wz := by
  rw [List.all_map]; rfl

theorem take_get {α : Type} {ts : List α} {i : Nat} {x : α} (h : ts[i]? = some x) : ts.take (i + 1) = ts.take i ++ [x] := by
  rw [List.take_succ, h]; rfl
def Du.d : Du → D
  | .told z => .lst [.str "told", .str z]
  | .word v => .lst [.str "word", v]
  | .list v => .lst [.str "list", v]
def duQ (A : Ad) (u : Du) (L : Lc) (q : Str → Prop) (e : DE_) : Prop := match u with
  | .told z => q z
  | .word v => e A.C_NoWord [("found", v)] L
  | .list v => e A.C_NoList [("found", v)] L

def sp_is_list (A : Ad) : DSp := fun ds L q _ => ∃ x a b o, ds = [x, .int a, .int b] ∧ SqO L x o ∧ q (.bl (lenB o a b)) L
def sp_is_word (A : Ad) : DSp := fun ds L q _ => ∃ x, ds = [x] ∧ kE A.C_NoWord L x ∧ q (.bl (isW x)) L
def sp_words_of (A : Ad) : DSp := fun ds L q _ => ∃ x, ds = [x] ∧ kE A.C_NoWord L x ∧ Sh5 x ∧ (wordsOf x = none → q .non L) ∧ ∀ ws, wordsOf x = some ws → ∀ p, L p = none → q (.ref p) (updL L p (.lst (ws.map .str)))
def sp_split_row (A : Ad) : DSp := fun ds L q _ => ∃ x, ds = [x] ∧ kE A.C_NoWord L x ∧ Sh5 x ∧ (wordsOf x = none → q .non L) ∧ ∀ w ws, wordsOf x = some (w :: ws) → ∀ p, L p = none → q (.tup [.str w, .ref p]) (updL L p (.lst (ws.map .str)))
def sp_row_of (A : Ad) : DSp := fun ds L q e => ∃ x y o, ds = [x, y] ∧ kE A.C_NoWord L x ∧ SqO L y o ∧ Sh5 x ∧ (∀ ds, o = some ds → ∀ d ∈ ds, kE A.C_NoWord L d ∧ Sh5 d) ∧ duQ A (due x y o) L (fun z => q (.str z) L) e
def b_is_list (A : Ad) : DTS :=
  (dRet (dAnd (dCB isi2D (dCons (dVar 0) (dCons (dTup (dCons (dC (.ty "list")) (dCons (dC (.ty "tuple")) dNil))) dNil))) (dChain leD leD (dVar 1) (dCB lenD (dCons (dVar 0) dNil)) (dVar 2))))
def b_is_word (A : Ad) : DTS :=
  (dRet (dAnd (dCB (isiED (fun C => C = A.C_NoWord)) (dCons (dVar 0) (dCons (dC (.ty "str")) dNil))) (dAnd (dOp neD (dVar 0) (dC (.str ""))) (dAnd (dOp (inD true) (dC (.str " ")) (dVar 0)) (dOp (inD true) (dC (.str "\n")) (dVar 0))))))
def b_words_of (A : Ad) : DTS :=
  (dSeq (dIfS (dtNot (dTest (dCB (isiED (fun C => C = A.C_NoWord)) (dCons (dVar 0) (dCons (dC (.ty "str")) dNil)))))
    (dRet (dC .non)) dNext)
    (dSeq (dSet 1 (dBML "str" splitCD (dVar 0) (dCons (dC (.str " ")) dNil)))
    (dSeq (dIfS (dTest (dCB allD (dCons (dLc (diSeq (dVar 1)) (dgName 2) dYes (dCall (sp_is_word A) 1 (dCons (dVar 2) dNil)) [2]) dNil)))
    (dRet (dVar 1)) dNext)
    (dRet (dC .non)))))
def b_split_row (A : Ad) : DTS :=
  (dSeq (dSet 1 (dCall (sp_words_of A) 1 (dCons (dVar 0) dNil)))
    (dSeq (dIfS (dTest (dOp isND (dVar 1) (dC .non)))
    (dRet (dC .non)) dNext)
    (dRet (dTup (dCons (dOp ixD (dVar 1) (dC (.int 0))) (dCons (dSl slCD (dVar 1) (dPart (dC (.int 1))) dNoPart) dNil))))))
def b_row_of (A : Ad) : DTS :=
  (dSeq (dIfS (dtNot (dTest (dCall (sp_is_word A) 1 (dCons (dVar 0) dNil))))
    (dRaise A.C_NoWord "found" (dCons (dVar 0) dNil)) dNext)
    (dSeq (dIfS (dtNot (dTest (dCall (sp_is_list A) 3 (dCons (dVar 1) (dCons (dC (.int 0)) (dCons (dC (.int 100)) dNil))))))
    (dRaise A.C_NoList "found" (dCons (dVar 1) dNil)) dNext)
    (dSeq (dFor (diAny (dVar 1)) (dgName 2)
    (dIfS (dtNot (dTest (dCall (sp_is_word A) 1 (dCons (dVar 2) dNil))))
    (dRaise A.C_NoWord "found" (dCons (dVar 2) dNil)) dNext))
    (dRet (dBML "str" joinD (dC (.str " ")) (dCons (dLst (dCons (dVar 0) (dStar (dVar 1) dNil))) dNil))))))
theorem rd_is_list (A : Ad) : Keeps ["thing", "least", "most"] (b_is_list A) 3 (sp_is_list A) := by
  rintro ds L q e hl ⟨x, a, b, o, rfl, ho, hq⟩
  unfold bodyD b_is_list
  walk_at "w"
  refine v_isi2s ho ?_
  walk_at "w"
  cases o with
  | none => exact v_rt hq
  | some xs =>
    walk_at "w"
    refine v_lenL ho.seq ?_
    walk_at "w"
    refine v_ite (fun c => ?_) (fun c => ?_)
    · walk_at "w"
      have e : lenB (some xs) a b = decide ((xs.length : Int) ≤ b) := by
        show (decide (a ≤ (xs.length : Int)) && _) = _
        rw [c, Bool.true_and]
      rw [e] at hq
      exact v_rt hq
    · have e : lenB (some xs) a b = false := by
        show (decide (a ≤ (xs.length : Int)) && _) = _
        rw [c, Bool.false_and]
      rw [e] at hq
      exact v_rt hq
theorem rd_is_word (A : Ad) : Keeps ["thing"] (b_is_word A) 1 (sp_is_word A) := by
  rintro ds L q e hl ⟨x, rfl, hx, hq⟩
  unfold bodyD b_is_word
  walk_at "w"
  refine v_isE hx ?_
  walk_at "w"
  refine v_ite (fun c => ?_) (fun c => ?_)
  rotate_left
  · rw [isW_no c] at hq
    exact v_rt hq
  obtain ⟨z, rfl⟩ := str_of c
  walk_at "w"
  have e : isW (.str z) = (!decide (z = "") && (!decide (32 ∈ z.cps.toList) && !decide (10 ∈ z.cps.toList))) := rfl
  rw [e] at hq
  refine v_ite (fun c1 => ?_) (fun c1 => ?_)
  rotate_left
  · rw [c1, Bool.false_and] at hq
    exact v_rt hq
  rw [c1, Bool.true_and] at hq
  walk_at "w"
  refine v_in1 (c := 32) rfl ?_
  walk_at "w"
  refine v_ite (fun c2 => ?_) (fun c2 => ?_)
  rotate_left
  · rw [c2, Bool.false_and] at hq
    exact v_rt hq
  rw [c2, Bool.true_and] at hq
  walk_at "w"
  refine v_in1 (c := 10) rfl ?_
  exact v_rt hq
theorem rd_words_of (A : Ad) : Keeps ["thing", "words", "word"] (b_words_of A) 1 (sp_words_of A) := by
  rintro ds L q e hl ⟨x, rfl, hx, h5, q2, q3⟩
  unfold bodyD b_words_of
  walk_at "w"
  refine v_isE hx ?_
  walk_at "w"
  refine v_ite (fun c => ?_) (fun c => ?_)
  · walk_at "w"
    exact v_rt (q2 (by cases x <;> first | rfl | cases c))
  obtain ⟨z, rfl⟩ := str_of (by simpa using c)
  walk_at "w"
  have hz := h5 z rfl
  refine ⟨rfl, ?_⟩
  walk_at "w"
  refine v_splitC (by decide) (sz5 (by omega)) fun p hp => ?_
  have hp1 : updL L p (.lst ((Txt.split z (Str.ofString " ")).map D.str)) p = some (.lst ((partsOf z).map D.str)) := updL_same
  walk_at "w"
  refine ⟨_, vs_ref hp1, ?_⟩
  refine lc_pure (fun _ => true) (fun d => .bl (isW d)) (vs_ref hp1) (by rw [List.length_map]; exact Nat.le_of_lt (sz5 (by have := parts_len z; omega))) ?_ ?_
  · intro d hd acc Rq S ha h1 h2
    obtain ⟨w, hw, rfl⟩ := List.mem_map.mp hd
    walk_at "w"
    refine ⟨rfl, _, rfl, .inl ⟨_, rfl⟩, ?_⟩
    exact ⟨ha, h1 rfl⟩
  have e : wordsOf (.str z) = if (partsOf z).all wz = true then some (partsOf z) else none := rfl
  rw [e] at q2 q3
  walk_at "w"
  refine ⟨_, (partsOf z).map wz, rfl, ?_, ?_⟩
  · show some _ = some _
    rw [List.filter_eq_self.mpr (fun _ _ => rfl), List.map_map, List.map_map]; rfl
  walk_at "w"
  have ea : ((partsOf z).map wz).all id = (partsOf z).all wz := by rw [List.all_map]; rfl
  rw [ea]
  refine v_ite (fun c1 => ?_) (fun c1 => ?_)
  · walk_at "w"
    rw [if_pos c1] at q3
    exact v_rt (q3 _ rfl p hp)
  · walk_at "w"
    rw [if_neg (by rw [c1]; decide)] at q2
    exact v_gh (.less fun a c h => (updL_ne (fun e => by rw [e, hp] at h; cases h)).trans h) (q2 rfl)
theorem rd_split_row (A : Ad) : Keeps ["thing", "words"] (b_split_row A) 1 (sp_split_row A) := by
  rintro ds L q e hl ⟨x, rfl, hx, h5, q2, q3⟩
  unfold bodyD b_split_row
  walk_at "w"
  refine ⟨rfl, x, rfl, hx, h5, fun h0 => ?_, fun ws hw p hp => ?_⟩
  · walk_at "w"
    exact v_rt (q2 h0)
  walk_at "w"
  cases ws with
  | nil => exact absurd rfl (wordsOf_ne hw)
  | cons w ws =>
  have hp1 : updL L p (.lst ((w :: ws).map D.str)) p = some (.lst (.str w :: ws.map D.str)) := updL_same
  refine v_ix (vs_ref hp1) at0 ?_
  walk_at "w"
  refine v_slC (vr_ref hp1) fun p2 hp2 => ?_
  have ne : p2 ≠ p := fun e => by rw [e, hp1] at hp2; cases hp2
  have h2 : L p2 = none := (updL_ne ne).symm.trans hp2
  walk_at "w"
  have ec : cutD (D.str w :: ws.map D.str) (some 1) none = ws.map D.str := cut_tl
  rw [ec]
  refine v_gh (.less fun a c h => ?_) (q3 w ws hw p2 h2)
  by_cases e1 : a = p2
  · rw [e1, updL_same] at h ⊢; exact h
  · rw [updL_ne e1] at h ⊢
    exact (updL_ne (fun e => by rw [e, hp] at h; cases h)).trans h
theorem rd_row_of (A : Ad) : Keeps ["first", "others", "word"] (b_row_of A) 2 (sp_row_of A) := by
  rintro ds L q e hl ⟨x, y, o, rfl, hx, ho, h5, hk, hq⟩
  unfold bodyD b_row_of
  walk_at "w"
  refine ⟨rfl, x, rfl, hx, ?_⟩
  walk_at "w"
  refine v_ite (fun c => ?_) (fun c => ?_)
  · walk_at "w"
    rw [due_no (by simpa using c)] at hq
    exact hq
  have c : isW x = true := by simpa using c
  walk_at "w"
  refine ⟨rfl, y, 0, 100, o, rfl, ho, ?_⟩
  walk_at "w"
  refine v_ite (fun c1 => ?_) (fun c1 => ?_)
  · walk_at "w"
    rw [due_list c (by simpa using c1)] at hq
    exact hq
  have c1 : lenB o 0 100 = true := by simpa using c1
  cases o with
  | none => cases c1
  | some ds =>
  rw [due_in c c1] at hq
  have hk := hk ds rfl
  have hl : ds.length ≤ 100 := by
    have c1' : (decide ((0 : Int) ≤ ds.length) && decide ((ds.length : Int) ≤ 100)) = true := c1
    have := of_decide_eq_true (Bool.and_eq_true_iff.mp c1').2
    omega
  walk_at "w"
  refine v_anyO ho (fun k' h => by
      walk_at "w"
      exact h) fun G hG => ?_
  refine for_go (fun i ρ L' => ∃ o1, ρ = [some x, some y, o1] ∧ L' = L ∧ ∀ e ∈ ds.take i, isW e = true) ⟨_, rfl, rfl, fun e he => by rw [List.take_zero] at he; cases he⟩ (fun i ρ L' h => by obtain ⟨_, _, e, _⟩ := h; rw [e]; exact hG) ?_ ?_
  · rintro i d ρ L' R hd ⟨o1, rfl, rfl, hb⟩ hR
    have hm := List.mem_of_getElem? hd
    walk_at "w"
    refine ⟨rfl, d, rfl, (hk d hm).1, ?_⟩
    walk_at "w"
    refine v_ite (fun c2 => ?_) (fun c2 => ?_)
    · walk_at "w"
      rw [dueL_at hd (by simpa using c2) hb] at hq
      exact hq
    · refine hR _ _ ⟨_, rfl, rfl, fun e he => ?_⟩
      rw [take_get hd] at he
      rcases List.mem_append.mp he with he | he
      · exact hb e he
      · rw [List.mem_singleton.mp he]; simpa using c2
  rintro ρ L' ⟨o1, rfl, rfl, hb⟩
  rw [List.take_length] at hb
  rw [dueL_all hb] at hq
  walk_at "w"
  refine ⟨rfl, ?_⟩
  walk_at "w"
  refine ⟨_, rfl, ds, ho.seq, ?_⟩
  show (x :: (ds ++ [])).length ≤ sizeLine ∧ joinD (D.str (Str.ofString " ")) [D.lst (x :: (ds ++ []))] L' (dEnd q).rt
  rw [List.append_nil]
  refine ⟨by rw [List.length_cons]; exact Nat.le_of_lt (sz5 (by omega)), ?_⟩
  have hm : x :: ds = (txt x :: ds.map txt).map D.str := by rw [List.map_cons, ← isW_str c, ← map_txt hb]
  have hs : ∀ z ∈ txt x :: ds.map txt, z.length ≤ 5000 := fun z hz => by
    rcases List.mem_cons.mp hz with rfl | hz
    · exact h5 _ (isW_str c)
    · obtain ⟨d, hd, rfl⟩ := List.mem_map.mp hz
      exact (hk d hd).2 _ (isW_str (hb d hd))
  refine ⟨_, _, txt x :: ds.map txt, rfl, rfl, (by rw [hm]; rfl), ?_, ?_⟩
  · have := sum_le hs
    rw [List.length_cons, List.length_map] at this ⊢
    rw [show (Str.ofString " ").length = 1 from rfl]
    have : (ds.length + 1) * 5000 ≤ 101 * 5000 := Nat.mul_le_mul_right _ (by omega)
    omega
  have hq : q (.str (rowF (txt x) (ds.map txt))) L' := hq
  rw [show (Str.ofString " ") = (" " : Str) from rfl, rowF_join]
  exact v_rt hq
end K03
set_option Elab.async false
set_option linter.all false
set_option maxRecDepth 100000
set_option maxHeartbeats 2000000
namespace K03
open PySem PySem.Spec PyProof.Rows L2 Dz Ed


def SIGNS : Str := (LTR ++ Txt.upper LTR) ++ "0123456789!\"#$&'()*+,-./:;<=>?@\x5b\\]^_`{|}~"
/-- a sign that a word may have -/
def gs (c : Nat) : Prop := c ≠ 32 ∧ c ≠ 10 ∧ c < 128
theorem signs_ok : (SIGNS.cps.toList.all fun c => !decide (c = 32) && !decide (c = 10) && decide (c < 128)) = true := by decide +kernel
theorem signs_gs : ∀ c ∈ SIGNS.cps.toList, gs c := fun c hc => by
  have := List.all_eq_true.mp signs_ok c hc
  simp only [Bool.and_eq_true, Bool.not_eq_true', decide_eq_false_iff_not, decide_eq_true_eq] at this
  exact ⟨this.1.1, this.1.2, this.2⟩
theorem signs_len : 1 ≤ SIGNS.length ∧ SIGNS.length ≤ 200 := by decide +kernel
theorem signs_sz : SIGNS.length ≤ sizeLine := Nat.le_trans signs_len.2 (by show 200 ≤ 2 ^ 24; decide)
def Gs (z : Str) : Prop := ∀ c ∈ z.cps.toList, gs c
theorem Gs.asc {z : Str} (h : Gs z) : Asc z := fun c hc => (h c hc).2.2
theorem Gs.wz {z : Str} (h : Gs z) (n : 1 ≤ z.length) : wz z = true := by
  have h0 : decide (z = "") = false := decide_eq_false fun e => by rw [e] at n; exact absurd n (by decide)
  have h1 : decide (32 ∈ z.cps.toList) = false := decide_eq_false fun e => (h _ e).1 rfl
  have h2 : decide (10 ∈ z.cps.toList) = false := decide_eq_false fun e => (h _ e).2.1 rfl
  unfold K03.wz
  rw [h0, h1, h2]; rfl
theorem join_one {zs : List Str} (h : ∀ z ∈ zs, z.length = 1 ∧ Gs z) : (Txt.join "" zs).length = zs.length ∧ Gs (Txt.join "" zs) ∧ (zs.map (·.length)).sum = zs.length := by
  have hsum : (zs.map (·.length)).sum = zs.length := by
    induction zs with
    | nil => rfl
    | cons z zs ih =>
      rw [List.map_cons, List.sum_cons, ih fun y hy => h y (List.mem_cons_of_mem _ hy), (h z List.mem_cons_self).1, List.length_cons]; omega
  have one : One zs := fun z hz => ⟨(h z hz).1, (h z hz).2.asc⟩
  refine ⟨(one_join one).1, ?_, hsum⟩
  have key : ∀ (ys : List Str) (acc : Str), Gs acc → (∀ z ∈ ys, z.length = 1 ∧ Gs z) → Gs ⟨ys.foldl (fun acc p => acc ++ (Str.ofString "").cps ++ p.cps) acc.cps⟩ := by
    intro ys
    induction ys with
    | nil => intro acc ha _; exact ha
    | cons y ys ih =>
      intro acc ha hy
      refine ih ⟨acc.cps ++ (Str.ofString "").cps ++ y.cps⟩ (fun c hc => ?_) fun z hz => hy z (List.mem_cons_of_mem _ hz)
      have hc : c ∈ (acc.cps ++ (Str.ofString "").cps ++ y.cps).toList := hc
      rw [Array.toList_append, Array.toList_append, List.mem_append, List.mem_append] at hc
      rcases hc with (hc | hc) | hc
      · exact ha c hc
      · exact absurd (show c ∈ (#[] : Array Nat).toList from hc) (by simp)
      · exact (hy y List.mem_cons_self).2 c hc
  cases zs with
  | nil => intro c hc; exact absurd hc (by decide +revert)
  | cons z zs =>
    show Gs (Builtin.Str.glued _ _)
    rw [PySem.StrLaws.glued_eq_join, ← PySem.StrLaws.glued_cons]
    exact key zs z (h z List.mem_cons_self).2 fun y hy => h y (List.mem_cons_of_mem _ hy)
theorem sign_at {i : Int} (h0 : 0 ≤ i) (h1 : i < SIGNS.length) : ∃ c, atI SIGNS.cps.toList i = some c ∧ Gs ⟨#[c]⟩ := by
  have l : (SIGNS.cps.toList.length : Int) = SIGNS.length := by rw [Array.length_toList]; rfl
  obtain ⟨c, hc, _, m⟩ := at_lt (l := SIGNS.cps.toList) h0 (by rw [l]; exact h1)
  exact ⟨c, hc, fun d hd => by rw [List.mem_singleton.mp hd]; exact signs_gs c m⟩
theorem split_spl {fs : List Str} (h : fs ≠ []) (g : ∀ f ∈ fs, ¬ 32 ∈ f.cps.toList) : Txt.split (Txt.join " " fs) " " = fs :=
  TL.split_join (y := " ") (s := 32) (S := []) rfl (by decide +kernel) h g
theorem rowF_snoc {z y : Str} {zs : List Str} : rowF z (zs ++ [y]) = rowF z zs ++ " " ++ y := by
  unfold rowF
  rw [List.foldl_append]; rfl
theorem app_assoc (x y z : Str) : x ++ y ++ z = x ++ (y ++ z) := congrArg Str.mk (Array.append_assoc)
theorem app_nil (x : Str) : x ++ ("" : Str) = x := congrArg Str.mk (Array.append_empty)
theorem join_snoc {fs : List Str} {y : Str} (h : fs ≠ []) : Txt.join " " (fs ++ [y]) = Txt.join " " fs ++ " " ++ y := by
  cases fs with
  | nil => exact absurd rfl h
  | cons f fs => rw [List.cons_append, rowF_join, rowF_join, rowF_snoc]
theorem join_last {is : List Str} {l y : Str} : Txt.join " " (is ++ [l ++ y]) = Txt.join " " (is ++ [l]) ++ y := by
  cases is with
  | nil => rw [List.nil_append, List.nil_append, rowF_join, rowF_join]; rfl
  | cons f fs => rw [join_snoc (by simp), join_snoc (by simp), app_assoc, app_assoc, app_assoc]
theorem join_one1 (z : Str) : Txt.join " " [z] = z := rowF_join [] z
theorem nl_cps : (" \n" : Str).cps.toList = [32, 10] := by decide +kernel
theorem filt_nl {z : Str} : ((z.cps.toList.map fun c => D.str ⟨#[c]⟩).filter fun d => match d with | .str y => (match y.cps.toList with | [c] => decide (c ∈ (" \n" : Str).cps.toList) | _ => false) | _ => false).isEmpty = (!decide (32 ∈ z.cps.toList) && !decide (10 ∈ z.cps.toList)) := by
  rw [nl_cps, List.filter_map, List.isEmpty_map]
  induction z.cps.toList with
  | nil => rfl
  | cons c cs ih =>
    by_cases h : c = 32
    · subst h; simp
    · by_cases g : c = 10
      · subst g; simp
      · have e : ((fun d => match d with | D.str y => (match y.cps.toList with | [c] => decide (c ∈ [32, 10]) | _ => false) | _ => false) ∘ fun c => D.str ⟨#[c]⟩) c = false := by
          show decide (c ∈ [32, 10]) = false
          simp [h, g]
        rw [List.filter_cons_of_neg (by rw [e]; decide), ih]
        simp [show ¬ 32 = c from fun z => h z.symm, show ¬ 10 = c from fun z => g z.symm]
theorem v_appN {L : Lc} {q : DQ} {a : Addr} {ds : List D} {d : D} (h : L a = some (.lst ds)) (hl : ds.length < sizeLine) (k : q .non (updL L a (.lst (ds ++ [d])))) : appendD (.ref a) [d] L q := ⟨a, ds, d, rfl, rfl, h, hl, k⟩
theorem take_str {l : List Nat} {i c : Nat} (h : l[i]? = some c) : (⟨(l.take (i + 1)).toArray⟩ : Str) = (⟨(l.take i).toArray⟩ : Str) ++ ⟨#[c]⟩ := by
  rw [take_get h]
  show Str.mk _ = Str.mk (_ ++ #[c])
  congr 1
  simp
theorem one_sp {c : Nat} (h : (⟨#[c]⟩ : Str) = Str.ofString " ") : c = 32 := by
  have := congrArg (fun z : Str => z.cps.toList) h
  have : [c] = [32] := this
  simpa using this
theorem ix_last {n : Nat} : ixN (n + 1) (-1) = some n := by
  unfold ixN
  rw [if_neg (by omega), if_pos (by omega)]
  congr 1
  omega
theorem at_last {ds : List D} {d : D} : atI (ds ++ [d]) (-1) = some d := by
  unfold atI
  rw [List.length_append, show ds.length + [d].length = ds.length + 1 from rfl, ix_last]
  simp
theorem set_last {is : List Str} {l y : Str} : ((is ++ [l]).map D.str).set is.length (.str y) = (is ++ [y]).map D.str := by
  rw [List.map_append, List.map_append, List.set_append_right _ _ (by rw [List.length_map]; exact Nat.le_refl _), List.length_map, Nat.sub_self]; rfl
theorem bad_all {ws : List Str} : ((ws.map D.str).filter fun d => !isW d).isEmpty = ws.all wz := by
  induction ws with
  | nil => rfl
  | cons w ws ih =>
    rw [List.map_cons, List.all_cons]
    cases h : wz w with
    | true => rw [List.filter_cons_of_neg (by show ¬ (!wz w) = true; rw [h]; decide), ih, Bool.true_and]
    | false => rw [List.filter_cons_of_pos (by show (!wz w) = true; rw [h]; rfl), Bool.false_and]; rfl
theorem del_back {L L' : Lc} {p : Addr} (hp : L p = none) (h : ∀ a, a ≠ p → L' a = L a) : delL L' p = L := by
  funext a
  by_cases e : a = p
  · rw [e, delL_same, hp]
  · rw [delL_ne e, h a e]
def wordsD (x : D) : D := match wordsOf x with
  | some ws => .lst (ws.map .str)
  | none => .non

abbrev sp__law_cell (A : Ad) : DSp := spCellD
abbrev sp__law_bag (A : Ad) : DSp := spBagD
abbrev sp__law_take (A : Ad) : DSp := spTk
def sp__law_signs (A : Ad) : DSp := fun ds L q _ => ds = [] ∧ q (.str SIGNS) L
def sp__law_word (A : Ad) : DSp := fun ds L q _ => ∃ p c, ds = [.ref p] ∧ (∃ x, L p = some x ∧ BagC ((c : Nat) : Int) x) ∧ c ≤ 890000 ∧ ∀ z L', 1 ≤ z.length → z.length ≤ 30 → Gs z → Bag L L' p ((c + 33 : Nat) : Int) → q (.str z) L'
def sp__law_is_word (A : Ad) : DSp := fun ds L q _ => ∃ x, ds = [x] ∧ kE A.C_NoWord L x ∧ Sh5 x ∧ q (.bl (isW x)) L
def sp__law_cut (A : Ad) : DSp := fun ds L q _ => ∃ x, ds = [x] ∧ kE A.C_NoWord L x ∧ Sh5 x ∧ q (wordsD x) L
def b__law_cell (A : Ad) : DTS :=
  (dSeq (dIfS (dTest (dOp ltD (dVar 1) (dCB lenD (dCons (dVar 0) dNil))))
    (dRet (dOp ixD (dVar 0) (dVar 1))) dNext)
    (dRet (dOp addD (dOp addD (dOp mulD (dC (.int 104729)) (dVar 1)) (dC (.int 71))) (dOp modD (dCB sumD (dCons (dSl slD (dVar 0) dNoPart (dPart (dC (.int 1)))) dNil)) (dC (.int 1000003))))))
def b__law_bag (A : Ad) : DTS :=
  (dRet (dLstC (dCons (dCB max2D (dCons (dC (.int 0)) (dCons (dOp subD (dVar 0) (dOp powD (dC (.int 10)) (dC (.int 18)))) dNil))) (dCons (dOp modD (dVar 0) (dC (.int 2147483629))) (dCons (dC (.int 0)) dNil)))))
def b__law_take (A : Ad) : DTS :=
  (dSeq (dIfS (dTest (dOp gtD (dOp ixD (dVar 0) (dC (.int 0))) (dC (.int 0))))
    (dSeq (dSet 2 (dOp modD (dOp ixD (dVar 0) (dC (.int 0))) (dVar 1)))
    (dSeq (dAsg (dOp fdivD (dOp ixD (dVar 0) (dC (.int 0))) (dVar 1)) (dgSub setD (dVar 0) (dC (.int 0))))
    (dRet (dVar 2)))) dNext)
    (dSeq (dAsg (dOp addD (dOp ixD (dVar 0) (dC (.int 2))) (dC (.int 1))) (dgSub setD (dVar 0) (dC (.int 2))))
    (dSeq (dSet 3 (dOp modD (dOp powD (dOp addD (dOp addD (dOp ixD (dVar 0) (dC (.int 1))) (dOp mulD (dC (.int 7919)) (dOp ixD (dVar 0) (dC (.int 2))))) (dC (.int 3))) (dC (.int 5))) (dC (.int 2147483647))))
    (dSeq (dSet 3 (dOp modD (dOp powD (dOp addD (dVar 3) (dOp mulD (dC (.int 15485863)) (dOp ixD (dVar 0) (dC (.int 2))))) (dC (.int 3))) (dC (.int 2147483587))))
    (dRet (dOp modD (dOp fdivD (dVar 3) (dC (.int 16))) (dVar 1)))))))
def b__law_signs (A : Ad) : DTS :=
  (dSeq (dSet 0 (dC (.str "abcdefghijklmnopqrstuvwxyz")))
    (dRet (dOp addD (dOp addD (dVar 0) (dBML "str" upperD (dVar 0) dNil)) (dC (.str "0123456789!\"#$&'()*+,-./:;<=>?@\x5b\\]^_`{|}~")))))
def b__law_word (A : Ad) : DTS :=
  (dSeq (dSet 1 (dCall (sp__law_signs A) 0 dNil))
    (dSeq (dSet 2 (dOp addD (dC (.int 1)) (dOp ixD (dLst (dCons (dC (.int 0)) (dCons (dCall (sp__law_take A) 2 (dCons (dVar 0) (dCons (dC (.int 9)) dNil))) (dCons (dCall (sp__law_take A) 2 (dCons (dVar 0) (dCons (dC (.int 30)) dNil))) dNil)))) (dCall (sp__law_take A) 2 (dCons (dVar 0) (dCons (dC (.int 3)) dNil))))))
    (dRet (dBML "str" joinD (dC (.str "")) (dCons (dLc (diRng1 (dCons (dVar 2) dNil)) (dgName 3) dYes (dOp ixD (dVar 1) (dCall (sp__law_take A) 2 (dCons (dVar 0) (dCons (dCB lenD (dCons (dVar 1) dNil)) dNil)))) [3]) dNil)))))
def b__law_is_word (A : Ad) : DTS :=
  (dSeq (dIfS (dtOr (dtNot (dTest (dCB (isiED (fun C => C = A.C_NoWord)) (dCons (dVar 0) (dCons (dC (.ty "str")) dNil))))) (dTest (dOp eqD (dVar 0) (dC (.str "")))))
    (dRet (dC (.bl false))) dNext)
    (dRet (dOp (emD false) (dLc (diStr (dVar 0)) (dgName 1) (dTest (dOp (inD false) (dVar 1) (dC (.str " \n")))) (dVar 1) [1]) (dLst dNil))))
def b__law_cut (A : Ad) : DTS :=
  (dSeq (dIfS (dtNot (dTest (dCB (isiED (fun C => C = A.C_NoWord)) (dCons (dVar 0) (dCons (dC (.ty "str")) dNil)))))
    (dRet (dC .non)) dNext)
    (dSeq (dSet 1 (dLstC (dCons (dC (.str "")) dNil)))
    (dSeq (dFor (diStr (dVar 0)) (dgName 2)
    (dIfS (dTest (dOp eqD (dVar 2) (dC (.str " "))))
    (dDrop (dBML "list" appendD (dVar 1) (dCons (dC (.str "")) dNil))) (dAsg (dOp addD (dOp ixD (dVar 1) (dUn negD (dC (.int 1)))) (dVar 2)) (dgSub setD (dVar 1) (dUn negD (dC (.int 1)))))))
    (dSeq (dSet 3 (dLc (diSeq (dVar 1)) (dgName 4) (dtNot (dTest (dCall (sp__law_is_word A) 1 (dCons (dVar 4) dNil)))) (dVar 4) [4]))
    (dRet (dIfE (dTest (dOp (emD false) (dVar 3) (dLst dNil))) (dVar 1) (dC .non)))))))
theorem rd__law_cell (A : Ad) : Keeps ["_law_script", "_law_k"] (b__law_cell A) 2 (sp__law_cell A) := by
  rintro ds L q e hl ⟨ns, k, rfl, h0, h1, hq⟩
  unfold bodyD b__law_cell
  walk_at "vc"
  refine .inl ⟨_, _, rfl, rfl, ?_⟩
  walk_at "vc"
  refine v_ite (fun c => ?_) (fun c => ?_)
  · obtain ⟨y, hy, hm, _⟩ := at_lt (l := ns.map D.int) h0 (by simpa using c)
    rw [List.getElem?_map] at hm
    cases hn : ns[k.toNat]? with
    | none => rw [hn] at hm; cases hm
    | some i =>
      rw [hn] at hm
      cases hm
      walk_at "vc"
      exact v_ix (ds := ns.map D.int) rfl hy (v_rt (hq i))
  · walk_at "vc"
    refine v_mulI (mulW_small (by decide) (by omega)) ?_
    walk_at "vc"
    refine v_slL (ds := ns.map D.int) rfl ?_
    walk_at "vc"
    obtain ⟨ms, e⟩ : ∃ ms : List Int, Ed.cutD (ns.map D.int) none (some 1) = ms.map D.int := ⟨_, (by unfold Ed.cutD; rw [← List.map_drop, ← List.map_take])⟩
    rw [e]
    refine ⟨_, ms, rfl, rfl, ?_⟩
    refine v_mod (by decide) ?_
    walk_at "vc"
    exact v_rt (hq _)
theorem rd__law_bag (A : Ad) : Keeps ["_law_cell_here"] (b__law_bag A) 1 (sp__law_bag A) := by
  rintro ds L q e hl ⟨z, rfl, hq⟩
  unfold bodyD b__law_bag
  walk_at "vc"
  refine v_pow ⟨by decide, by decide, by decide⟩ ?_
  walk_at "vc"
  refine ⟨_, _, rfl, ?_⟩
  walk_at "vc"
  refine v_mod (by decide) ?_
  walk_at "vc"
  refine ⟨(by show (3 : Nat) ≤ sizeLine; decide), fun p hp => v_rt (hq p _ hp ⟨_, _, 0, rfl, ?_, Int.emod_nonneg _ (by decide), Int.emod_lt_of_pos _ (by decide), by decide, by decide⟩)⟩
  split <;> omega
theorem rd__law_take (A : Ad) : Keeps ["_law_bag_here", "_law_below", "_law_digit", "_law_number"] (b__law_take A) 2 (sp__law_take A) := by
  rintro ds L q e hl ⟨p, n, c, rfl, ⟨x, hp, a, b, k, rfl, h0, h1, h2, h3, h4⟩, c0, c9, n0, nn, hq⟩
  unfold bodyD b__law_take
  walk_at "vc"
  refine v_ix (vs_ref hp) at0 ?_
  walk_at "vc"
  refine v_ite (fun c => ?_) (fun c => ?_)
  · walk_at "vc"
    refine v_ix (vs_ref hp) at0 ?_
    walk_at "vc"
    refine v_mod n0 ?_
    walk_at "vc"
    refine v_ix (vs_ref hp) at0 ?_
    walk_at "vc"
    refine v_fdiv ⟨n0, nn⟩ ?_
    walk_at "vc"
    refine v_setL (j := 0) hp rfl ?_
    walk_at "vc"
    exact v_rt (hq _ _ (Int.emod_nonneg _ (by omega)) (Int.emod_lt_of_pos _ n0) ⟨a / n, b, k, rfl, Int.ediv_nonneg h0 (by omega), h1, h2, h3, by omega⟩)
  · walk_at "vc"
    refine v_ix (vs_ref hp) at2 ?_
    walk_at "vc"
    refine v_setL (j := 2) hp rfl ?_
    have hp' : (updL L p (.lst [.int a, .int b, .int (k + 1)])) p = some (.lst [.int a, .int b, .int (k + 1)]) := updL_same
    walk_at "vc"
    refine v_ix (vs_ref hp') at1 ?_
    walk_at "vc"
    refine v_ix (vs_ref hp') at2 ?_
    walk_at "vc"
    refine v_mulI (mulW_small (by decide) (by omega)) ?_
    walk_at "vc"
    refine v_pow ⟨by decide, by decide, by omega⟩ ?_
    walk_at "vc"
    refine v_mod (by decide) ?_
    walk_at "vc"
    refine v_ix (vs_ref hp') at2 ?_
    walk_at "vc"
    refine v_mulI (mulW_small (by decide) (by omega)) ?_
    walk_at "vc"
    refine v_pow ⟨by decide, by decide, ?_⟩ ?_
    · exact take_numB (Int.emod_nonneg _ (by decide)) (Int.emod_lt_of_pos _ (by decide)) (by decide) (by decide) (by omega) (by omega)
    walk_at "vc"
    refine v_mod (by decide) ?_
    walk_at "vc"
    refine v_fdiv (wide_div (b := 10) (by decide) (by decide) (by decide) (by decide)) ?_
    walk_at "vc"
    refine v_mod n0 ?_
    exact v_rt (hq _ _ (Int.emod_nonneg _ (by omega)) (Int.emod_lt_of_pos _ n0) ⟨a, b, k + 1, rfl, h0, h1, h2, by omega, by omega⟩)
theorem rd__law_signs (A : Ad) : Keeps ["_law_letters"] (b__law_signs A) 0 (sp__law_signs A) := by
  rintro ds L q e hl ⟨rfl, hq⟩
  unfold bodyD b__law_signs
  walk_at "w"
  refine ⟨rfl, ?_⟩
  walk_at "w"
  refine ⟨_, rfl, rfl, by decide +kernel, ?_⟩
  refine v_addS (by decide +kernel) ?_
  walk_at "w"
  refine v_addS (by decide +kernel) ?_
  exact v_rt hq
theorem rd__law_word (A : Ad) : Keeps ["_law_bag_here", "_law_signs_here", "_law_size", "_law_k"] (b__law_word A) 1 (sp__law_word A) := by
  rintro ds L q e hl ⟨p, c, rfl, hb, hc, hq⟩
  unfold bodyD b__law_word
  have b0 := Bag.self hb
  walk_at "w"
  refine ⟨rfl, rfl, ?_⟩
  walk_at "w"
  refine ⟨rfl, take_d b0 (by omega) (by decide) (by decide) fun i1 L1 i10 i11 b1 => ?_⟩
  walk_at "w"
  refine ⟨rfl, take_d b1 (by omega) (by decide) (by decide) fun i2 L2 i20 i21 b2 => ?_⟩
  walk_at "w"
  refine ⟨rfl, take_d b2 (by omega) (by decide) (by decide) fun i3 L3 i30 i31 b3 => ?_⟩
  walk_at "w"
  refine v_ixI (ns := [0, i1, i2]) rfl i30 (by show i3 < (3 : Nat); omega) fun n hn => ?_
  have hn : 0 ≤ n ∧ n ≤ 29 := by
    simp only [List.mem_cons, List.not_mem_nil, or_false] at hn
    rcases hn with rfl | rfl | rfl <;> omega
  walk_at "w"
  refine ⟨rfl, ?_⟩
  walk_at "w"
  refine ⟨1 + n, rfl, by omega, by omega, ?_⟩
  refine lc_go (fun i acc L' => ∃ zs : List Str, acc = zs.map D.str ∧ zs.length = i ∧ (∀ z ∈ zs, z.length = 1 ∧ Gs z) ∧ Bag L L' p ((c + 3 + i : Nat) : Int)) ⟨[], rfl, rfl, (fun _ h => nomatch h), b3⟩ (fun _ _ _ _ => trivial) ?_ ?_
  · rintro i d acc L' R S Rq hd ⟨zs, rfl, hl', ho, bx⟩ hR hS
    obtain ⟨rfl, hi⟩ := rng_get hd
    walk_at "w"
    refine .inr (.inl ⟨SIGNS, rfl, signs_sz, ?_⟩)
    refine ⟨rfl, take_d bx (by omega) (by have := signs_len.1; omega) ?_ fun u Lx u0 u1 by_ => ?_⟩
    · have := signs_len.2
      rw [Int.natAbs_natCast]
      exact Nat.lt_of_le_of_lt (Nat.le_trans (Nat.log2_le_self _) this) (by decide)
    obtain ⟨sg, hs, ls⟩ := sign_at u0 u1
    refine v_ixS (z := SIGNS) signs_sz hs ?_
    refine ⟨by rw [List.length_map]; exact sz5 (by omega), hR _ _ ⟨zs ++ [⟨#[sg]⟩], by rw [List.map_append]; rfl, by rw [List.length_append, hl']; rfl, ?_, by_⟩⟩
    intro z hz
    rcases List.mem_append.mp hz with h | h
    · exact ho z h
    · rw [List.mem_singleton.mp h]; exact ⟨rfl, ls⟩
  rintro acc Ls ⟨zs, rfl, hl', ho, b4⟩
  obtain ⟨j1, j2, j3⟩ := join_one ho
  have hzl : zs.length = (1 + n).toNat := by rw [hl', List.length_map, List.length_range]
  walk_at "w"
  refine ⟨_, _, zs, rfl, rfl, rfl, ?_, ?_⟩
  · rw [j3]
    show zs.length + zs.length * 0 ≤ 16777216
    omega
  rw [show (Str.ofString "") = ("" : Str) from rfl]
  rw [hzl] at j1
  refine v_rt (hq _ _ (by rw [j1]; omega) (by rw [j1]; omega) j2 (b4.more ?_))
  rw [List.length_map, List.length_range]
  omega
theorem rd__law_is_word (A : Ad) : Keeps ["_law_thing", "_law_sign"] (b__law_is_word A) 1 (sp__law_is_word A) := by
  rintro ds L q e hl ⟨x, rfl, hx, h5, hq⟩
  unfold bodyD b__law_is_word
  walk_at "w"
  refine v_isE hx ?_
  walk_at "w"
  refine v_ite (fun c => ?_) (fun c => ?_)
  · walk_at "w"
    rw [isW_no (by simpa using c)] at hq
    exact v_rt hq
  obtain ⟨z, rfl⟩ := str_of (by simpa using c)
  have hz := h5 z rfl
  walk_at "w"
  have e : isW (.str z) = (!decide (z = "") && (!decide (32 ∈ z.cps.toList) && !decide (10 ∈ z.cps.toList))) := rfl
  refine v_ite (fun c1 => ?_) (fun c1 => ?_)
  · walk_at "w"
    rw [e, c1, Bool.not_true, Bool.false_and] at hq
    exact v_rt hq
  walk_at "w"
  refine lc_pure (fun d => match d with | .str y => (match y.cps.toList with | [c] => decide (c ∈ (" \n" : Str).cps.toList) | _ => false) | _ => false) id trivial (by rw [List.length_map, Array.length_toList]; exact Nat.le_of_lt (sz5 (by show z.length ≤ 6000; omega))) ?_ ?_
  · intro d hd acc Rq S ha h1 h2
    obtain ⟨c, hc, rfl⟩ := List.mem_map.mp hd
    walk_at "w"
    refine .inr (.inl ⟨c, " \n", rfl, rfl, ?_⟩)
    walk_at "w"
    refine v_ite (fun c3 => ?_) (fun c3 => ?_)
    · walk_at "w"
      exact ⟨ha, h1 c3⟩
    · exact h2 c3
  walk_at "w"
  refine v_emE (.inl ⟨rfl, rfl⟩) ?_
  rw [e, c1, Bool.not_false, Bool.true_and] at hq
  rw [List.map_id, filt_nl]
  exact v_rt hq
theorem rd__law_cut (A : Ad) : Keeps ["_law_thing", "_law_found", "_law_sign", "_law_bad", "_law_word_here"] (b__law_cut A) 1 (sp__law_cut A) := by
  rintro ds L q e hl ⟨x, rfl, hx, h5, hq⟩
  unfold bodyD b__law_cut
  walk_at "w"
  refine v_isE hx ?_
  walk_at "w"
  refine v_ite (fun c => ?_) (fun c => ?_)
  · walk_at "w"
    have e : wordsD x = .non := by cases x <;> first | rfl | cases c
    rw [e] at hq
    exact v_rt hq
  obtain ⟨z, rfl⟩ := str_of (by simpa using c)
  have hz := h5 z rfl
  walk_at "w"
  intro p hp
  walk_at "w"
  refine for_go (fun i ρ L' => ∃ o2 is l, ρ = [some (.str z), some (.ref p), o2, none, none] ∧ L' p = some (.lst ((is ++ [l]).map D.str)) ∧ (∀ a, a ≠ p → L' a = L a) ∧ (∀ f ∈ is ++ [l], ¬ 32 ∈ f.cps.toList) ∧ is.length ≤ i ∧ l.length ≤ i ∧ Txt.join " " (is ++ [l]) = ⟨(z.cps.toList.take i).toArray⟩) ⟨_, [], "", rfl, updL_same, fun a n => updL_ne n, ?_, Nat.le_refl _, Nat.le_refl _, ?_⟩ (fun _ _ _ _ => trivial) ?_ ?_
  · intro f hf
    rw [List.nil_append, List.mem_singleton] at hf
    rw [hf]; decide +kernel
  · rw [List.nil_append, join_one1]; rfl
  · rintro i d ρ L' R hd ⟨o2, is, l, rfl, h1, h2, h3, h4, h5, h6⟩ hR
    obtain ⟨c, hc, rfl⟩ : ∃ c, z.cps.toList[i]? = some c ∧ d = .str ⟨#[c]⟩ := by
      rw [List.getElem?_map] at hd
      cases e : z.cps.toList[i]? with
      | none => rw [e] at hd; cases hd
      | some c => rw [e] at hd; cases hd; exact ⟨c, rfl, rfl⟩
    have hi : i < z.length := by
      have := (List.getElem?_eq_some_iff.mp hc).1
      rw [Array.length_toList] at this; exact this
    have ht := take_str hc
    walk_at "w"
    refine v_ite (fun c1 => ?_) (fun c1 => ?_)
    · have c32 : c = 32 := one_sp (of_decide_eq_true c1)
      subst c32
      walk_at "w"
      refine ⟨⟨rfl, _, h1⟩, ?_⟩
      walk_at "w"
      refine v_appN h1 (by rw [List.length_map, List.length_append]; exact sz5 (by show is.length + 1 ≤ 6000; omega)) ?_
      walk_at "w"
      refine hR _ _ ⟨_, is ++ [l], "", rfl, ?_, fun a n => (updL_ne n).trans (h2 a n), fun f hf => ?_, ?_, Nat.zero_le _, ?_⟩
      · rw [updL_same, List.map_append (l₁ := is ++ [l])]; rfl
      · rcases List.mem_append.mp hf with hf | hf
        · exact h3 f hf
        · rw [List.mem_singleton.mp hf]; decide +kernel
      · rw [List.length_append]; simp; omega
      · rw [join_snoc (by simp), h6, app_nil, ht]; rfl
    · walk_at "w"
      refine v_ix (vs_ref h1) (by rw [List.map_append]; exact at_last) ?_
      walk_at "w"
      refine v_addS (by show l.length + 1 ≤ sizeLine; exact Nat.le_of_lt (sz5 (by omega))) ?_
      walk_at "w"
      refine v_setL (j := is.length) h1 (by rw [List.length_map, List.length_append]; exact ix_last) ?_
      walk_at "w"
      refine hR _ _ ⟨_, is, l ++ ⟨#[c]⟩, rfl, ?_, fun a n => (updL_ne n).trans (h2 a n), fun f hf => ?_, by omega, ?_, ?_⟩
      · rw [updL_same, set_last]
      · rcases List.mem_append.mp hf with hf | hf
        · exact h3 f (List.mem_append_left _ hf)
        · rw [List.mem_singleton.mp hf]
          intro hm
          have hm : 32 ∈ (l.cps ++ #[c]).toList := hm
          rw [Array.toList_append, List.mem_append] at hm
          rcases hm with hm | hm
          · exact h3 l (by simp) hm
          · have : 32 = c := by simpa using hm
            subst this
            exact absurd c1 (by rw [decide_eq_true (show (⟨#[32]⟩ : Str) = Str.ofString " " from rfl)]; decide)
      · show (l.cps ++ #[c]).size ≤ i + 1
        rw [Array.size_append]
        have : l.cps.size = l.length := rfl
        simp; omega
      · rw [join_last, h6, ht]
  rintro ρ L' ⟨o2, is, l, rfl, h1, h2, h3, h4, h5', h6⟩
  have hlen : ((z.cps.toList.map fun c => D.str ⟨#[c]⟩)).length = z.cps.toList.length := by rw [List.length_map]
  rw [hlen, List.take_length] at h6
  have hj : Txt.join " " (is ++ [l]) = z := h6
  have hp2 : partsOf z = is ++ [l] := by
    show Txt.split z " " = _
    rw [← hj, split_spl (by simp) h3]
  rw [← hp2] at h1
  walk_at "w"
  refine ⟨_, vr_ref h1, ?_⟩
  refine lc_pure (fun d => !isW d) id (vr_ref h1) (by rw [List.length_map]; exact Nat.le_of_lt (sz5 (by have := parts_len z; omega))) ?_ ?_
  · intro d hd acc Rq S ha g1 g2
    obtain ⟨w, hw, rfl⟩ := List.mem_map.mp hd
    walk_at "w"
    refine ⟨rfl, _, rfl, .inl ⟨_, rfl⟩, fun y hy => by cases hy; exact Nat.le_trans (PyProof.Rows.part_short hw) hz, ?_⟩
    walk_at "w"
    refine v_ite (fun c3 => ?_) (fun c3 => ?_)
    · walk_at "w"
      exact ⟨ha, g1 c3⟩
    · exact g2 c3
  have ew : wordsOf (.str z) = if (partsOf z).all wz = true then some (partsOf z) else none := rfl
  walk_at "w"
  refine v_emE (.inl ⟨rfl, rfl⟩) ?_
  rw [List.map_id, bad_all]
  walk_at "w"
  have hq' : wordsD (.str z) = if (partsOf z).all wz = true then .lst ((partsOf z).map .str) else .non := by
    unfold wordsD
    rw [ew]
    cases (partsOf z).all wz <;> rfl
  rw [hq'] at hq
  refine v_ite (fun c3 => ?_) (fun c3 => ?_)
  · rw [if_pos c3] at hq
    walk_at "w"
    refine v_gh (.lst h1) ?_
    rw [del_back hp h2]
    exact hq
  · rw [if_neg (by rw [c3]; decide)] at hq
    exact v_gh (.less fun a c h => (h2 a (fun e => by rw [e, hp] at h; cases h)).trans h) hq
end K03
set_option Elab.async false
set_option linter.all false
set_option maxRecDepth 100000
set_option maxHeartbeats 2000000
namespace K03
open PySem PySem.Spec PyProof.Rows L2 Dz Ed


theorem lg5 {n : Nat} (h : n ≤ 6000) : ((n : Int) + 1).natAbs.log2 < 9000 :=
  Nat.lt_of_le_of_lt (Nat.log2_le_self _) (by omega)
theorem cut_le {z : Str} {lo hi : Option Int} : (cutS z lo hi).length ≤ z.length := by
  show (List.toArray _).size ≤ z.cps.size
  rw [List.size_toArray, List.length_take, List.length_drop, Array.length_toList]
  omega
theorem asc_sp : Asc (Str.ofString " ") := fun c hc => by
  have : c ∈ [32] := hc
  rw [List.mem_singleton.mp this]; decide
theorem asc_nl : Asc (Str.ofString "\n") := fun c hc => by
  have : c ∈ [10] := hc
  rw [List.mem_singleton.mp this]; decide
theorem lenB_over {ds : List D} (h : decide ((100 : Int) < ds.length) = true) : lenB (some ds) 0 100 = false := by
  show (decide ((0 : Int) ≤ ds.length) && decide ((ds.length : Int) ≤ 100)) = false
  rw [decide_eq_false (p := (ds.length : Int) ≤ 100) (by have := of_decide_eq_true h; omega), Bool.and_false]
theorem lenB_in {ds : List D} (h : decide ((100 : Int) < ds.length) = false) : lenB (some ds) 0 100 = true := by
  show (decide ((0 : Int) ≤ ds.length) && decide ((ds.length : Int) ≤ 100)) = true
  rw [decide_eq_true (p := (ds.length : Int) ≤ 100) (by have := of_decide_eq_false h; omega), decide_eq_true (by omega)]; rfl
theorem find_filt {ds : List D} : ds.find? (fun d => !isW d) = (ds.filter fun d => !isW d).head? := (List.head?_filter).symm
theorem rowF_len {n : Nat} : ∀ {zs : List Str} {z : Str}, (∀ y ∈ zs, y.length ≤ n) → (rowF z zs).length ≤ z.length + (n + 1) * zs.length
  | [], z, _ => by show z.length ≤ _; simp
  | y :: ys, z, h => by
    have := rowF_len (z := z ++ " " ++ y) fun w hw => h w (List.mem_cons_of_mem _ hw)
    have h1 := h y List.mem_cons_self
    rw [len_app, len_app, show (Str.ofString " ").length = 1 from rfl] at this
    show (rowF (z ++ " " ++ y) ys).length ≤ _
    rw [List.length_cons, Nat.mul_succ]
    omega
theorem rowF_sum : ∀ (zs : List Str) (z : Str), (rowF z zs).length = z.length + ((zs.map (·.length)).sum + zs.length)
  | [], z => rfl
  | y :: ys, z => by
    have := rowF_sum ys (z ++ " " ++ y)
    rw [len_app, len_app, show (Str.ofString " ").length = 1 from rfl] at this
    show (rowF (z ++ " " ++ y) ys).length = _
    rw [this, List.map_cons, List.sum_cons, List.length_cons]
    omega
theorem mem_app {x y : Str} {c : Nat} (h : c ∈ x.cps.toList ∨ c ∈ y.cps.toList) : c ∈ (x ++ y).cps.toList := by
  show c ∈ (x.cps ++ y.cps).toList
  rw [Array.toList_append, List.mem_append]; exact h
theorem rowF_mem {c : Nat} : ∀ (zs : List Str) (z : Str), (c ∈ z.cps.toList ∨ ∃ y ∈ zs, c ∈ y.cps.toList) → c ∈ (rowF z zs).cps.toList
  | [], z, h => by
    rcases h with h | ⟨y, hy, _⟩
    · exact h
    · cases hy
  | y :: ys, z, h => by
    refine rowF_mem ys (z ++ " " ++ y) ?_
    rcases h with h | ⟨u, hu, h⟩
    · exact .inl (mem_app (.inl (mem_app (.inl h))))
    · rcases List.mem_cons.mp hu with rfl | hu
      · exact .inl (mem_app (.inr h))
      · exact .inr ⟨u, hu, h⟩
theorem strs_th : ∀ {fs : List Str}, (∀ f ∈ fs, Asc f ∧ f.length ≤ 5000) → Ths (fs.map D.str) (10 * (fs.map (·.length)).sum + 4 * fs.length) 0
  | [], _ => Ths.nil
  | f :: fs, h => by
    have h1 := h f List.mem_cons_self
    have := (strs_th fun g hg => h g (List.mem_cons_of_mem _ hg)).cons (Th.str h1.1 h1.2)
    rw [List.map_cons, List.map_cons, List.sum_cons, List.length_cons]
    exact this.more (by omega) (by omega)
theorem parts_th {z : Str} (ha : Asc z) (hz : z.length ≤ 5000) : Ths ((partsOf z).map D.str) 80000 0 := by
  have hj : Txt.join " " (partsOf z) = z := by
    show Builtin.Str.glued _ _ = _
    rw [PySem.StrLaws.glued_eq_join]
    exact PySem.StrLaws.join_split z " "
  cases hp : partsOf z with
  | nil => exact absurd hp (parts_ne z)
  | cons f fs =>
    rw [hp, rowF_join] at hj
    have hs := rowF_sum fs f
    rw [hj] at hs
    have hall : ∀ g ∈ f :: fs, Asc g ∧ g.length ≤ 5000 := fun g hg => by
      refine ⟨fun c hc => ha c ?_, ?_⟩
      · rw [← hj]
        refine rowF_mem fs f ?_
        rcases List.mem_cons.mp hg with rfl | hg
        · exact .inl hc
        · exact .inr ⟨g, hg, hc⟩
      · have : g ∈ partsOf z := by rw [hp]; exact hg
        exact Nat.le_trans (PyProof.Rows.part_short this) hz
    refine (strs_th hall).more ?_ (by omega)
    rw [List.map_cons, List.sum_cons, List.length_cons]
    omega
theorem wordsOf_th {x : D} {ws : List Str} (h : wordsOf x = some ws) (h5 : Sh5 x) (ha : ∀ z, x = .str z → Asc z) : Ths (ws.map D.str) 80000 0 ∧ ws.length ≤ 5002 ∧ ∃ z, x = .str z := by
  cases x with
  | str z =>
    have e : wordsOf (.str z) = if (partsOf z).all wz = true then some (partsOf z) else none := rfl
    rw [e] at h
    by_cases c : (partsOf z).all wz = true
    · rw [if_pos c] at h
      rw [← Option.some.inj h]
      exact ⟨parts_th (ha z rfl) (h5 z rfl), by have := parts_len z; have := h5 z rfl; omega, z, rfl⟩
    · rw [if_neg c] at h; cases h
  | _ => cases h
/-- a thing in the place of a word; its cell is not of E -/
inductive Od (L : Lc) (E : Addr → Prop) (M : Nat) : D → Prop
  | s (z : Str) : Asc z → z.length ≤ M → Od L E M (.str z)
  | non : Od L E M .non
  | sev : Od L E M (.int 7)
  | tru : Od L E M (.bl true)
  | l {a : Addr} (z : Str) : ¬ E a → L a = some (.lst [.str z]) → Asc z → z.length ≤ M → Od L E M (.ref a)
  | t (z : Str) : Asc z → z.length ≤ M → Od L E M (.tup [.str z])
  | d : Od L E M (.dK [])
theorem Od.re {L L' : Lc} {E E' : Addr → Prop} {M M' : Nat} {x : D} (h : Od L E M x) (m : M ≤ M') (e : ∀ b c, L b = some c → ¬ E b → L' b = some c ∧ ¬ E' b) : Od L' E' M' x := by
  cases h with
  | s z a n => exact .s z a (Nat.le_trans n m)
  | non => exact .non
  | sev => exact .sev
  | tru => exact .tru
  | l z n c a k => exact .l z (e _ _ c n).2 (e _ _ c n).1 a (Nat.le_trans k m)
  | t z a k => exact .t z a (Nat.le_trans k m)
  | d => exact .d
theorem Od.kE {L : Lc} {E : Addr → Prop} {M : Nat} {x : D} {C : Addr} (h : Od L E M x) : K03.kE C L x := by
  cases h with
  | l z n c a k => exact .inl ⟨"list", by simp [kindD, c]⟩
  | s z a n => exact .inl ⟨_, rfl⟩
  | non => exact .inl ⟨_, rfl⟩
  | sev => exact .inl ⟨_, rfl⟩
  | tru => exact .inl ⟨_, rfl⟩
  | t z a k => exact .inl ⟨_, rfl⟩
  | d => exact .inl ⟨_, rfl⟩
theorem Od.sh5 {L : Lc} {E : Addr → Prop} {M : Nat} {x : D} (h : Od L E M x) (m : M ≤ 5000) : Sh5 x := fun z e => by
  subst e
  cases h with
  | s _ a n => exact Nat.le_trans n m
theorem Od.rv {L : Lc} {E : Addr → Prop} {M : Nat} {x : D} (h : Od L E M x) (m : M ≤ 5000) : ∃ y, Rv L (fun a => ¬ E a) x y ∧ Th y 60000 2 := by
  have sm : ∀ {z : Str}, Asc z → z.length ≤ M → Th (.str z) 50002 0 := fun a n => Th.strs a (Nat.le_trans n m)
  cases h with
  | s z a n => exact ⟨_, .str z, (sm a n).more (by omega) (by omega)⟩
  | non => exact ⟨_, .non, Th.non.more (by omega) (by omega)⟩
  | sev => exact ⟨_, .int 7, (Th.small (by decide)).more (by omega) (by omega)⟩
  | tru => exact ⟨_, .bl true, (Th.bl true).more (by omega) (by omega)⟩
  | l z n c a k => exact ⟨_, .ref n c (.cons (.str z) .nil), ((Ths.nil.cons (sm a k)).lst).more (by omega) (by omega)⟩
  | t z a k => exact ⟨_, .tup (.cons (.str z) .nil), ((Ths.nil.cons (sm a k)).tup).more (by omega) (by omega)⟩
  | d => exact ⟨_, .dK .nil, Th.dnil.more (by omega) (by omega)⟩

def sp__law_odd (A : Ad) : DSp := fun ds L q _ => ∃ p c w M, ds = [.ref p, .str w] ∧ (∃ x, L p = some x ∧ BagC ((c : Nat) : Int) x) ∧ c ≤ 890000 ∧ Asc w ∧ w.length ≤ M ∧ M ≤ 4900 ∧ ∀ y L', (∀ b, b ≠ p → L b ≠ none → L' b = L b) → (∃ x, L' p = some x ∧ BagC ((c + 2 : Nat) : Int) x) → (∀ E : Addr → Prop, (∀ b, E b → L b ≠ none) → Od L' E (M + 1) y) → q y L'
def sp__law_due (A : Ad) : DSp := fun ds L q _ => ∃ x y o, ds = [x, y] ∧ kE A.C_NoWord L x ∧ SqO L y o ∧ Sh5 x ∧ (∀ ds, o = some ds → ∀ d ∈ ds, kE A.C_NoWord L d ∧ Sh5 d) ∧ q (due x y o).d L
def sp__law_asked (A : Ad) : DSp := fun ds L q _ => ∃ x y o, ds = [x, y] ∧ kE A.C_NoWord L x ∧ SqO L y o ∧ Sh5 x ∧ (∀ ds, o = some ds → ∀ d ∈ ds, kE A.C_NoWord L d ∧ Sh5 d) ∧ q (due x y o).d L
def sp__law_read_right (A : Ad) : DSp := fun ds L q _ => ∃ x, ds = [x] ∧ kE A.C_NoWord L x ∧ Sh5 x ∧ (∀ z, x = .str z → Asc z) ∧ q (.bl true) L
def b__law_odd (A : Ad) : DTS :=
  (dSeq (dSet 2 (dCall (sp__law_take A) 2 (dCons (dVar 0) (dCons (dOp addD (dCB lenD (dCons (dVar 1) dNil)) (dC (.int 1))) dNil))))
    (dSeq (dPar 3 4 (dCons (dSl slD (dVar 1) dNoPart (dPart (dVar 2))) (dCons (dSl slD (dVar 1) (dPart (dVar 2)) dNoPart) dNil)))
    (dSeq (dSet 5 (dLst (dCons (dC (.str "")) (dCons (dOp addD (dOp addD (dVar 3) (dC (.str " "))) (dVar 4)) (dCons (dOp addD (dOp addD (dVar 3) (dC (.str "\n"))) (dVar 4)) (dCons (dC .non) (dCons (dC (.int 7)) (dCons (dC (.bl true)) (dCons (dLstC (dCons (dVar 1) dNil)) (dCons (dTup (dCons (dVar 1) dNil)) (dCons dDK (dCons (dC (.str " ")) dNil))))))))))))
    (dRet (dOp ixD (dVar 5) (dCall (sp__law_take A) 2 (dCons (dVar 0) (dCons (dC (.int 10)) dNil))))))))
def b__law_due (A : Ad) : DTS :=
  (dSeq (dIfS (dtNot (dTest (dCall (sp__law_is_word A) 1 (dCons (dVar 0) dNil))))
    (dRet (dLst (dCons (dC (.str "word")) (dCons (dVar 0) dNil)))) dNext)
    (dSeq (dIfS (dtOr (dtNot (dTest (dCB isi2D (dCons (dVar 1) (dCons (dTup (dCons (dC (.ty "list")) (dCons (dC (.ty "tuple")) dNil))) dNil))))) (dTest (dOp gtD (dCB lenD (dCons (dVar 1) dNil)) (dC (.int 100)))))
    (dRet (dLst (dCons (dC (.str "list")) (dCons (dVar 1) dNil)))) dNext)
    (dSeq (dSet 2 (dLc (diAny (dVar 1)) (dgName 3) (dtNot (dTest (dCall (sp__law_is_word A) 1 (dCons (dVar 3) dNil)))) (dVar 3) [3]))
    (dSeq (dIfS (dTest (dOp (emD true) (dVar 2) (dLst dNil)))
    (dRet (dLst (dCons (dC (.str "word")) (dCons (dOp ixD (dVar 2) (dC (.int 0))) dNil)))) dNext)
    (dSeq (dSet 4 (dVar 0))
    (dSeq (dFor (diAny (dVar 1)) (dgName 3)
    (dSet 4 (dOp addD (dOp addD (dVar 4) (dC (.str " "))) (dVar 3))))
    (dRet (dLst (dCons (dC (.str "told")) (dCons (dVar 4) dNil))))))))))
def b__law_asked (A : Ad) : DTS :=
  (dTryT (mt A)
    (dRet (dLst (dCons (dC (.str "told")) (dCons (dCallD (sp_row_of A) 2 [] (dCons (dVar 0) (dCons (dVar 1) dNil))) dNil)))) [some (.one ⟨A.C_NoWord, some 2, fun a dd C => (dRet (dLst (dCons (dC (.str "word")) (dCons (dXfC a dd C A.C_NoWord "found" (dVar 2)) dNil))))⟩), some (.one ⟨A.C_NoList, some 2, fun a dd C => (dRet (dLst (dCons (dC (.str "list")) (dCons (dXfC a dd C A.C_NoList "found" (dVar 2)) dNil))))⟩), none])
def b__law_read_right (A : Ad) : DTS :=
  (dSeq (dSet 1 (dCall (sp__law_cut A) 1 (dCons (dVar 0) dNil)))
    (dSeq (dSet 2 (dIfE (dTest (dOp isND (dVar 1) (dC .non))) (dC .non) (dTup (dCons (dOp ixD (dVar 1) (dC (.int 0))) (dCons (dSl slD (dVar 1) (dPart (dC (.int 1))) dNoPart) dNil)))))
    (dSeq (dFor (diRng1 (dCons (dC (.int 2)) dNil)) (dgName 3)
    (dSeq (dPar 4 5 (dCons (dCall (sp_words_of A) 1 (dCons (dVar 0) dNil)) (dCons (dCall (sp_split_row A) 1 (dCons (dVar 0) dNil)) dNil)))
    (dSeq (dIfS (dTest (dOp neD (dCB reprQD (dCons (dLst (dCons (dVar 4) (dCons (dVar 5) (dCons (dCall (sp_is_word A) 1 (dCons (dVar 0) dNil)) dNil)))) dNil)) (dCB reprQD (dCons (dLst (dCons (dVar 1) (dCons (dVar 2) (dCons (dCall (sp__law_is_word A) 1 (dCons (dVar 0) dNil)) dNil)))) dNil))))
    (dRet (dC (.bl false))) dNext)
    (dIfS (dTest (dOp notND (dVar 4) (dC .non)))
    (dSeq (dDrop (dBML "list" appendD (dVar 4) (dCons (dC (.str "more")) dNil)))
    (dDrop (dBML "list" appendD (dOp ixD (dVar 5) (dC (.int 1))) (dCons (dC (.str "more")) dNil)))) dNext))))
    (dRet (dC (.bl true))))))
theorem rd__law_odd (A : Ad) : Keeps ["_law_bag_here", "_law_word_here", "_law_at", "_law_front", "_law_back", "_law_odd_here"] (b__law_odd A) 2 (sp__law_odd A) := by
  rintro ds L q e hl ⟨p, c, w, M, rfl, hb, hc, hw, hM, hM5, hq⟩
  unfold bodyD b__law_odd
  have b0 := Bag.self hb
  walk_at "w"
  refine .inr (.inl ⟨w, rfl, Nat.le_of_lt (sz5 (by omega)), ?_⟩)
  walk_at "w"
  refine ⟨rfl, take_d b0 (by omega) (by omega) (lg5 (by omega)) fun i1 L1 i10 i11 b1 => ?_⟩
  walk_at "w"
  refine v_slS (Nat.le_of_lt (sz5 (by omega))) ?_
  walk_at "w"
  refine v_slS (Nat.le_of_lt (sz5 (by omega))) ?_
  walk_at "w"
  have hc2 := cut_two (z := w) i10
  have fa : Asc (cutS w none (some i1)) := asc_cut hw
  have ga : Asc (cutS w (some i1) none) := asc_cut hw
  generalize cutS w none (some i1) = fr at hc2 fa
  generalize cutS w (some i1) none = bk at hc2 ga
  refine v_addS (by show fr.length + 1 ≤ sizeLine; exact Nat.le_of_lt (sz5 (by omega))) ?_
  walk_at "w"
  refine v_addS (by rw [len_app]; show fr.length + 1 + bk.length ≤ sizeLine; exact Nat.le_of_lt (sz5 (by omega))) ?_
  walk_at "w"
  refine v_addS (by show fr.length + 1 ≤ sizeLine; exact Nat.le_of_lt (sz5 (by omega))) ?_
  walk_at "w"
  refine v_addS (by rw [len_app]; show fr.length + 1 + bk.length ≤ sizeLine; exact Nat.le_of_lt (sz5 (by omega))) ?_
  walk_at "w"
  intro a ha
  walk_at "w"
  have nap : a ≠ p := b1.ne_new ha
  have nL : L a = none := (b1.rest a nap).symm.trans ha
  have b1' := b1.new (x := .lst [.str w]) ha
  refine ⟨rfl, take_d b1' (by omega) (by decide) (by decide) fun i2 L2 i20 i21 b2 => ?_⟩
  have la : L2 a = some (.lst [.str w]) := (b2.rest a nap).trans updL_same
  have keep : ∀ b, b ≠ p → L b ≠ none → L2 b = L b := fun b hb hn => (b2.rest b hb).trans (updL_ne fun e => hn (by rw [e]; exact nL))
  have bag : ∃ x, L2 p = some x ∧ BagC ((c + 2 : Nat) : Int) x := b2.bag
  have spA : Asc (Str.ofString " ") := asc_sp
  have nlA : Asc (Str.ofString "\n") := asc_nl
  have s1 : (fr ++ Str.ofString " " ++ bk).length ≤ M + 1 := by rw [len_app, len_app]; show fr.length + 1 + bk.length ≤ _; omega
  have s2 : (fr ++ Str.ofString "\n" ++ bk).length ≤ M + 1 := by rw [len_app, len_app]; show fr.length + 1 + bk.length ≤ _; omega
  refine v_ixM rfl i20 (by show i2 < (10 : Nat); omega) fun d hd => v_rt (hq d L2 keep bag fun E hE => ?_)
  simp only [List.mem_cons, List.not_mem_nil, or_false] at hd
  rcases hd with rfl | rfl | rfl | rfl | rfl | rfl | rfl | rfl | rfl | rfl
  · exact .s _ asc_empty (Nat.zero_le _)
  · exact .s _ (asc_app (asc_app fa spA) ga) s1
  · exact .s _ (asc_app (asc_app fa nlA) ga) s2
  · exact .non
  · exact .sev
  · exact .tru
  · exact .l w (fun e => hE a e nL) la hw (by omega)
  · exact .t w hw (by omega)
  · exact .d
  · exact .s _ spA (by show 1 ≤ _; omega)
theorem rd__law_due (A : Ad) : Keeps ["_law_lead", "_law_behind", "_law_bad", "_law_word_here", "_law_text"] (b__law_due A) 2 (sp__law_due A) := by
  rintro ds L q e hl ⟨x, y, o, rfl, hx, ho, h5, hk, hq⟩
  unfold bodyD b__law_due
  walk_at "w"
  refine ⟨rfl, x, rfl, hx, h5, ?_⟩
  walk_at "w"
  refine v_ite (fun c => ?_) (fun c => ?_)
  · walk_at "w"
    rw [due_no (by simpa using c)] at hq
    exact v_rt hq
  have c : isW x = true := by simpa using c
  walk_at "w"
  refine v_isi2s ho ?_
  walk_at "w"
  cases o with
  | none =>
    walk_at "w"
    rw [due_list c rfl] at hq
    exact v_rt hq
  | some ds =>
  have hk := hk ds rfl
  walk_at "w"
  refine v_lenL ho.seq ?_
  walk_at "w"
  refine v_ite (fun c1 => ?_) (fun c1 => ?_)
  · walk_at "w"
    rw [due_list c (lenB_over c1)] at hq
    exact v_rt hq
  have hl : ds.length ≤ 100 := by have := of_decide_eq_false c1; omega
  rw [due_in c (lenB_in c1)] at hq
  walk_at "w"
  refine v_anyO ho (fun k' h => by
      walk_at "w"
      exact h) fun G hG => ?_
  refine lc_pure (fun d => !isW d) id hG (Nat.le_of_lt (sz5 (by omega))) ?_ ?_
  · intro d hd acc Rq S ha g1 g2
    walk_at "w"
    refine ⟨rfl, d, rfl, (hk d hd).1, (hk d hd).2, ?_⟩
    walk_at "w"
    refine v_ite (fun c3 => ?_) (fun c3 => ?_)
    · walk_at "w"
      exact ⟨ha, g1 c3⟩
    · exact g2 c3
  walk_at "w"
  rw [List.map_id]
  refine v_emN (.inl ⟨rfl, rfl⟩) ?_
  unfold dueL at hq
  rw [find_filt] at hq
  walk_at "w"
  cases hf : ds.filter (fun d => !isW d) with
  | cons v r =>
    rw [hf] at hq
    refine v_ite (fun c3 => ?_) (fun c3 => by cases c3)
    walk_at "w"
    exact v_rt hq
  | nil =>
  rw [hf] at hq
  have hb : ∀ e ∈ ds, isW e = true := fun e he => by
    cases hw : isW e with
    | true => rfl
    | false =>
      have : e ∈ ds.filter (fun d => !isW d) := List.mem_filter.mpr ⟨he, by rw [hw]; rfl⟩
      rw [hf] at this; cases this
  refine v_ite (fun c3 => by cases c3) (fun c3 => ?_)
  walk_at "w"
  refine v_anyO ho (fun k' h => by
      walk_at "w"
      exact h) fun G2 hG2 => ?_
  have l5 : ∀ d ∈ ds, (txt d).length ≤ 5000 := fun d hd => (hk d hd).2 _ (isW_str (hb d hd))
  refine for_go (fun i ρ L' => ∃ o3, ρ = [some x, some y, some (.lst []), o3, some (.str (rowF (txt x) ((ds.take i).map txt)))] ∧ L' = L) ⟨_, by rw [List.take_zero]; rw [isW_str c]; rfl, rfl⟩ (fun i ρ L' h => by obtain ⟨_, _, e⟩ := h; rw [e]; exact hG2) ?_ ?_
  · rintro i d ρ L' R hd ⟨o3, rfl, rfl⟩ hR
    have hm := List.mem_of_getElem? hd
    have hi : i ≤ 100 := by
      have := (List.getElem?_eq_some_iff.mp hd).1
      omega
    have hlen : (rowF (txt x) ((ds.take i).map txt)).length ≤ 5000 + 5001 * 100 := by
      have := rowF_len (n := 5000) (z := txt x) (zs := (ds.take i).map txt) fun w hw => by
        obtain ⟨d, hd, rfl⟩ := List.mem_map.mp hw
        exact l5 d (List.mem_of_mem_take hd)
      have h1 := h5 _ (isW_str c)
      rw [List.length_map, List.length_take] at this
      have : (5000 + 1) * min i ds.length ≤ 5001 * 100 := Nat.mul_le_mul (Nat.le_refl _) (by omega)
      omega
    rw [isW_str (hb d hm)]
    walk_at "w"
    refine v_addS (by show _ + 1 ≤ sizeLine; exact Nat.le_trans (Nat.add_le_add_right hlen 1) (by show _ ≤ 2 ^ 24; decide)) ?_
    walk_at "w"
    refine v_addS ?_ ?_
    · rw [len_app]
      show _ + 1 + _ ≤ sizeLine
      have := l5 d hm
      show _ + 1 + _ ≤ 2 ^ 24
      omega
    walk_at "w"
    refine hR _ _ ⟨some (.str (txt d)), ?_, rfl⟩
    rw [take_get hd, List.map_append, show List.map txt [d] = [txt d] from rfl, rowF_snoc]
    rfl
  rintro ρ L' ⟨o3, rfl, rfl⟩
  rw [List.take_length]
  walk_at "w"
  exact v_rt hq
theorem rd__law_asked (A : Ad) : Keeps ["_law_lead", "_law_behind", "e"] (b__law_asked A) 2 (sp__law_asked A) := by
  rintro ds L q e hl ⟨x, y, o, rfl, hx, ho, h5, hk, hq⟩
  unfold bodyD b__law_asked
  walk_at "w"
  refine ⟨rfl, x, y, o, rfl, hx, ho, h5, hk, ?_⟩
  cases hd : due x y o with
  | told z =>
    rw [hd] at hq
    dsimp only [duQ]
    walk_at "w"
    exact v_rt hq
  | word v =>
    rw [hd] at hq
    refine cls_yes (by simp [mt]) fun a dd => ?_
    walk_at "w"
    refine ⟨_, rfl, _, _, rfl, rfl, rfl, ?_⟩
    walk_at "w"
    exact v_rt hq
  | list v =>
    rw [hd] at hq
    refine cls_no (by simp [mt]) (cls_yes (by simp [mt]) fun a dd => ?_)
    walk_at "w"
    refine ⟨_, rfl, _, _, rfl, rfl, rfl, ?_⟩
    walk_at "w"
    exact v_rt hq
theorem rd__law_read_right (A : Ad) : Keeps ["_law_thing", "_law_due_here", "_law_pair", "_law_turn", "_law_words", "_law_split"] (b__law_read_right A) 1 (sp__law_read_right A) := by
  rintro ds L q e hl ⟨x, rfl, hx, h5, ha, hq⟩
  unfold bodyD b__law_read_right
  walk_at "w"
  refine ⟨rfl, x, rfl, hx, h5, ?_⟩
  cases hw : wordsOf x with
  | none =>
    rw [show wordsD x = .non by unfold wordsD; rw [hw]]
    walk_at "w"
    refine ⟨2, rfl, by decide, by decide, ?_⟩
    refine for_go (fun i ρ L' => ∃ o3 o4 o5, ρ = [some x, some .non, some .non, o3, o4, o5] ∧ L' = L) ⟨_, _, _, rfl, rfl⟩ (fun _ _ _ _ => trivial) ?_ ?_
    · rintro i d ρ L' R hd ⟨o3, o4, o5, rfl, rfl⟩ hR
      walk_at "w"
      refine ⟨rfl, x, rfl, hx, h5, fun _ => ?_, fun ws e => by rw [hw] at e; cases e⟩
      walk_at "w"
      refine ⟨rfl, x, rfl, hx, h5, fun _ => ?_, fun v ws e => by rw [hw] at e; cases e⟩
      walk_at "w"
      refine ⟨rfl, x, rfl, hx, ?_⟩
      walk_at "w"
      have th : Th (.lst [.non, .non, .bl (isW x)]) 100 3 := (Ths.nil.cons (Th.bl _) |>.cons Th.non |>.cons Th.non).lst.more
      refine v_reprT th ?_
      generalize hS : (pyOf (D.lst [.non, .non, .bl (isW x)])).shown = S1
      walk_at "w"
      refine ⟨rfl, x, rfl, hx, h5, ?_⟩
      walk_at "w"
      refine v_reprT th ?_
      rw [hS]
      walk_at "w"
      refine v_ite (fun c => absurd c (by simp)) (fun _ => ?_)
      walk_at "w"
      exact hR _ _ ⟨_, _, _, rfl, rfl⟩
    rintro ρ L' ⟨o3, o4, o5, rfl, rfl⟩
    walk_at "w"
    exact v_rt hq
  | some ws =>
  obtain ⟨th0, hl0, z, rfl⟩ := wordsOf_th hw h5 ha
  cases ws with
  | nil => exact absurd rfl (wordsOf_ne hw)
  | cons w ws =>
  rw [show wordsD (.str z) = .lst ((w :: ws).map .str) by unfold wordsD; rw [hw]]
  have th1 : Ths (ws.map D.str) 80000 0 := th0.sub (List.sublist_cons_self _ _)
  have tw : Th (.str w) 80000 0 := (th0.mem List.mem_cons_self).more
  have th : Th (.lst [.lst ((w :: ws).map .str), .tup [.str w, .lst (ws.map .str)], .bl (isW (.str z))]) 500000 10 := (Ths.nil.cons (Th.bl _) |>.cons ((Ths.nil.cons th1.lst).cons tw).tup |>.cons th0.lst).lst.more
  walk_at "w"
  refine v_slL (ds := (w :: ws).map D.str) rfl ?_
  rw [show cutD ((w :: ws).map D.str) (some 1) none = ws.map D.str from cut_tl]
  walk_at "w"
  refine ⟨2, rfl, by decide, by decide, ?_⟩
  refine for_go (fun i ρ L' => ∃ o3 o4 o5, ρ = [some (.str z), some (.lst ((w :: ws).map .str)), some (.tup [.str w, .lst (ws.map .str)]), o3, o4, o5] ∧ ∀ b c, L b = some c → L' b = some c) ⟨_, _, _, rfl, fun _ _ h => h⟩ (fun _ _ _ _ => trivial) ?_ ?_
  · rintro i d ρ L' R hd ⟨o3, o4, o5, rfl, hL⟩ hR
    have hk : ∀ L, kE A.C_NoWord L (.str z) := fun L => .inl ⟨_, rfl⟩
    walk_at "w"
    refine ⟨rfl, _, rfl, hk _, h5, (fun e => by rw [hw] at e; cases e), fun ws' e p1 hp1 => ?_⟩
    have e := Option.some.inj (hw.symm.trans e)
    subst e
    walk_at "w"
    refine ⟨rfl, _, rfl, hk _, h5, (fun e => by rw [hw] at e; cases e), fun w' ws' e p2 hp2 => ?_⟩
    have e := Option.some.inj (hw.symm.trans e)
    obtain ⟨rfl, rfl⟩ := List.cons.inj e
    have ne : p1 ≠ p2 := fun e => by rw [← e, updL_same] at hp2; cases hp2
    have l2 : updL (updL L' p1 (.lst ((w :: ws).map D.str))) p2 (.lst (ws.map D.str)) p2 = some (.lst (ws.map D.str)) := updL_same
    have l1 : updL (updL L' p1 (.lst ((w :: ws).map D.str))) p2 (.lst (ws.map D.str)) p1 = some (.lst ((w :: ws).map D.str)) := (updL_ne ne).trans updL_same
    have n1 : ∀ b c, L b = some c → b ≠ p1 := fun b c h e => by
      have := hL b c h
      rw [e, hp1] at this; cases this
    have n2 : ∀ b c, L b = some c → b ≠ p2 := fun b c h e => by
      have := hL b c h
      rw [updL_ne (fun e => ne e.symm)] at hp2
      rw [e, hp2] at this; cases this
    have hL2 : ∀ b c, L b = some c → updL (updL L' p1 (.lst ((w :: ws).map D.str))) p2 (.lst (ws.map D.str)) b = some c := fun b c h => (updL_ne (n2 b c h)).trans ((updL_ne (n1 b c h)).trans (hL b c h))
    generalize updL (updL L' p1 (.lst ((w :: ws).map D.str))) p2 (.lst (ws.map D.str)) = L2 at l1 l2 hL2
    walk_at "w"
    refine ⟨rfl, _, rfl, hk _, ?_⟩
    walk_at "w"
    have rv : Rv L2 (fun _ => True) (.lst [.ref p1, .tup [.str w, .ref p2], .bl (isW (.str z))]) (.lst [.lst ((w :: ws).map .str), .tup [.str w, .lst (ws.map .str)], .bl (isW (.str z))]) :=
      .lst (.cons (.ref trivial l1 (rvL_self _ _ _ th0.ok)) (.cons (.tup (.cons (.str w) (.cons (.ref trivial l2 (rvL_self _ _ _ th1.ok)) .nil))) (.cons (.bl _) .nil)))
    refine w_repr rv th ?_
    generalize hS : (pyOf (D.lst [.lst ((w :: ws).map .str), .tup [.str w, .lst (ws.map .str)], .bl (isW (.str z))])).shown = S1
    walk_at "w"
    refine ⟨rfl, _, rfl, hk _, h5, ?_⟩
    walk_at "w"
    refine v_reprT th ?_
    rw [hS]
    walk_at "w"
    refine v_ite (fun c => absurd c (by simp)) (fun _ => ?_)
    walk_at "w"
    refine ⟨⟨rfl, _, l1⟩, ?_⟩
    walk_at "w"
    refine v_appN l1 (by rw [List.length_map]; exact sz5 (by omega)) ?_
    walk_at "w"
    have l2' : updL L2 p1 (.lst ((w :: ws).map D.str ++ [D.str (Str.ofString "more")])) p2 = some (.lst (ws.map D.str)) := (updL_ne (fun e => ne e.symm)).trans l2
    refine ⟨⟨rfl, _, l2'⟩, ?_⟩
    walk_at "w"
    refine v_appN l2' (by rw [List.length_map]; rw [List.length_cons] at hl0; exact sz5 (by omega)) ?_
    walk_at "w"
    exact hR _ _ ⟨_, _, _, rfl, fun b c h => (updL_ne (n2 b c h)).trans ((updL_ne (n1 b c h)).trans (hL2 b c h))⟩
  rintro ρ L' ⟨o3, o4, o5, rfl, hL⟩
  walk_at "w"
  exact v_gh (.less hL) hq
end K03
set_option Elab.async false
set_option linter.all false
set_option maxRecDepth 100000
set_option maxHeartbeats 2000000
namespace K03
open PySem PySem.Spec PyProof.Rows L2 Dz Ed


theorem repr_char : ∀ q ∈ [34, 39], ∀ c, c < 128 → ∀ d ∈ Builtin.Str.reprChar q c, d < 128 := by decide +kernel
theorem quote_in (x : Str) : reprQuote x ∈ [34, 39] := by
  unfold reprQuote
  split <;> decide
theorem fold_all {P : Nat → Prop} {f : Nat → List Nat} : ∀ (l : List Nat) (acc : Array Nat), (∀ c ∈ acc.toList, P c) → (∀ c ∈ l, ∀ d ∈ f c, P d) → ∀ c ∈ (l.foldl (fun out c => out ++ (f c).toArray) acc).toList, P c
  | [], acc, h, _ => h
  | x :: l, acc, h, g => by
    refine fold_all l (acc ++ (f x).toArray) (fun c hc => ?_) fun c hc => g c (List.mem_cons_of_mem _ hc)
    rw [Array.toList_append, List.mem_append] at hc
    rcases hc with hc | hc
    · exact h c hc
    · exact g x List.mem_cons_self c (by simpa using hc)
theorem asc_repr {x : Str} (h : Asc x) : Asc (reprText x) := by
  have hq : reprQuote x < 128 := by
    have := quote_in x
    simp only [List.mem_cons, List.not_mem_nil, or_false] at this
    omega
  intro c hc
  unfold reprText at hc
  have hc : c ∈ ((Array.foldl (fun out c => out ++ (Builtin.Str.reprChar (reprQuote x) c).toArray) #[reprQuote x] x.cps).push (reprQuote x)).toList := hc
  rw [Array.toList_push, List.mem_append] at hc
  rcases hc with hc | hc
  · rw [← Array.foldl_toList] at hc
    refine fold_all (P := fun c => c < 128) x.cps.toList #[reprQuote x] (fun d hd => ?_) (fun d hd e he => repr_char _ (quote_in x) d (h d hd) e he) c hc
    have : d = reprQuote x := by simpa using hd
    rw [this]; exact hq
  · rw [List.mem_singleton.mp hc]; exact hq
theorem asc_lit {x : Str} (h : ascB x = true) : Asc x := asc_of h
theorem Od.str {L : Lc} {E : Addr → Prop} {M : Nat} {x : D} (h : Od L E M x) (m : M ≤ 4000) : ∃ d, PyQ L x d ∧ Dz.Sq d 60000 2 ∧ Asc (strP d) ∧ (strP d).length ≤ 10 * M + 20 := by
  have sm : ∀ {z : Str}, Asc z → z.length ≤ M → Th (.str z) (10 * z.length + 2) 0 := fun a n => Th.str a (by omega)
  cases h with
  | s z a n => exact ⟨.str z, .str z, ((sm a n).more (B' := 60000) (k' := 2) (by omega) (by omega)).sq, a, by show z.length ≤ _; omega⟩
  | non => exact ⟨.none, .non, (Th.non.more (B' := 60000) (k' := 2)).sq, asc_lit (by decide +kernel), by show (Str.ofString "None").length ≤ _; have : (Str.ofString "None").length = 4 := rfl; omega⟩
  | sev => exact ⟨.int 7, .int 7, ((Th.small (i := 7) (by decide)).more (B' := 60000) (k' := 2)).sq, asc_lit (by decide +kernel), Nat.le_trans (show (strP (.int 7)).length ≤ 20 by decide +kernel) (by omega)⟩
  | tru => exact ⟨.bool true, .bl true, ((Th.bl true).more (B' := 60000) (k' := 2)).sq, asc_lit (by decide +kernel), Nat.le_trans (show (strP (.bool true)).length ≤ 20 by decide +kernel) (by omega)⟩
  | l z n c a k =>
    have t := (Ths.nil.cons (sm a k)).lst
    have e : (PyData.list [.str z]).shown = Str.ofString "[" ++ Str.ofString "" ++ reprText z ++ Str.ofString "]" := PyProof.Rows.listText_one (reprText z)
    refine ⟨.list [.str z], .ref c (.cons (.str z) .nil), (t.more (B' := 60000) (k' := 2) (by omega) (by omega)).sq, ?_, ?_⟩
    · show Asc (PyData.list [.str z]).shown
      rw [e]
      exact asc_app (asc_app (asc_app (asc_lit (by decide +kernel)) asc_empty) (asc_repr a)) (asc_lit (by decide +kernel))
    · have := t.sq.ln
      have : (PyData.list [.str z]).shown.length ≤ 10 * z.length + 2 + 2 + 0 + 3 := this
      show (PyData.list [.str z]).shown.length ≤ _
      omega
  | t z a k =>
    have t := (Ths.nil.cons (sm a k)).tup
    have e : (PyData.tuple [.str z]).shown = Str.ofString "(" ++ (Str.ofString ", ").join [reprText z] ++ Str.ofString ",)" := rfl
    have e2 : (Str.ofString ", ").join [reprText z] = reprText z := by rw [← PySem.StrLaws.glued_cons]; rfl
    refine ⟨.tuple [.str z], .tup (.cons (.str z) .nil), (t.more (B' := 60000) (k' := 2) (by omega) (by omega)).sq, ?_, ?_⟩
    · show Asc (PyData.tuple [.str z]).shown
      rw [e, e2]
      exact asc_app (asc_app (asc_lit (by decide +kernel)) (asc_repr a)) (asc_lit (by decide +kernel))
    · have := t.sq.ln
      have : (PyData.tuple [.str z]).shown.length ≤ 10 * z.length + 2 + 2 + 0 + 3 := this
      show (PyData.tuple [.str z]).shown.length ≤ _
      omega
  | d => exact ⟨.dict [], .dK .nil, (Th.dnil.more (B' := 60000) (k' := 2)).sq, asc_lit (by decide +kernel), Nat.le_trans (show (strP (.dict [])).length ≤ 20 by decide +kernel) (by omega)⟩
theorem lit_n : (Str.ofString "None").length = 4 := rfl
/-- what no other thing may have as its cell -/
def Eo (p T : Addr) (y : D) : Addr → Prop := fun b => b = p ∨ b = T ∨ y = .ref b
def sumT (ds : List D) : Nat := (ds.map fun d => (txt d).length).sum
inductive Oth (L : Lc) (p T : Addr) (M W : Nat) : D → Prop
  | cel {a : Addr} {ds : List D} : a ≠ p → a ≠ T → L a = some (.lst ds) → ds.length ≤ 101 → (∀ d ∈ ds, Od L (Eo p T (.ref a)) M d) → sumT ds ≤ W → Oth L p T M W (.ref a)
  | tup (ds : List D) : ds.length ≤ 101 → (∀ d ∈ ds, Od L (Eo p T (.tup ds)) M d) → sumT ds ≤ W → Oth L p T M W (.tup ds)
  | non : Oth L p T M W .non
  | sev : Oth L p T M W (.int 7)
  | ab : Oth L p T M W (.str "ab")
  | d0 : Oth L p T M W (.dK [])
  | d1 : Oth L p T M W (.dK [(.inr "a", .str "b")])
theorem Oth.re {L L' : Lc} {p T : Addr} {M M' W W' : Nat} {y : D} (h : Oth L p T M W y) (m : M ≤ M') (w : W ≤ W') (e : ∀ b c, b ≠ p → b ≠ T → L b = some c → L' b = some c) : Oth L' p T M' W' y := by
  cases h with
  | cel n1 n2 l n d s => exact .cel n1 n2 (e _ _ n1 n2 l) n (fun x hx => (d x hx).re m fun b c hb hn => ⟨e b c (fun z => hn (.inl z)) (fun z => hn (.inr (.inl z))) hb, hn⟩) (Nat.le_trans s w)
  | tup ds n d s => exact .tup ds n (fun x hx => (d x hx).re m fun b c hb hn => ⟨e b c (fun z => hn (.inl z)) (fun z => hn (.inr (.inl z))) hb, hn⟩) (Nat.le_trans s w)
  | non => exact .non
  | sev => exact .sev
  | ab => exact .ab
  | d0 => exact .d0
  | d1 => exact .d1
def isC : D → Bool
  | .ref _ => true
  | _ => false
theorem Oth.isl {L : Lc} {p T : Addr} {M W : Nat} {y : D} {q : DQ} (h : Oth L p T M W y) (hq : q (.bl (isC y)) L) : isiD [y, .ty "list"] L q := by
  cases h with
  | cel n1 n2 l n d s => exact ⟨_, _, "list", true, rfl, by simp [kindD, l], by decide +kernel, hq⟩
  | tup ds n d s => exact ⟨_, _, "tuple", false, rfl, rfl, by decide +kernel, hq⟩
  | non => exact ⟨_, _, "NoneType", false, rfl, rfl, by decide +kernel, hq⟩
  | sev => exact ⟨_, _, "int", false, rfl, rfl, by decide +kernel, hq⟩
  | ab => exact ⟨_, _, "str", false, rfl, rfl, by decide +kernel, hq⟩
  | d0 => exact ⟨_, _, "dict", false, rfl, rfl, by decide +kernel, hq⟩
  | d1 => exact ⟨_, _, "dict", false, rfl, rfl, by decide +kernel, hq⟩
theorem sumT_set {y : D} : ∀ {ds : List D} {j : Nat}, sumT (ds.set j y) ≤ sumT ds + (txt y).length
  | [], j => by simp [sumT]
  | d :: ds, 0 => by
    show (txt y).length + sumT ds ≤ (txt d).length + sumT ds + _
    omega
  | d :: ds, j + 1 => by
    have := sumT_set (y := y) (ds := ds) (j := j)
    show (txt d).length + sumT (ds.set j y) ≤ (txt d).length + sumT ds + _
    omega
theorem Od.txt {L : Lc} {E : Addr → Prop} {M : Nat} {x : D} (h : Od L E M x) : (K03.txt x).length ≤ M := by
  cases h with
  | s z a n => exact n
  | _ => exact Nat.zero_le _
theorem ix_in {n : Nat} {i : Int} (h0 : 0 ≤ i) (h1 : i < n) : ixN n i = some i.toNat := by
  unfold ixN
  rw [if_pos h0, if_pos h1]
theorem mem_setD {ds : List D} {j : Nat} {y d : D} (h : d ∈ ds.set j y) : d ∈ ds ∨ d = y := List.mem_or_eq_of_mem_set h
theorem asc_ab : Asc (Str.ofString "ab") := asc_lit (by decide +kernel)
theorem asc_a : Asc (Str.ofString "a") := asc_lit (by decide +kernel)
theorem asc_b : Asc (Str.ofString "b") := asc_lit (by decide +kernel)
theorem rep_mem {n : Nat} {xs : List D} {d : D} (h : d ∈ (List.replicate n xs).flatten) : d ∈ xs := by
  obtain ⟨l, hl, hd⟩ := List.mem_flatten.mp h
  rw [(List.mem_replicate.mp hl).2] at hd; exact hd
theorem repA : (List.replicate (Int.toNat 101) [D.str (Str.ofString "a")]).flatten.length ≤ 101 ∧ sumT (List.replicate (Int.toNat 101) [D.str (Str.ofString "a")]).flatten ≤ 101 ∧ ∀ x ∈ (List.replicate (Int.toNat 101) [D.str (Str.ofString "a")]).flatten, x = .str "a" ∨ x = .str "b" := ⟨by decide +kernel, by decide +kernel, fun x hx => .inl (List.mem_singleton.mp (rep_mem hx))⟩
theorem repC : (List.replicate (Int.toNat 100) [D.str (Str.ofString "a")]).flatten.length ≤ 101 ∧ sumT (List.replicate (Int.toNat 100) [D.str (Str.ofString "a")]).flatten ≤ 101 ∧ ∀ x ∈ (List.replicate (Int.toNat 100) [D.str (Str.ofString "a")]).flatten, x = .str "a" ∨ x = .str "b" := ⟨by decide +kernel, by decide +kernel, fun x hx => .inl (List.mem_singleton.mp (rep_mem hx))⟩
theorem repB : (List.replicate (Int.toNat 50) [D.str (Str.ofString "a"), D.str (Str.ofString "b")]).flatten.length ≤ 101 ∧ sumT (List.replicate (Int.toNat 50) [D.str (Str.ofString "a"), D.str (Str.ofString "b")]).flatten ≤ 101 ∧ ∀ x ∈ (List.replicate (Int.toNat 50) [D.str (Str.ofString "a"), D.str (Str.ofString "b")]).flatten, x = .str "a" ∨ x = .str "b" := ⟨by decide +kernel, by decide +kernel, fun x hx => by
  have := rep_mem hx
  simpa using this⟩

def sp__law_spoilt (A : Ad) : DSp := fun ds L q _ => ∃ p T x0 y1 c M W, ds = [.ref p, .ref T] ∧ (∃ x, L p = some x ∧ BagC ((c : Nat) : Int) x) ∧ c ≤ 880000 ∧ T ≠ p ∧ L T = some (.lst [x0, y1]) ∧ Od L (Eo p T y1) 30 x0 ∧ Oth L p T M W y1 ∧ 30 ≤ M ∧ M ≤ 400 ∧ ∀ x0' y1' L', (∃ x, L' p = some x ∧ BagC ((c + 5 : Nat) : Int) x) → L' T = some (.lst [x0', y1']) → Od L' (Eo p T y1') 30 x0' → Oth L' p T (10 * M + 21) (W + (10 * M + 21)) y1' → q .non L'
def b__law_spoilt (A : Ad) : DTS :=
  (dSeq (dSet 2 (dCall (sp__law_take A) 2 (dCons (dVar 0) (dCons (dC (.int 3)) dNil))))
    (dIfS (dTest (dOp eqD (dVar 2) (dC (.int 0))))
    (dAsg (dCall (sp__law_odd A) 2 (dCons (dVar 0) (dCons (dC (.str "ab")) dNil))) (dgSub setD (dVar 1) (dC (.int 0)))) (dIfS (dTest (dOp eqD (dVar 2) (dC (.int 1))))
    (dSeq (dSet 3 (dLst (dCons (dC .non) (dCons (dC (.int 7)) (dCons (dC (.str "ab")) (dCons dDK (dCons (dOp mulCD (dLst (dCons (dC (.str "a")) dNil)) (dC (.int 101))) (dCons (dOp mulD (dTup (dCons (dC (.str "a")) dNil)) (dC (.int 100))) (dCons (dOp mulCD (dLst (dCons (dC (.str "a")) (dCons (dC (.str "b")) dNil))) (dC (.int 50))) (dCons (dDis [((dC (.str "a")), (dC (.str "b")))]) dNil))))))))))
    (dAsg (dOp ixD (dVar 3) (dCall (sp__law_take A) 2 (dCons (dVar 0) (dCons (dC (.int 8)) dNil)))) (dgSub setD (dVar 1) (dC (.int 1))))) (dIfS (dtAnd (dTest (dCB isiD (dCons (dOp ixD (dVar 1) (dC (.int 1))) (dCons (dC (.ty "list")) dNil)))) (dTest (dOp (emD true) (dOp ixD (dVar 1) (dC (.int 1))) (dLst dNil))))
    (dSeq (dSet 4 (dCall (sp__law_take A) 2 (dCons (dVar 0) (dCons (dCB lenD (dCons (dOp ixD (dVar 1) (dC (.int 1))) dNil)) dNil))))
    (dAsg (dCall (sp__law_odd A) 2 (dCons (dVar 0) (dCons (dCB strQD (dCons (dOp ixD (dOp ixD (dVar 1) (dC (.int 1))) (dVar 4)) dNil)) dNil))) (dgSub setD (dOp ixD (dVar 1) (dC (.int 1))) (dVar 4)))) dNext))))
theorem rd__law_spoilt (A : Ad) : Keeps ["_law_bag_here", "_law_things", "_law_place", "_law_odd_here", "_law_at"] (b__law_spoilt A) 2 (sp__law_spoilt A) := by
  rintro ds L q e hl ⟨p, T, x0, y1, c, M, W, rfl, hb, hc, hTp, hT, hx, hy, hM0, hM, hq⟩
  unfold bodyD b__law_spoilt
  have b0 := Bag.self hb
  walk_at "w"
  refine ⟨rfl, take_d b0 (by omega) (by decide) (by decide) fun i1 L1 i10 i11 b1 => ?_⟩
  have hT1 : L1 T = some (.lst [x0, y1]) := (b1.rest T hTp).trans hT
  have hy1 : ∀ b, y1 = .ref b → L b ≠ none ∧ b ≠ p ∧ b ≠ T := fun b e => by
    subst e
    cases hy with
    | cel n1 n2 l n d s => exact ⟨(by rw [l]; exact fun z => nomatch z), n1, n2⟩
  walk_at "w"
  refine v_ite (fun c1 => ?_) (fun c1 => ?_)
  · walk_at "w"
    refine ⟨rfl, p, c + 1, _, 2, rfl, b1.bag, by omega, asc_ab, (by decide +kernel), by decide, fun y L2 k2 bg2 hy2 => ?_⟩
    have hT2 : L2 T = some (.lst [x0, y1]) := (k2 T hTp (by rw [hT1]; intro e; cases e)).trans hT1
    walk_at "w"
    refine v_setL (j := 0) hT2 rfl ?_
    have kL2 : ∀ b c, b ≠ p → b ≠ T → L b = some c → updL L2 T (.lst ([x0, y1].set 0 y)) b = some c := fun b c h1 h2 h => by
      have e1 : L1 b = some c := (b1.rest b h1).trans h
      exact (updL_ne h2).trans ((k2 b h1 (by rw [e1]; exact fun z => nomatch z)).trans e1)
    refine hq y y1 _ ?_ updL_same ?_ (hy.re (by omega) (by omega) kL2)
    · obtain ⟨x, e, g⟩ := bg2
      exact ⟨x, (updL_ne (fun e => hTp e.symm)).trans e, g.more (by omega)⟩
    · have := hy2 (Eo p T y1) fun b hb => by
        rcases hb with rfl | rfl | e
        · obtain ⟨x, e, _⟩ := b1.bag
          rw [e]; exact fun z => nomatch z
        · rw [hT1]; exact fun z => nomatch z
        · rw [b1.rest b (hy1 b e).2.1]; exact (hy1 b e).1
      refine this.re (by omega) fun b c hb hn => ⟨(updL_ne (fun e => hn (.inr (.inl e)))).trans hb, hn⟩
  walk_at "w"
  refine v_ite (fun c2 => ?_) (fun c2 => ?_)
  · walk_at "w"
    refine v_mulC rfl (by decide) (by decide) (by decide +kernel) fun a1 ha1 => ?_
    walk_at "w"
    refine .inr (.inr ⟨_, _, rfl, rfl, (fun z => nomatch z), by decide, by decide, by decide, ?_⟩)
    walk_at "w"
    refine v_mulC rfl (by decide) (by decide) (by decide +kernel) fun a2 ha2 => ?_
    have fA := repA
    have fB := repB
    have fC := repC
    generalize (List.replicate (Int.toNat 101) [D.str (Str.ofString "a")]).flatten = A1 at ha2 fA
    generalize (List.replicate (Int.toNat 100) [D.str (Str.ofString "a")]).flatten = A3 at fC
    generalize (List.replicate (Int.toNat 50) [D.str (Str.ofString "a"), D.str (Str.ofString "b")]).flatten = A2 at fB
    walk_at "w"
    refine v_dis (v_prC ?_)
    walk_at "w"
    refine ⟨.inr "a", rfl, v_prN ⟨by decide, ?_⟩⟩
    rw [show mergeD [] [(.inr "a", D.str (Str.ofString "b"))] = [(.inr "a", .str "b")] from rfl]
    walk_at "w"
    have b1a := (b1.new (x := .lst A1) ha1).new (x := .lst A2) ha2
    refine ⟨rfl, take_d b1a (by omega) (by decide) (by decide) fun i2 L2 i20 i21 b2 => ?_⟩
    have n1p : a1 ≠ p := b1.ne_new ha1
    have n1T : a1 ≠ T := fun e => by rw [e, hT1] at ha1; cases ha1
    have L1n : L a1 = none := (b1.rest a1 n1p).symm.trans ha1
    have n21 : a2 ≠ a1 := fun e => by rw [e, updL_same] at ha2; cases ha2
    have ha2' : L1 a2 = none := (updL_ne n21).symm.trans ha2
    have n2p : a2 ≠ p := b1.ne_new ha2'
    have n2T : a2 ≠ T := fun e => by rw [e, hT1] at ha2'; cases ha2'
    have L2n : L a2 = none := (b1.rest a2 n2p).symm.trans ha2'
    have keep : ∀ b c, b ≠ p → L b = some c → L2 b = some c := fun b c h h1 => by
      have e1 : b ≠ a1 := fun e => by rw [e, L1n] at h1; cases h1
      have e2 : b ≠ a2 := fun e => by rw [e, L2n] at h1; cases h1
      exact (b2.rest b h).trans ((updL_ne e2).trans ((updL_ne e1).trans h1))
    have l1 : L2 a1 = some (.lst A1) := (b2.rest a1 n1p).trans ((updL_ne (fun e => n21 e.symm)).trans updL_same)
    have l2 : L2 a2 = some (.lst A2) := (b2.rest a2 n2p).trans updL_same
    have hT2 := keep T _ hTp hT
    walk_at "w"
    refine v_ixM rfl i20 (by show i2 < (8 : Nat); omega) fun d hd => ?_
    walk_at "w"
    refine v_setL (j := 1) hT2 rfl ?_
    walk_at "w"
    have hbag : ∃ x, updL L2 T (.lst ([x0, y1].set 1 d)) p = some x ∧ BagC ((c + 5 : Nat) : Int) x := by
      obtain ⟨x, e, g⟩ := b2.bag
      exact ⟨x, (updL_ne (fun e => hTp e.symm)).trans e, g.more (by omega)⟩
    have done : (∀ b, d = .ref b → L b = none) → Oth (updL L2 T (.lst ([x0, y1].set 1 d))) p T (10 * M + 21) (W + (10 * M + 21)) d → q .non (updL L2 T (.lst ([x0, y1].set 1 d))) := fun hn ho =>
      hq x0 d _ hbag updL_same (hx.re (Nat.le_refl _) fun b c hb he => ⟨(updL_ne (fun e => he (.inr (.inl e)))).trans (keep b c (fun e => he (.inl e)) hb), fun hE => by
        rcases hE with e | e | e
        · exact he (.inl e)
        · exact he (.inr (.inl e))
        · rw [hn b e] at hb; cases hb⟩) ho
    have od : ∀ {E : Addr → Prop} {L : Lc} {x : D}, (x = .str "a" ∨ x = .str "b") → Od L E (10 * M + 21) x := fun h => by
      rcases h with rfl | rfl
      · exact .s _ asc_a (by show 1 ≤ _; omega)
      · exact .s _ asc_b (by show 1 ≤ _; omega)
    simp only [List.mem_cons, List.not_mem_nil, or_false] at hd
    rcases hd with rfl | rfl | rfl | rfl | rfl | rfl | rfl | rfl
    · exact done (fun b e => nomatch e) .non
    · exact done (fun b e => nomatch e) .sev
    · exact done (fun b e => nomatch e) .ab
    · exact done (fun b e => nomatch e) .d0
    · exact done (fun b e => by cases e; exact L1n) (.cel n1p n1T ((updL_ne n1T).trans l1) fA.1 (fun x hx => od (fA.2.2 x hx)) (by have := fA.2.1; omega))
    · exact done (fun b e => nomatch e) (.tup _ fC.1 (fun x hx => od (fC.2.2 x hx)) (by have := fC.2.1; omega))
    · exact done (fun b e => by cases e; exact L2n) (.cel n2p n2T ((updL_ne n2T).trans l2) fB.1 (fun x hx => od (fB.2.2 x hx)) (by have := fB.2.1; omega))
    · exact done (fun b e => nomatch e) .d1
  walk_at "w"
  have hyA : Oth L1 p T M W y1 := hy.re (Nat.le_refl _) (Nat.le_refl _) fun b c h1 _ h => (b1.rest b h1).trans h
  have hxA : Od L1 (Eo p T y1) 30 x0 := hx.re (Nat.le_refl _) fun b c hb he => ⟨(b1.rest b fun e => he (.inl e)).trans hb, he⟩
  have asis : q .non L1 := hq x0 y1 L1 (by
    obtain ⟨x, e, g⟩ := b1.bag
    exact ⟨x, e, g.more (by omega)⟩) hT1 hxA (hyA.re (by omega) (by omega) fun _ _ _ _ h => h)
  refine hyA.isl ?_
  walk_at "w"
  refine v_ite (fun cC => ?_) (fun cC => ?_)
  rotate_left
  · walk_at "w"
    exact asis
  cases hyA with
  | @cel a ds n1 n2 l n ho hs =>
    walk_at "w"
    refine v_emN (.inl ⟨vl_ref l, rfl⟩) ?_
    walk_at "w"
    refine v_ite (fun cE => ?_) (fun cE => ?_)
    rotate_left
    · walk_at "w"
      exact asis
    have hne : 1 ≤ ds.length := by
      cases ds with
      | nil => cases cE
      | cons d ds => rw [List.length_cons]; omega
    walk_at "w"
    refine ⟨rfl, take_d b1 (by omega) (by omega) (by rw [Int.natAbs_natCast]; exact Nat.lt_of_le_of_lt (Nat.log2_le_self _) (by omega)) fun i2 L2 i20 i21 b2 => ?_⟩
    have keep : ∀ b c, b ≠ p → L1 b = some c → L2 b = some c := fun b c h h1 => (b2.rest b h).trans ((b1.rest b h).symm.trans h1)
    have l2 := keep a _ n1 l
    have hT2 := keep T _ hTp hT1
    walk_at "w"
    refine v_ixM (vs_ref l2) i20 i21 fun d hd => ?_
    have od2 : Od L2 (Eo p T (.ref a)) M d := (ho d hd).re (Nat.le_refl _) fun b c hb he => ⟨keep b c (fun e => he (.inl e)) hb, he⟩
    obtain ⟨dd, pq, sq, as, ln⟩ := od2.str (by omega)
    walk_at "w"
    refine v_strQ pq sq ?_
    walk_at "w"
    refine ⟨rfl, p, c + 2, _, 10 * M + 20, rfl, b2.bag, by omega, as, ln, by omega, fun y L3 k3 bg3 hy3 => ?_⟩
    have keep3 : ∀ b c, b ≠ p → L1 b = some c → L3 b = some c := fun b c h h1 => by
      have e2 := keep b c h h1
      exact (k3 b h (by rw [e2]; exact fun z => nomatch z)).trans e2
    have l3 := keep3 a _ n1 l
    have hT3 := keep3 T _ hTp hT1
    walk_at "w"
    refine v_setL (j := i2.toNat) l3 (ix_in i20 i21) ?_
    walk_at "w"
    have odE : ∀ {L' : Lc} {x : D}, (∀ b c, b ≠ a → L3 b = some c → L' b = some c) → Od L1 (Eo p T (.ref a)) M x → Od L' (Eo p T (.ref a)) (10 * M + 21) x := fun hL h => h.re (by omega) fun b c hb he => ⟨hL b c (fun e => he (.inr (.inr (by rw [e])))) (keep3 b c (fun e => he (.inl e)) hb), he⟩
    have hL4 : ∀ b c, b ≠ a → L3 b = some c → updL L3 a (.lst (ds.set i2.toNat y)) b = some c := fun b c h h1 => (updL_ne h).trans h1
    have yo : Od (updL L3 a (.lst (ds.set i2.toNat y))) (Eo p T (.ref a)) (10 * M + 21) y := (hy3 (Eo p T (.ref a)) fun b hb => by
        rcases hb with rfl | rfl | e
        · obtain ⟨x, e, _⟩ := b2.bag
          rw [e]; exact fun z => nomatch z
        · rw [hT2]; exact fun z => nomatch z
        · cases e; rw [l2]; exact fun z => nomatch z).re (Nat.le_refl _) fun b c hb he => ⟨hL4 b c (fun e => he (.inr (.inr (by rw [e])))) hb, he⟩
    refine hq x0 (.ref a) _ ?_ ((updL_ne (fun e => n2 e.symm)).trans hT3) (hxA.re (Nat.le_refl _) fun b c hb he => ⟨hL4 b c (fun e => he (.inr (.inr (by rw [e])))) (keep3 b c (fun e => he (.inl e)) hb), he⟩) (.cel n1 n2 updL_same (by rw [List.length_set]; exact n) (fun x hx => ?_) ?_)
    · obtain ⟨x, e, g⟩ := bg3
      exact ⟨x, (updL_ne (fun e => n1 e.symm)).trans e, g.more (by omega)⟩
    · rcases mem_setD hx with hx | rfl
      · exact odE hL4 (ho x hx)
      · exact yo
    · have := sumT_set (y := y) (ds := ds) (j := i2.toNat)
      have := yo.txt
      omega
  | _ => cases cC
end K03
set_option Elab.async false
set_option linter.all false
set_option maxRecDepth 100000
set_option maxHeartbeats 2000000
namespace K03
open PySem PySem.Spec PyProof.Rows L2 Dz Ed


theorem v_seqR {w : EW} {ρ : Dv} {L : Lc} {a b : DTS} {D : DEnds} (P : Dv → Lc → Prop) (h : ∀ k : Dv → Lc → Prop, (∀ ρ' L', P ρ' L' → k ρ' L') → a w ⟨k, D.rt, D.bk, D.ct⟩ ρ L) (rest : ∀ ρ' L', P ρ' L' → b w D ρ' L') : dSeq a b w D ρ L := h _ rest
theorem v_callK {sp : DSp} {n m np : Nat} {g : List D → List D → List D} {a b : DTA} {w : EW} {ρ : Dv} {L : Lc} {q : DQ} (h : a w ρ L fun ds L1 => b w ρ L1 fun es L2 => ds.length = n ∧ es.length = m ∧ (g ds es).length = np ∧ sp (g ds es) L2 q fun C gs L3 => w C gs ρ L3) : dCallK sp n m g np a b w ρ L q := h
theorem lit_a : Str.ofString "a" ++ Str.ofString " " = Str.ofString "a " := by decide +kernel
theorem lit_b : Str.ofString " " ++ Str.ofString "b" = Str.ofString " b" := by decide +kernel
theorem row_ab (z : Str) : rowF (Str.ofString "a") [z, Str.ofString "b"] = Str.ofString "a " ++ z ++ Str.ofString " b" := by
  show Str.ofString "a" ++ Str.ofString " " ++ z ++ Str.ofString " " ++ Str.ofString "b" = _
  rw [lit_a, app_assoc (Str.ofString "a " ++ z) (Str.ofString " ") (Str.ofString "b"), lit_b]
def MM : Nat → Nat
  | 0 => 30
  | 1 => 321
  | _ => 3231
def WW : Nat → Nat
  | 0 => 570
  | 1 => 891
  | _ => 4122
theorem Oth.sq {L : Lc} {p T : Addr} {M W : Nat} {y : D} (h : Oth L p T M W y) : ∃ o, SqO L y o ∧ (∀ ds, o = some ds → ds.length ≤ 101 ∧ (∀ d ∈ ds, Od L (Eo p T y) M d) ∧ sumT ds ≤ W) := by
  have no : ∀ {s : String}, kindD L y = some s → s ∈ ["NoneType", "bool", "int", "str", "dict"] → ∃ o, SqO L y o ∧ (∀ ds, o = some ds → ds.length ≤ 101 ∧ (∀ d ∈ ds, Od L (Eo p T y) M d) ∧ sumT ds ≤ W) := fun e m => ⟨none, .not e m, fun ds e => nomatch e⟩
  cases h with
  | cel n1 n2 l n d s => exact ⟨_, .cel l, fun ds e => by cases e; exact ⟨n, d, s⟩⟩
  | tup ds n d s => exact ⟨_, .tup ds, fun ds e => by cases e; exact ⟨n, d, s⟩⟩
  | non => exact no rfl (by decide)
  | sev => exact no rfl (by decide)
  | ab => exact no rfl (by decide)
  | d0 => exact no rfl (by decide)
  | d1 => exact no rfl (by decide)
theorem ods_rv {L : Lc} {E : Addr → Prop} {M : Nat} (m : M ≤ 5000) : ∀ {ds : List D}, (∀ d ∈ ds, Od L E M d) → ∃ ys, RvL L (fun a => ¬ E a) ds ys ∧ Ths ys (60002 * ds.length) 2
  | [], _ => ⟨[], .nil, Ths.nil.more (by omega) (by omega)⟩
  | d :: ds, h => by
    obtain ⟨y, r, t⟩ := (h d List.mem_cons_self).rv m
    obtain ⟨ys, rs, ts⟩ := ods_rv m fun e he => h e (List.mem_cons_of_mem _ he)
    refine ⟨y :: ys, .cons r rs, (ts.cons t).more ?_ (by omega)⟩
    rw [List.length_cons]
    omega
theorem Oth.rv {L : Lc} {p T : Addr} {M W : Nat} {y : D} (h : Oth L p T M W y) (m : M ≤ 5000) : ∃ z, Rv L (fun _ => True) y z ∧ Th z 6100000 10 := by
  cases h with
  | cel n1 n2 l n d s =>
    obtain ⟨ys, r, t⟩ := ods_rv m d
    refine ⟨_, .ref trivial l (r.more fun _ _ => trivial), t.lst.more ?_ (by omega)⟩
    have := Nat.mul_le_mul_left 60002 n
    omega
  | tup ds n d s =>
    obtain ⟨ys, r, t⟩ := ods_rv m d
    refine ⟨_, .tup (r.more fun _ _ => trivial), t.tup.more ?_ (by omega)⟩
    have := Nat.mul_le_mul_left 60002 n
    omega
  | non => exact ⟨_, .non, Th.non.more (by omega) (by omega)⟩
  | sev => exact ⟨_, .int 7, (Th.small (by decide)).more (by omega) (by omega)⟩
  | ab => exact ⟨_, .str _, (Th.strs (n := 2) asc_ab (by decide)).more (by omega) (by omega)⟩
  | d0 => exact ⟨_, .dK .nil, Th.dnil.more (by omega) (by omega)⟩
  | d1 => exact ⟨_, .dK (.cons (.str _) .nil), ⟨by decide +kernel, by decide +kernel, by decide +kernel⟩⟩
theorem Od.isl {L : Lc} {E : Addr → Prop} {M : Nat} {y : D} {q : DQ} (h : Od L E M y) (hq : q (.bl (isC y)) L) : isiD [y, .ty "list"] L q := by
  cases h with
  | s z a n => exact ⟨_, _, "str", false, rfl, rfl, by decide +kernel, hq⟩
  | non => exact ⟨_, _, "NoneType", false, rfl, rfl, by decide +kernel, hq⟩
  | sev => exact ⟨_, _, "int", false, rfl, rfl, by decide +kernel, hq⟩
  | tru => exact ⟨_, _, "bool", false, rfl, rfl, by decide +kernel, hq⟩
  | l z n c a k => exact ⟨_, _, "list", true, rfl, by simp [kindD, c], by decide +kernel, hq⟩
  | t z a k => exact ⟨_, _, "tuple", false, rfl, rfl, by decide +kernel, hq⟩
  | d => exact ⟨_, _, "dict", false, rfl, rfl, by decide +kernel, hq⟩
theorem Od.iss {L : Lc} {E : Addr → Prop} {M : Nat} {y : D} {q : DQ} (h : Od L E M y) (hq : q (.bl (isStrD y)) L) : isiD [y, .ty "str"] L q := by
  have h' := h.kE (C := 0)
  rcases h' with ⟨s, e⟩ | ⟨fs, e⟩
  · exact ⟨y, _, s, _, rfl, e, kit_str e, by rw [← isStr_kind e]; exact hq⟩
  · subst e; cases h
theorem Od.asc {L : Lc} {E : Addr → Prop} {M : Nat} {x : D} (h : Od L E M x) : ∀ z, x = .str z → Asc z := fun z e => by
  subst e
  cases h with
  | s _ a n => exact a
theorem rowF_asc : ∀ {zs : List Str} {z : Str}, Asc z → (∀ y ∈ zs, Asc y) → Asc (rowF z zs)
  | [], z, h, _ => h
  | y :: ys, z, h, g => rowF_asc (z := z ++ " " ++ y) (asc_app (asc_app h asc_sp) (g y List.mem_cons_self)) fun u hu => g u (List.mem_cons_of_mem _ hu)
structure Good (L : Lc) (p T : Addr) (c : Nat) (M W : Nat) (x0 y1 : D) : Prop where
  bag : ∃ x, L p = some x ∧ BagC ((c : Nat) : Int) x
  at_ : L T = some (.lst [x0, y1])
  ne : T ≠ p
  ox : Od L (Eo p T y1) 30 x0
  oy : Oth L p T M W y1
theorem Good.cell {L : Lc} {p T : Addr} {c : Nat} {M W : Nat} {x0 y1 : D} (g : Good L p T c M W x0 y1) : ∀ b, y1 = .ref b → L b ≠ none ∧ b ≠ p ∧ b ≠ T := fun b e => by
  subst e
  cases g.oy with
  | cel n1 n2 l n d s => exact ⟨(by rw [l]; exact fun z => nomatch z), n1, n2⟩
theorem Good.take {L L' : Lc} {p T : Addr} {c c' : Nat} {M W : Nat} {x0 y1 : D} (g : Good L p T c M W x0 y1) (b : ∃ x, L' p = some x ∧ BagC ((c' : Nat) : Int) x) (k : ∀ b c, b ≠ p → L b = some c → L' b = some c) : Good L' p T c' M W x0 y1 :=
  ⟨b, k _ _ g.ne g.at_, g.ne, g.ox.re (Nat.le_refl _) fun b c hb he => ⟨k b c (fun e => he (.inl e)) hb, he⟩, g.oy.re (Nat.le_refl _) (Nat.le_refl _) fun b c h1 _ h => k b c h1 h⟩
theorem bag_keep {M L L' : Lc} {p : Addr} {c d : Int} (h : Bag M L p c) (h' : Bag M L' p d) : ∀ b u, b ≠ p → L b = some u → L' b = some u := fun b u n e => (h'.rest b n).trans ((h.rest b n).symm.trans e)
theorem v_tup {L : Lc} {x : D} {ds : List D} {q : DQ} (h : vRd L x = some ds) (hq : q (.tup ds) L) : tupleD [x] L q := ⟨x, ds, rfl, .inl ⟨h, hq⟩⟩
theorem bagMore {L : Lc} {p : Addr} {c d : Nat} (h : ∃ x, L p = some x ∧ BagC ((c : Nat) : Int) x) (l : c ≤ d) : ∃ x, L p = some x ∧ BagC ((d : Nat) : Int) x := by
  obtain ⟨x, e, g⟩ := h
  exact ⟨x, e, g.more (by omega)⟩
theorem le_M {j : Nat} : MM j ≤ 3231 ∧ WW j ≤ 4122 := by
  match j with
  | 0 => exact ⟨by decide, by decide⟩
  | 1 => exact ⟨by decide, by decide⟩
  | _ + 2 => exact ⟨Nat.le_refl _, Nat.le_refl _⟩
/-- what is due, of good things -/
inductive DuG (L : Lc) (p T : Addr) (y1 : D) : Du → Prop
  | told (z : Str) : Asc z → z.length ≤ 4800 → DuG L p T y1 (.told z)
  | word {v : D} : Od L (fun b => b = p ∨ b = T) 3231 v → DuG L p T y1 (.word v)
  | list : Oth L p T 3231 4122 y1 → DuG L p T y1 (.list y1)
theorem due_good {L : Lc} {p T : Addr} {x0 y1 : D} {o : Option (List D)} (hx : Od L (Eo p T y1) 30 x0) (hy : Oth L p T 3231 4122 y1) (ho : ∀ ds, o = some ds → ds.length ≤ 101 ∧ (∀ d ∈ ds, Od L (Eo p T y1) 3231 d) ∧ sumT ds ≤ 4122) : DuG L p T y1 (due x0 y1 o) := by
  have we : ∀ {v : D} {M : Nat}, M ≤ 3231 → Od L (Eo p T y1) M v → Od L (fun b => b = p ∨ b = T) 3231 v := fun m h => h.re m fun b c hb he => ⟨hb, fun e => he (e.imp id .inl)⟩
  cases h : isW x0 with
  | false => rw [due_no h]; exact .word (we (by omega) hx)
  | true =>
    cases g : lenB o 0 100 with
    | false => rw [due_list h g]; exact .list hy
    | true =>
      cases o with
      | none => cases g
      | some ds =>
        obtain ⟨n, od, sm⟩ := ho ds rfl
        rw [due_in h g]
        unfold dueL
        cases hf : ds.find? (fun d => !isW d) with
        | some v => exact .word (we (by omega) (od v (List.mem_of_find?_eq_some hf)))
        | none =>
          have hb : ∀ e ∈ ds, isW e = true := fun e he => by simpa using List.find?_eq_none.mp hf e he
          refine .told _ (rowF_asc (hx.asc _ (isW_str h)) fun y hy => ?_) ?_
          · obtain ⟨d, hd, rfl⟩ := List.mem_map.mp hy
            exact (od d hd).asc _ (isW_str (hb d hd))
          · have := rowF_sum (ds.map txt) (txt x0)
            have e : ((ds.map txt).map (·.length)).sum = sumT ds := by rw [List.map_map]; rfl
            rw [e, List.length_map] at this
            have := hx.txt
            omega
theorem DuG.rv {L : Lc} {p T : Addr} {y1 : D} {u : Du} (h : DuG L p T y1 u) : ∃ z, Rv L (fun _ => True) u.d z ∧ Th z 6200000 20 := by
  cases h with
  | told z a n => exact ⟨_, .lst (.cons (.str _) (.cons (.str z) .nil)), (Ths.nil.cons (Th.strs a (Nat.le_trans n (by decide : 4800 ≤ 5000))) |>.cons (Th.strs (n := 4) (x := "told") (asc_lit (by decide +kernel)) (by decide))).lst.more (by omega) (by omega)⟩
  | word v =>
    obtain ⟨y, r, t⟩ := v.rv (by omega)
    exact ⟨_, .lst (.cons (.str _) (.cons (r.more fun _ _ => trivial) .nil)), (Ths.nil.cons t |>.cons (Th.strs (n := 4) (x := "word") (asc_lit (by decide +kernel)) (by decide))).lst.more (by omega) (by omega)⟩
  | list hy =>
    obtain ⟨y, r, t⟩ := hy.rv (by omega)
    exact ⟨_, .lst (.cons (.str _) (.cons r .nil)), (Ths.nil.cons t |>.cons (Th.strs (n := 4) (x := "list") (asc_lit (by decide +kernel)) (by decide))).lst.more (by omega) (by omega)⟩

abbrev sp_law (A : Ad) : DSp := spLaw
def b_law (A : Ad) : DTS :=
  (dSeq (dFor (diRng1 (dCons (dCB max2D (dCons (dC (.int 2)) (dCons (dCB min2D (dCons (dC (.int 12)) (dCons (dCB lenD (dCons (dVar 0) dNil)) dNil))) dNil))) dNil)) (dgName 1)
    (dSeq (dSet 2 (dCall (sp__law_bag A) 1 (dCons (dCall (sp__law_cell A) 2 (dCons (dVar 0) (dCons (dVar 1) dNil))) dNil)))
    (dSeq (dSet 3 (dCB max2D (dCons (dC (.int 0)) (dCons (dOp subD (dCall (sp__law_take A) 2 (dCons (dVar 2) (dCons (dC (.int 4)) dNil))) (dC (.int 1))) dNil))))
    (dSeq (dSet 4 (dOp ixD (dLst (dCons (dC (.int 0)) (dCons (dCall (sp__law_take A) 2 (dCons (dVar 2) (dCons (dC (.int 5)) dNil))) (dCons (dCall (sp__law_take A) 2 (dCons (dVar 2) (dCons (dC (.int 20)) dNil))) dNil)))) (dCall (sp__law_take A) 2 (dCons (dVar 2) (dCons (dC (.int 3)) dNil)))))
    (dSeq (dSet 5 (dLstC (dCons (dCall (sp__law_word A) 1 (dCons (dVar 2) dNil)) (dCons (dLcC (diRng1 (dCons (dVar 4) dNil)) (dgName 6) dYes (dCall (sp__law_word A) 1 (dCons (dVar 2) dNil)) [6]) dNil))))
    (dSeq (dFor (diRng1 (dCons (dVar 3) dNil)) (dgName 7)
    (dDrop (dCall (sp__law_spoilt A) 2 (dCons (dVar 2) (dCons (dVar 5) dNil)))))
    (dSeq (dIfS (dtAnd (dTest (dCB isiD (dCons (dOp ixD (dVar 5) (dC (.int 1))) (dCons (dC (.ty "list")) dNil)))) (dTest (dOp eqD (dCall (sp__law_take A) 2 (dCons (dVar 2) (dCons (dC (.int 2)) dNil))) (dC (.int 0)))))
    (dAsg (dCB tupleD (dCons (dOp ixD (dVar 5) (dC (.int 1))) dNil)) (dgSub setD (dVar 5) (dC (.int 1)))) dNext)
    (dSeq (dPar 8 9 (dCons (dCB reprQD (dCons (dVar 5) dNil)) (dCons (dCall (sp__law_due A) 2 (dCons (dOp ixD (dVar 5) (dC (.int 0))) (dCons (dOp ixD (dVar 5) (dC (.int 1))) dNil))) dNil)))
    (dSeq (dSet 10 (dCall (sp__law_asked A) 2 (dCons (dOp ixD (dVar 5) (dC (.int 0))) (dCons (dOp ixD (dVar 5) (dC (.int 1))) dNil))))
    (dSeq (dIfS (dtOr (dTest (dOp neD (dCB reprQD (dCons (dVar 10) dNil)) (dCB reprQD (dCons (dVar 9) dNil)))) (dtOr (dTest (dOp neD (dCB reprQD (dCons (dVar 5) dNil)) (dVar 8))) (dTest (dOp neD (dCB reprQD (dCons (dCall (sp__law_asked A) 2 (dCons (dOp ixD (dVar 5) (dC (.int 0))) (dCons (dOp ixD (dVar 5) (dC (.int 1))) dNil))) dNil)) (dCB reprQD (dCons (dVar 9) dNil))))))
    (dRet (dC (.bl false))) dNext)
    (dSeq (dIfS (dtAnd (dTest (dOp neD (dOp ixD (dVar 9) (dC (.int 0))) (dC (.str "told")))) (dTest (dCB isiD (dCons (dOp ixD (dVar 9) (dC (.int 1))) (dCons (dC (.ty "list")) dNil)))))
    (dSeq (dDrop (dBML "list" appendD (dOp ixD (dVar 9) (dC (.int 1))) (dCons (dC (.str "more")) dNil)))
    (dIfS (dTest (dOp neD (dCB reprQD (dCons (dVar 10) dNil)) (dCB reprQD (dCons (dVar 9) dNil))))
    (dRet (dC (.bl false))) dNext)) dNext)
    (dSeq (dSet 11 (dIfE (dTest (dOp eqD (dOp ixD (dVar 9) (dC (.int 0))) (dC (.str "told")))) (dOp ixD (dVar 9) (dC (.int 1))) (dCall (sp__law_odd A) 2 (dCons (dVar 2) (dCons (dOp addD (dCall (sp__law_word A) 1 (dCons (dVar 2) dNil)) (dC (.str " b"))) dNil)))))
    (dSeq (dSet 12 (dIfE (dTest (dCB isiD (dCons (dVar 11) (dCons (dC (.ty "str")) dNil)))) (dCall (sp__law_take A) 2 (dCons (dVar 2) (dCons (dOp addD (dCB lenD (dCons (dVar 11) dNil)) (dC (.int 1))) dNil))) (dC (.int 0))))
    (dSeq (dSet 13 (dIfE (dTest (dCB isiD (dCons (dVar 11) (dCons (dC (.ty "str")) dNil)))) (dOp addD (dOp addD (dSl slD (dVar 11) dNoPart (dPart (dVar 12))) (dOp ixD (dLst (dCons (dC (.str " ")) (dCons (dC (.str "\n")) (dCons (dC (.str "x")) dNil)))) (dCall (sp__law_take A) 2 (dCons (dVar 2) (dCons (dC (.int 3)) dNil))))) (dSl slD (dVar 11) (dPart (dVar 12)) dNoPart)) (dVar 11)))
    (dSeq (dIfS (dtOr (dtNot (dTest (dCall (sp__law_read_right A) 1 (dCons (dVar 11) dNil)))) (dtNot (dTest (dCall (sp__law_read_right A) 1 (dCons (dVar 13) dNil)))))
    (dRet (dC (.bl false))) dNext)
    (dSeq (dIfS (dtNot (dTest (dCall (sp__law_read_right A) 1 (dCons (dOp ixD (dLst (dCons (dC .non) (dCons (dCB (mkErrD A.C_NoWord "found") (dCons (dC (.str "a")) dNil)) (dCons (dLst (dCons (dC (.str "a")) dNil)) (dCons dDK dNil))))) (dOp modD (dVar 1) (dC (.int 4)))) dNil))))
    (dRet (dC (.bl false))) dNext)
    (dSeq (dSet 14 (dOp mulSD (dCall (sp__law_word A) 1 (dCons (dVar 2) dNil)) (dOp addD (dC (.int 1)) (dCall (sp__law_take A) 2 (dCons (dVar 2) (dCons (dC (.int 60)) dNil))))))
    (dSeq (dIfS (dtOr (dtNot (dTest (dCall (sp__law_read_right A) 1 (dCons (dOp addD (dC (.str "a ")) (dVar 14)) dNil)))) (dtNot (dTest (dCall (sp__law_read_right A) 1 (dCons (dOp addD (dVar 14) (dC (.str " b"))) dNil)))))
    (dRet (dC (.bl false))) dNext)
    (dIfS (dtOr (dTest (dOp neD (dCallD (sp_row_of A) 2 [.ctup []] (dCons (dVar 14) dNil)) (dVar 14))) (dTest (dOp neD (dCallK (sp_row_of A) 0 2 (gPerm [2, 1] [.ctup []]) 2 dNil (dCons (dLst (dCons (dVar 14) (dCons (dC (.str "b")) dNil))) (dCons (dC (.str "a")) dNil))) (dOp addD (dOp addD (dC (.str "a ")) (dVar 14)) (dC (.str " b"))))))
    (dRet (dC (.bl false))) dNext)))))))))))))))))))
    (dRet (dC (.bl true))))
theorem rd_law (A : Ad) : Keeps ["_law_script", "_law_k", "_law_bag_here", "_law_spoils", "_law_size", "_law_things", "_law_j", "_law_turn", "_law_kept", "_law_due_here", "_law_found", "_law_text", "_law_at", "_law_bent", "_law_lone"] (b_law A) 1 (sp_law A) := by
  rintro ds L q e hl ⟨ns, rfl, hl', hq⟩
  unfold bodyD b_law
  walk_at "w"
  refine ⟨12, _, rfl, ?_⟩
  walk_at "w"
  refine ⟨2, _, rfl, ?_⟩
  walk_at "w"
  refine ⟨_, rfl, by split <;> omega, by split <;> (try split) <;> omega, ?_⟩
  generalize hN : Int.toNat _ = N
  have hN40 : N ≤ 40 := by rw [← hN]; split <;> (try split) <;> omega
  refine for_go (fun i ρ' L' => ∃ o1 o2 o3 o4 o5 o6 o7 o8 o9 o10 o11 o12 o13 o14, ρ' = [some (.scr ns), o1, o2, o3, o4, o5, o6, o7, o8, o9, o10, o11, o12, o13, o14]) ⟨none, none, none, none, none, none, none, none, none, none, none, none, none, none, rfl⟩ (fun _ _ _ _ => trivial) ?_ ?_
  rotate_left
  · rintro ρ' L' ⟨o1, o2, o3, o4, o5, o6, o7, o8, o9, o10, o11, o12, o13, o14, rfl⟩
    walk_at "w"
    exact v_rt (hq L')
  rintro i d ρ' L0 R' hd ⟨o1, o2, o3, o4, o5, o6, o7, o8, o9, o10, o11, o12, o13, o14, rfl⟩ hR'
  obtain ⟨rfl, hi⟩ := rng_get hd
  walk_at "w"
  refine ⟨rfl, ns, (i : Nat), rfl, by omega, by omega, fun z => ?_⟩
  walk_at "w"
  refine ⟨rfl, z, rfl, fun p x hp bc => ?_⟩
  have b0 : Bag (updL L0 p x) (updL L0 p x) p ((0 : Nat) : Int) := .self ⟨x, updL_same, bc⟩
  generalize updL L0 p x = L at b0
  clear hp bc
  walk_at "w"
  refine ⟨rfl, take_d b0 (by omega) (by decide) (by decide) fun i1 L1 i10 i11 b1 => ?_⟩
  walk_at "w"
  refine ⟨0, i1 - 1, rfl, ?_⟩
  obtain ⟨sp, hsp, s0, s2⟩ : ∃ sp : Int, (if i1 - 1 > 0 then i1 - 1 else 0) = sp ∧ 0 ≤ sp ∧ sp ≤ 2 := ⟨_, rfl, by split <;> omega, by split <;> omega⟩
  rw [hsp]
  walk_at "w"
  refine ⟨rfl, take_d b1 (by omega) (by decide) (by decide) fun i2 L2 i20 i21 b2 => ?_⟩
  walk_at "w"
  refine ⟨rfl, take_d b2 (by omega) (by decide) (by decide) fun i3 L3 i30 i31 b3 => ?_⟩
  walk_at "w"
  refine ⟨rfl, take_d b3 (by omega) (by decide) (by decide) fun i4 L4 i40 i41 b4 => ?_⟩
  walk_at "w"
  refine v_ixI (ns := [0, i2, i3]) rfl i40 (by show i4 < (3 : Nat); omega) fun n hn => ?_
  have hn : 0 ≤ n ∧ n ≤ 19 := by
    simp only [List.mem_cons, List.not_mem_nil, or_false] at hn
    rcases hn with rfl | rfl | rfl <;> omega
  walk_at "w"
  refine ⟨rfl, p, 4, rfl, b4.bag, by decide, fun w0 L5 w1 w2 w3 b5 => ?_⟩
  walk_at "w"
  refine ⟨n, rfl, by omega, by omega, ?_⟩
  refine lc_go (fun j acc L' => ∃ zs : List Str, acc = zs.map D.str ∧ zs.length = j ∧ (∀ z ∈ zs, 1 ≤ z.length ∧ z.length ≤ 30 ∧ Gs z) ∧ ∃ x, L' p = some x ∧ BagC ((37 + 33 * j : Nat) : Int) x) ⟨[], rfl, rfl, (fun _ h => nomatch h), b5.bag⟩ (fun _ _ _ _ => trivial) ?_ ?_
  · rintro j d acc L' R S Rq hd ⟨zs, rfl, hl', ho, bx⟩ hR hS
    obtain ⟨rfl, hj⟩ := rng_get hd
    walk_at "w"
    refine ⟨rfl, p, 37 + 33 * j, rfl, bx, by omega, fun u Lx u1 u2 u3 by_ => ?_⟩
    refine ⟨by rw [List.length_map]; exact sz5 (by omega), hR _ _ ⟨zs ++ [u], by rw [List.map_append]; rfl, by rw [List.length_append, hl']; rfl, fun y hy => ?_, ?_⟩⟩
    · rcases List.mem_append.mp hy with h | h
      · exact ho y h
      · rw [List.mem_singleton.mp h]; exact ⟨u1, u2, u3⟩
    · obtain ⟨x, e, g⟩ := by_.bag
      exact ⟨x, e, g.more (by omega)⟩
  rintro acc L6 ⟨zs, rfl, hl2, ho, b6⟩
  rw [List.length_map, List.length_range] at hl2 b6
  walk_at "w"
  intro a1 ha1
  walk_at "w"
  intro T hT
  have st0 : Good (updL (updL L6 a1 (.lst (zs.map D.str))) T (.lst [.str w0, .ref a1])) p T 700 30 570 (.str w0) (.ref a1) := by
    obtain ⟨xb, eb, gb⟩ := b6
    have e1 : updL L6 a1 (.lst (zs.map D.str)) a1 = some (.lst (zs.map D.str)) := updL_same
    have n1 : a1 ≠ p := fun e => by rw [e, eb] at ha1; cases ha1
    have eb1 : updL L6 a1 (.lst (zs.map D.str)) p = some xb := (updL_ne (fun e => n1 e.symm)).trans eb
    have n2 : T ≠ p := fun e => by rw [e, eb1] at hT; cases hT
    have n3 : a1 ≠ T := fun e => by rw [← e, e1] at hT; cases hT
    refine ⟨⟨xb, (updL_ne (fun e => n2 e.symm)).trans eb1, gb.more (by omega)⟩, updL_same, n2, .s _ w3.asc w2, .cel n1 n3 ((updL_ne n3).trans e1) (by rw [List.length_map]; omega) (fun d hd => ?_) ?_⟩
    · obtain ⟨y, hy, rfl⟩ := List.mem_map.mp hd
      exact .s _ (ho y hy).2.2.asc (ho y hy).2.1
    · have := sum_le (n := 30) fun y hy => (ho y hy).2.1
      have e : sumT (zs.map D.str) = (zs.map (·.length)).sum := by unfold sumT; rw [List.map_map]; rfl
      rw [e]
      omega
  generalize updL (updL L6 a1 (.lst (zs.map D.str))) T (.lst [.str w0, .ref a1]) = L7 at st0
  clear hT ha1 b6 b5 b4 b3 b2 b1 b0
  walk_at "w"
  refine ⟨sp, rfl, by omega, by omega, ?_⟩
  refine for_go (fun j ρ' L' => ∃ o7, ∃ x0 y1, ρ' = [some (.scr ns), some (.int (i : Nat)), some (.ref p), some (.int sp), some (.int n), some (.ref T), o6, o7, o8, o9, o10, o11, o12, o13, o14] ∧ Good L' p T (700 + 5 * j) (MM j) (WW j) x0 y1) ⟨_, _, _, rfl, st0⟩ (fun _ _ _ _ => trivial) ?_ ?_
  · rintro j d ρ' L' R hd ⟨o7, x0, y1, rfl, st⟩ hR
    obtain ⟨rfl, hj⟩ := rng_get hd
    have hj2 : j < 2 := by omega
    walk_at "w"
    refine ⟨rfl, p, T, x0, y1, _, _, _, rfl, st.bag, by omega, st.ne, st.at_, st.ox, st.oy, ?_, ?_, fun x0' y1' L8 bg hT' hx' hy' => ?_⟩
    · obtain rfl | rfl : j = 0 ∨ j = 1 := by omega
      · decide
      · decide
    · obtain rfl | rfl : j = 0 ∨ j = 1 := by omega
      · decide
      · decide
    walk_at "w"
    refine hR _ _ ⟨_, x0', y1', rfl, bg, hT', st.ne, hx', ?_⟩
    obtain rfl | rfl : j = 0 ∨ j = 1 := by omega
    · exact hy'.re (by decide) (by decide) fun _ _ _ _ h => h
    · exact hy'.re (by decide) (by decide) fun _ _ _ _ h => h
  rintro ρ' L8 ⟨o7, x0, y1, rfl, st⟩
  rw [List.length_map, List.length_range] at st
  have st : Good L8 p T 710 3231 4122 x0 y1 := ⟨bagMore st.bag (by omega), st.at_, st.ne, st.ox, st.oy.re le_M.1 le_M.2 fun _ _ _ _ h => h⟩
  dsimp only
  refine v_seqR (fun ρ' L' => ∃ y1, ρ' = [some (.scr ns), some (.int (i : Nat)), some (.ref p), some (.int sp), some (.int n), some (.ref T), o6, o7, o8, o9, o10, o11, o12, o13, o14] ∧ Good L' p T 720 3231 4122 x0 y1) (fun k hk => ?_) ?_
  · have hT8 := st.at_
    walk_at "w"
    refine st.oy.isl ?_
    walk_at "w"
    refine v_ite (fun cC => ?_) (fun cC => ?_)
    rotate_left
    · walk_at "w"
      exact hk _ _ ⟨y1, rfl, ⟨bagMore st.bag (by omega), st.at_, st.ne, st.ox, st.oy⟩⟩
    walk_at "w"
    have bb : Bag L8 L8 p ((710 : Nat) : Int) := .self st.bag
    refine ⟨rfl, take_d bb (by omega) (by decide) (by decide) fun i5 L9 i50 i51 b9 => ?_⟩
    have st9 := st.take (c' := 720) (bagMore b9.bag (by omega)) (bag_keep bb b9)
    walk_at "w"
    refine v_ite (fun c0 => ?_) (fun c0 => ?_)
    rotate_left
    · walk_at "w"
      exact hk _ _ ⟨y1, rfl, st9⟩
    have hT9 := st9.at_
    have hoy := st9.oy
    cases hoy with
    | @cel a ds n1 n2 l nn od sm =>
      walk_at "w"
      refine v_tup (vr_ref l) ?_
      walk_at "w"
      refine v_setL (j := 1) hT9 rfl ?_
      walk_at "w"
      have re : ∀ {M : Nat} {x : D}, Od L9 (Eo p T (.ref a)) M x → Od (updL L9 T (.lst ([x0, .ref a].set 1 (.tup ds)))) (Eo p T (.tup ds)) M x := fun h => h.re (Nat.le_refl _) fun b c hb he => ⟨(updL_ne (fun e => he (.inr (.inl e)))).trans hb, fun hE => by
        rcases hE with e | e | e
        · exact he (.inl e)
        · exact he (.inr (.inl e))
        · cases e⟩
      refine hk _ _ ⟨.tup ds, rfl, ?_, updL_same, st.ne, re st9.ox, .tup ds nn (fun d hd => re (od d hd)) sm⟩
      obtain ⟨xb, eb, gb⟩ := st9.bag
      exact ⟨xb, (updL_ne (fun e => st.ne e.symm)).trans eb, gb⟩
    | _ => cases cC
  rintro ρ' L9 ⟨y1, rfl, st⟩
  have hT9 := st.at_
  obtain ⟨o, hsq, hso⟩ := st.oy.sq
  have hx := st.ox.kE (C := A.C_NoWord)
  have h5 := st.ox.sh5 (by decide)
  have hkk : ∀ ds, o = some ds → ∀ d ∈ ds, kE A.C_NoWord L9 d ∧ Sh5 d := fun ds e d hd => ⟨((hso ds e).2.1 d hd).kE, ((hso ds e).2.1 d hd).sh5 (by decide)⟩
  have dg := due_good st.ox st.oy hso
  obtain ⟨U, hU⟩ : ∃ U, due x0 y1 o = U := ⟨_, rfl⟩
  rw [hU] at dg
  obtain ⟨zx, rx, tx⟩ := st.ox.rv (by decide)
  obtain ⟨zy, ry, ty⟩ := st.oy.rv (by decide)
  have rT : Rv L9 (fun _ => True) (.ref T) (.lst [zx, zy]) := .ref trivial hT9 (.cons (rx.more fun _ _ => trivial) (.cons ry .nil))
  have tT : Th (.lst [zx, zy]) 6300000 20 := (Ths.nil.cons ty |>.cons tx).lst.more (by omega) (by omega)
  obtain ⟨zu, ru, tu⟩ := dg.rv
  have bag9 := st.bag
  walk_at "w"
  refine w_repr rT tT ?_
  generalize hS : (pyOf (D.lst [zx, zy])).shown = S
  walk_at "w"
  refine ⟨rfl, x0, y1, o, rfl, hx, hsq, h5, hkk, ?_⟩
  rw [hU]
  walk_at "w"
  refine ⟨rfl, x0, y1, o, rfl, hx, hsq, h5, hkk, ?_⟩
  rw [hU]
  dsimp only
  refine v_seqR (fun ρ' L' => ρ' = [some (.scr ns), some (.int (i : Nat)), some (.ref p), some (.int sp), some (.int n), some (.ref T), o6, o7, some (.str S), some U.d, some U.d, o11, o12, o13, o14] ∧ L9 = L') (fun k hk => ?_) ?_
  · walk_at "w"
    refine w_repr ru tu ?_
    generalize hV : (pyOf zu).shown = V
    walk_at "w"
    refine w_repr ru tu ?_
    rw [hV]
    walk_at "w"
    refine v_ite (fun c => absurd c (by simp)) (fun _ => ?_)
    walk_at "w"
    refine w_repr rT tT ?_
    rw [hS]
    walk_at "w"
    refine v_ite (fun c => absurd c (by simp)) (fun _ => ?_)
    walk_at "w"
    refine ⟨rfl, x0, y1, o, rfl, hx, hsq, h5, hkk, ?_⟩
    rw [hU]
    walk_at "w"
    refine w_repr ru tu ?_
    rw [hV]
    walk_at "w"
    refine w_repr ru tu ?_
    rw [hV]
    walk_at "w"
    first
    | exact hk _ _ ⟨rfl, rfl⟩
    | (refine v_ite (fun c => absurd c (by simp)) (fun _ => ?_); exact hk _ _ ⟨rfl, rfl⟩)
  rintro ρ' L' ⟨rfl, rfl⟩
  clear hS hU rT tT ru tu rx tx ry ty hx h5 hkk hso hsq hT9
  refine v_seqR (fun ρ' L' => ρ' = [some (.scr ns), some (.int (i : Nat)), some (.ref p), some (.int sp), some (.int n), some (.ref T), o6, o7, some (.str S), some U.d, some U.d, o11, o12, o13, o14] ∧ ∃ x, L' p = some x ∧ BagC ((720 : Nat) : Int) x) (fun k hk => ?_) ?_
  · cases dg with
    | told z az nz =>
      walk_at "w"
      exact hk _ _ ⟨rfl, bag9⟩
    | @word v ov =>
      walk_at "w"
      refine ov.isl ?_
      walk_at "w"
      refine v_ite (fun cC => ?_) (fun cC => ?_)
      rotate_left
      · walk_at "w"
        exact hk _ _ ⟨rfl, bag9⟩
      cases ov with
      | @l a z na la az nz =>
        walk_at "w"
        refine ⟨⟨rfl, _, la⟩, ?_⟩
        walk_at "w"
        refine v_appN la (sz5 (by show 1 ≤ 6000; decide)) ?_
        have rr : Rv (updL L9 a (.lst ([.str z] ++ [.str "more"]))) (fun _ => True) (.lst [.str "word", .ref a]) (.lst [.str "word", .lst [.str z, .str "more"]]) := .lst (.cons (.str _) (.cons (.ref trivial updL_same (.cons (.str z) (.cons (.str _) .nil))) .nil))
        have tt : Th (.lst [.str "word", .lst [.str z, .str "more"]]) 100000 10 := (Ths.nil.cons (Ths.nil.cons (Th.strs (n := 4) (x := "more") (asc_lit (by decide +kernel)) (by decide)) |>.cons (Th.strs az (Nat.le_trans nz (by decide : 3231 ≤ 5000)))).lst |>.cons (Th.strs (n := 4) (x := "word") (asc_lit (by decide +kernel)) (by decide))).lst.more (by omega) (by omega)
        walk_at "w"
        refine w_repr rr tt ?_
        generalize hV : (pyOf (D.lst [.str "word", .lst [.str z, .str "more"]])).shown = V
        walk_at "w"
        refine w_repr rr tt ?_
        rw [hV]
        walk_at "w"
        refine v_ite (fun c => absurd c (by simp)) (fun _ => ?_)
        walk_at "w"
        refine hk _ _ ⟨rfl, ?_⟩
        obtain ⟨xb, eb, gb⟩ := bag9
        exact ⟨xb, (updL_ne (fun e => na (.inl e.symm))).trans eb, gb⟩
      | _ => cases cC
    | list oy =>
      walk_at "w"
      refine oy.isl ?_
      walk_at "w"
      refine v_ite (fun cC => ?_) (fun cC => ?_)
      rotate_left
      · walk_at "w"
        exact hk _ _ ⟨rfl, bag9⟩
      cases oy with
      | @cel a ds n1 n2 la nn od sm =>
        walk_at "w"
        refine ⟨⟨rfl, _, la⟩, ?_⟩
        walk_at "w"
        refine v_appN la (sz5 (by omega)) ?_
        have od' : ∀ d ∈ ds, Od (updL L9 a (.lst (ds ++ [.str "more"]))) (Eo p T (.ref a)) 3231 d := fun d hd => (od d hd).re (Nat.le_refl _) fun b c hb he => ⟨(updL_ne (fun e => he (.inr (.inr (by rw [e]))))).trans hb, he⟩
        obtain ⟨ys, ry, ty⟩ := ods_rv (by decide) od'
        have rr : Rv (updL L9 a (.lst (ds ++ [.str "more"]))) (fun _ => True) (.lst [.str "list", .ref a]) (.lst [.str "list", .lst (ys ++ [.str "more"])]) := .lst (.cons (.str _) (.cons (.ref trivial updL_same ((ry.more fun _ _ => trivial).app (.cons (.str _) .nil))) .nil))
        have tt : Th (.lst [.str "list", .lst (ys ++ [.str "more"])]) 6200000 20 := (Ths.nil.cons (ty.app (Ths.nil.cons (Th.strs (n := 4) (x := "more") (asc_lit (by decide +kernel)) (by decide)))).lst |>.cons (Th.strs (n := 4) (x := "list") (asc_lit (by decide +kernel)) (by decide))).lst.more (by have := Nat.mul_le_mul_left 60002 nn; omega) (by omega)
        walk_at "w"
        refine w_repr rr tt ?_
        generalize hV : (pyOf (D.lst [.str "list", .lst (ys ++ [.str "more"])])).shown = V
        walk_at "w"
        refine w_repr rr tt ?_
        rw [hV]
        walk_at "w"
        refine v_ite (fun c => absurd c (by simp)) (fun _ => ?_)
        walk_at "w"
        refine hk _ _ ⟨rfl, ?_⟩
        obtain ⟨xb, eb, gb⟩ := bag9
        exact ⟨xb, (updL_ne (fun e => n1 e.symm)).trans eb, gb⟩
      | _ => cases cC
  rintro ρ' La ⟨rfl, bagA⟩
  refine v_seqR (fun ρ' L' => ∃ tx, ρ' = [some (.scr ns), some (.int (i : Nat)), some (.ref p), some (.int sp), some (.int n), some (.ref T), o6, o7, some (.str S), some U.d, some U.d, some tx, o12, o13, o14] ∧ (∃ x, L' p = some x ∧ BagC ((800 : Nat) : Int) x) ∧ Od L' (fun b => b = p) 4900 tx) (fun k hk => ?_) ?_
  · cases dg with
    | told z az nz =>
      walk_at "w"
      exact hk _ _ ⟨_, rfl, bagMore bagA (by decide), .s z az (by omega)⟩
    | @word v ov =>
      walk_at "w"
      refine ⟨rfl, p, 720, rfl, bagA, by decide, fun u Lb u1 u2 u3 bb => ?_⟩
      walk_at "w"
      refine v_addS (by show u.length + 2 ≤ sizeLine; exact Nat.le_of_lt (sz5 (by omega))) ?_
      walk_at "w"
      refine ⟨rfl, p, 720 + 33, _, 32, rfl, bb.bag, by decide, asc_app u3.asc (asc_lit (by decide +kernel)), (by rw [len_app]; show u.length + 2 ≤ 32; omega), by decide, fun y Lc k2 bg hy => ?_⟩
      walk_at "w"
      refine hk _ _ ⟨y, rfl, bagMore bg (by decide), (hy (fun b => b = p) fun b e => ?_).re (by decide) fun _ _ h e => ⟨h, e⟩⟩
      obtain ⟨xb, eb, gb⟩ := bb.bag
      rw [e, eb]; exact fun z => nomatch z
    | list oy =>
      walk_at "w"
      refine ⟨rfl, p, 720, rfl, bagA, by decide, fun u Lb u1 u2 u3 bb => ?_⟩
      walk_at "w"
      refine v_addS (by show u.length + 2 ≤ sizeLine; exact Nat.le_of_lt (sz5 (by omega))) ?_
      walk_at "w"
      refine ⟨rfl, p, 720 + 33, _, 32, rfl, bb.bag, by decide, asc_app u3.asc (asc_lit (by decide +kernel)), (by rw [len_app]; show u.length + 2 ≤ 32; omega), by decide, fun y Lc k2 bg hy => ?_⟩
      walk_at "w"
      refine hk _ _ ⟨y, rfl, bagMore bg (by decide), (hy (fun b => b = p) fun b e => ?_).re (by decide) fun _ _ h e => ⟨h, e⟩⟩
      obtain ⟨xb, eb, gb⟩ := bb.bag
      rw [e, eb]; exact fun z => nomatch z
  rintro ρ' Lb ⟨tx, rfl, bagB, otx⟩
  clear bagA bag9 dg
  refine v_seqR (fun ρ' L' => ∃ at_ : Int, ρ' = [some (.scr ns), some (.int (i : Nat)), some (.ref p), some (.int sp), some (.int n), some (.ref T), o6, o7, some (.str S), some U.d, some U.d, some tx, some (.int at_), o13, o14] ∧ (∃ x, L' p = some x ∧ BagC ((801 : Nat) : Int) x) ∧ Od L' (fun b => b = p) 4900 tx ∧ (∀ z, tx = .str z → 0 ≤ at_)) (fun k hk => ?_) ?_
  · walk_at "w"
    refine otx.iss ?_
    walk_at "w"
    refine v_ite (fun cs => ?_) (fun cs => ?_)
    · obtain ⟨z, rfl⟩ := str_of cs
      have hz : z.length ≤ 4900 := otx.txt
      walk_at "w"
      refine .inr (.inl ⟨z, rfl, Nat.le_of_lt (sz5 (by omega)), ?_⟩)
      walk_at "w"
      refine ⟨rfl, take_d (.self bagB) (by decide) (by omega) (lg5 (by omega)) fun at_ Lc a0 a1 bc => ?_⟩
      walk_at "w"
      exact hk _ _ ⟨at_, rfl, bc.bag, otx.re (Nat.le_refl _) fun b c hb he => ⟨(bc.rest b he).trans hb, he⟩, fun _ _ => a0⟩
    · walk_at "w"
      refine hk _ _ ⟨0, rfl, bagMore bagB (by decide), otx, fun z e => ?_⟩
      subst e; cases cs
  rintro ρ' Lc ⟨at_, rfl, bagC, otx, hat⟩
  clear bagB
  refine v_seqR (fun ρ' L' => ∃ bt, ρ' = [some (.scr ns), some (.int (i : Nat)), some (.ref p), some (.int sp), some (.int n), some (.ref T), o6, o7, some (.str S), some U.d, some U.d, some tx, some (.int at_), some bt, o14] ∧ (∃ x, L' p = some x ∧ BagC ((802 : Nat) : Int) x) ∧ Od L' (fun b => b = p) 4901 tx ∧ Od L' (fun b => b = p) 4901 bt) (fun k hk => ?_) ?_
  · walk_at "w"
    refine otx.iss ?_
    walk_at "w"
    refine v_ite (fun cs => ?_) (fun cs => ?_)
    · obtain ⟨z, rfl⟩ := str_of cs
      have hz : z.length ≤ 4900 := otx.txt
      have az := otx.asc z rfl
      have a0 := hat z rfl
      walk_at "w"
      refine v_slS (Nat.le_of_lt (sz5 (by omega))) ?_
      walk_at "w"
      refine ⟨rfl, take_d (.self bagC) (by decide) (by decide) (by decide) fun i5 Ld i50 i51 bd => ?_⟩
      refine v_ixZ (zs := [Str.ofString " ", Str.ofString "\n", Str.ofString "x"]) rfl i50 (by show i5 < (3 : Nat); omega) fun y hy => ?_
      have hy1 : y.length = 1 ∧ Asc y := by
        simp only [List.mem_cons, List.not_mem_nil, or_false] at hy
        rcases hy with rfl | rfl | rfl
        · exact ⟨rfl, asc_sp⟩
        · exact ⟨rfl, asc_nl⟩
        · exact ⟨rfl, asc_lit (by decide +kernel)⟩
      have hc2 := cut_two (z := z) a0
      have fa : Asc (cutS z none (some at_)) := asc_cut az
      have ga : Asc (cutS z (some at_) none) := asc_cut az
      generalize cutS z none (some at_) = fr at hc2 fa
      refine v_addS (by rw [hy1.1]; exact Nat.le_of_lt (sz5 (by omega))) ?_
      walk_at "w"
      refine v_slS (Nat.le_of_lt (sz5 (by omega))) ?_
      generalize cutS z (some at_) none = bk at hc2 ga
      walk_at "w"
      refine v_addS (by rw [len_app, hy1.1]; exact Nat.le_of_lt (sz5 (by omega))) ?_
      walk_at "w"
      exact hk _ _ ⟨_, rfl, bd.bag, otx.re (by decide) fun b c hb he => ⟨(bd.rest b he).trans hb, he⟩, .s _ (asc_app (asc_app fa hy1.2) ga) (by rw [len_app, len_app, hy1.1]; omega)⟩
    · walk_at "w"
      exact hk _ _ ⟨_, rfl, bagMore bagC (by decide), otx.re (by decide) fun b c hb he => ⟨hb, he⟩, otx.re (by decide) fun b c hb he => ⟨hb, he⟩⟩
  rintro ρ' Ld ⟨bt, rfl, bagD, otx, obt⟩
  clear bagC
  walk_at "w"
  refine ⟨rfl, tx, rfl, otx.kE, otx.sh5 (by decide), otx.asc, ?_⟩
  walk_at "w"
  refine ⟨rfl, bt, rfl, obt.kE, obt.sh5 (by decide), obt.asc, ?_⟩
  walk_at "w"
  refine ⟨_, rfl, ?_⟩
  walk_at "w"
  refine v_mod (by decide) ?_
  refine v_ixM rfl (Int.emod_nonneg _ (by decide)) (by show _ < ((4 : Nat) : Int); exact Int.emod_lt_of_pos _ (by decide)) fun d hd => ?_
  have fd : kE A.C_NoWord Ld d ∧ Sh5 d ∧ (∀ z, d = .str z → Asc z) := by
    simp only [List.mem_cons, List.not_mem_nil, or_false] at hd
    rcases hd with rfl | rfl | rfl | rfl
    · exact ⟨.inl ⟨_, rfl⟩, (fun z e => nomatch e), (fun z e => nomatch e)⟩
    · exact ⟨.inr ⟨_, rfl⟩, (fun z e => nomatch e), (fun z e => nomatch e)⟩
    · exact ⟨.inl ⟨_, rfl⟩, (fun z e => nomatch e), (fun z e => nomatch e)⟩
    · exact ⟨.inl ⟨_, rfl⟩, (fun z e => nomatch e), (fun z e => nomatch e)⟩
  walk_at "w"
  refine ⟨rfl, d, rfl, fd.1, fd.2.1, fd.2.2, ?_⟩
  walk_at "w"
  refine ⟨rfl, p, 802, rfl, bagD, by decide, fun u Le u1 u2 u3 be => ?_⟩
  walk_at "w"
  refine ⟨rfl, take_d (.self be.bag) (by decide) (by decide) (by decide) fun i6 Lf i60 i61 bf => ?_⟩
  walk_at "w"
  refine v_mulS (mul_ok (by omega) (by omega) (by omega)) ?_
  have lnl : (Txt.mul u (1 + i6)).length = (1 + i6).toNat * u.length := mul_len (by omega)
  have lnG : Gs (Txt.mul u (1 + i6)) := mul_all u3
  have ln1 : 1 ≤ (Txt.mul u (1 + i6)).length := by rw [lnl]; exact Nat.mul_pos (by omega) (by omega)
  have ln2 : (Txt.mul u (1 + i6)).length ≤ 1800 := by rw [lnl]; exact Nat.le_trans (Nat.mul_le_mul (by omega : (1 + i6).toNat ≤ 60) u2) (by decide)
  generalize Txt.mul u (1 + i6) = ln at lnG ln1 ln2
  have kA : ∀ (z : Str), kE A.C_NoWord Lf (.str z) := fun z => .inl ⟨_, rfl⟩
  walk_at "w"
  refine v_addS (by show 2 + ln.length ≤ sizeLine; exact Nat.le_of_lt (sz5 (by omega))) ?_
  walk_at "w"
  refine ⟨rfl, _, rfl, kA _, fun z e => by cases e; rw [len_app]; show 2 + ln.length ≤ 5000; omega, fun z e => by cases e; exact asc_app (asc_lit (by decide +kernel)) lnG.asc, ?_⟩
  walk_at "w"
  refine v_addS (by show ln.length + 2 ≤ sizeLine; exact Nat.le_of_lt (sz5 (by omega))) ?_
  walk_at "w"
  refine ⟨rfl, _, rfl, kA _, fun z e => by cases e; rw [len_app]; show ln.length + 2 ≤ 5000; omega, fun z e => by cases e; exact asc_app lnG.asc (asc_lit (by decide +kernel)), ?_⟩
  have lnW : isW (.str ln) = true := lnG.wz ln1
  have s5 : Sh5 (.str ln) := fun z e => by cases e; omega
  have e1 : due (.str ln) (.ctup []) (some []) = .told ln := by
    rw [due_in lnW rfl, dueL_all (fun e he => by cases he)]; rfl
  walk_at "w"
  refine ⟨rfl, .str ln, .ctup [], some [], rfl, kA _, .ctup [], s5, (fun ds e d hd => by cases e; cases hd), ?_⟩
  rw [e1]
  dsimp only [duQ]
  walk_at "w"
  refine v_ite (fun c => absurd c (by simp)) (fun _ => ?_)
  walk_at "w"
  refine v_callK ?_
  walk_at "w"
  have e2 : due (.str "a") (.lst [.str ln, .str "b"]) (some [.str ln, .str "b"]) = .told (rowF (Str.ofString "a") [ln, Str.ofString "b"]) := by
    rw [due_in (by decide +kernel) rfl, dueL_all (fun e he => by
      simp only [List.mem_cons, List.not_mem_nil, or_false] at he
      rcases he with rfl | rfl
      · exact lnW
      · decide +kernel)]
    rfl
  refine ⟨rfl, rfl, rfl, .str "a", .lst [.str ln, .str "b"], some [.str ln, .str "b"], rfl, kA _, .lst _, (fun z e => by cases e; decide +kernel), (fun ds e d hd => by
    cases e
    simp only [List.mem_cons, List.not_mem_nil, or_false] at hd
    rcases hd with rfl | rfl
    · exact ⟨kA _, s5⟩
    · exact ⟨kA _, fun z e => by cases e; decide +kernel⟩), ?_⟩
  rw [e2, row_ab]
  dsimp only [duQ]
  walk_at "w"
  refine v_addS (by show 2 + ln.length ≤ sizeLine; exact Nat.le_of_lt (sz5 (by omega))) ?_
  walk_at "w"
  refine v_addS (by rw [len_app]; show 2 + ln.length + 2 ≤ sizeLine; exact Nat.le_of_lt (sz5 (by omega))) ?_
  walk_at "w"
  refine v_ite (fun c => absurd c (by simp)) (fun _ => ?_)
  walk_at "w"
  exact hR' _ _ ⟨_, _, _, _, _, _, _, _, _, _, _, _, _, _, rfl⟩
end K03
set_option Elab.async false
set_option linter.all false
set_option maxRecDepth 100000
set_option maxHeartbeats 2000000
local macro_rules | `(tactic| walk_at "vc1") => `(tactic| first
  | with_reducible refine Dz.w_seq ?_
  | with_reducible refine Dz.w_asg ?_
  | with_reducible refine Dz.w_gn ?_
  | with_reducible refine Dz.w_gsub ?_
  | with_reducible refine Dz.w_ret ?_
  | with_reducible refine Dz.w_drop ?_
  | with_reducible refine Dz.w_ifS ?_
  | with_reducible refine Dz.w_next ?_
  | ((with_reducible refine Dz.w_varE ?_); (refine ⟨_, rfl, ?_⟩))
  | with_reducible refine Dz.w_c ?_
  | with_reducible refine Dz.w_op ?_
  | with_reducible refine Dz.w_un ?_
  | with_reducible refine Dz.w_rI0 ?_
  | with_reducible refine Dz.w_rU ?_
  | with_reducible refine Dz.w_nil ?_
  | with_reducible refine Dz.w_cons ?_
  | with_reducible refine Dz.w_lst ?_
  | with_reducible refine Dz.w_tup ?_
  | with_reducible refine Dz.w_cb ?_
  | with_reducible refine Dz.w_test ?_
  | with_reducible refine Dz.w_B ?_
  | with_reducible refine Dz.w_bl ?_
  | with_reducible refine Dz.w_notV ?_
  | with_reducible refine Dz.w_andV ?_
  | with_reducible refine Dz.w_orV ?_
  | with_reducible refine Dz.w_not ?_
  | with_reducible refine Dz.w_and ?_
  | with_reducible refine Dz.w_or ?_
  | with_reducible refine Dz.w_ifE ?_
  | with_reducible refine Dz.w_lc ?_
  | with_reducible refine Dz.w_for ?_
  | with_reducible refine Dz.w_iR1 ?_
  | with_reducible refine Dz.w_iL ?_
  | with_reducible refine Dz.w_iT ?_
  | with_reducible refine Dz.w_iS ?_
  | with_reducible refine Dz.w_gcons ?_
  | with_reducible refine Dz.w_gnil ?_
  | with_reducible refine Dz.w_tyes ?_
  | with_reducible refine Dz.w_sl ?_
  | with_reducible refine Dz.w_nopart ?_
  | with_reducible refine Dz.w_part ?_
  | with_reducible refine Dz.w_int ?_
  | with_reducible refine Dz.w_m1 ?_
  | with_reducible refine Dz.w_strA ?_
  | with_reducible refine Dz.w_chain ?_
  | with_reducible refine Dz.w_vei ?_
  | with_reducible refine Dz.w_revL ?_
  | with_reducible refine Dz.w_dnew ?_
  | with_reducible refine Dz.w_ost ?_
  | with_reducible refine Dz.w_ck ?_
  | with_reducible refine Dz.w_par ?_
  | with_reducible refine Dz.w_pair ?_
  | with_reducible refine Dz.w_bm ?_
  | with_reducible refine Dz.w_bm0 ?_
  | with_reducible refine Dz.w_rz ?_
  | with_reducible refine Dz.w_mke ?_
  | with_reducible refine Dz.w_try ?_
  | with_reducible refine Dz.w_cbs ?_
  | with_reducible refine Dz.w_cks ?_
  | with_reducible refine Dz.w_sfld ?_
  | with_reducible refine Dz.w_fld ?_
  | with_reducible refine Dz.w_mth ?_
  | with_reducible refine Dz.w_xf ?_
  | with_reducible refine Dz.w_lst4 ?_
  | with_reducible refine Dz.w_nn ?_
  | ((with_reducible refine Dz.w_rEq ?_ ?_); (exact rfl))
  | ((with_reducible refine Dz.w_rNe ?_ ?_); (exact rfl)))
local macro_rules | `(tactic| walk_at "vc") => `(tactic| ((try dsimp only); repeat (walk_at "vc1"; (try dsimp only))))
namespace K03
open PySem PySem.Spec PyProof.Rows L2 Dz Ed
def top (i : Nat) : Stmt := PySem.Challenge.pw_drowsetree_k03_rows_there_and_back.main.body.getD i (.Pass ⟨0, 0, 0, 0⟩)
abbrev s_NoWord_init : Stmt := inClass (top 3) 0
theorem sc_NoWord_init : FnScope ["self", "found"] ["self", "found"] (defScope s_NoWord_init) := ⟨rfl, rfl, rfl, by decide +kernel, rfl, by decide +kernel, by decide +kernel⟩
abbrev s_NoList_init : Stmt := inClass (top 4) 0
theorem sc_NoList_init : FnScope ["self", "found"] ["self", "found"] (defScope s_NoList_init) := ⟨rfl, rfl, rfl, by decide +kernel, rfl, by decide +kernel, by decide +kernel⟩
abbrev s_is_list : Stmt := top 7
theorem sc_is_list : FnScope ["thing", "least", "most"] ["thing", "least", "most"] (defScope s_is_list) := ⟨rfl, rfl, rfl, by decide +kernel, rfl, by decide +kernel, by decide +kernel⟩
abbrev s_is_word : Stmt := top 8
theorem sc_is_word : FnScope ["thing"] ["thing"] (defScope s_is_word) := ⟨rfl, rfl, rfl, by decide +kernel, rfl, by decide +kernel, by decide +kernel⟩
abbrev s_words_of : Stmt := top 9
theorem sc_words_of : FnScope ["thing", "words", "word"] ["thing"] (defScope s_words_of) := ⟨rfl, rfl, rfl, by decide +kernel, rfl, by decide +kernel, by decide +kernel⟩
abbrev s_split_row : Stmt := top 10
theorem sc_split_row : FnScope ["thing", "words"] ["thing"] (defScope s_split_row) := ⟨rfl, rfl, rfl, by decide +kernel, rfl, by decide +kernel, by decide +kernel⟩
abbrev s_row_of : Stmt := top 11
theorem sc_row_of : FnScope ["first", "others", "word"] ["first", "others"] (defScope s_row_of) := ⟨rfl, rfl, rfl, by decide +kernel, rfl, by decide +kernel, by decide +kernel⟩
abbrev s__law_cell : Stmt := top 13
theorem sc__law_cell : FnScope ["_law_script", "_law_k"] ["_law_script", "_law_k"] (defScope s__law_cell) := ⟨rfl, rfl, rfl, by decide +kernel, rfl, by decide +kernel, by decide +kernel⟩
abbrev s__law_bag : Stmt := top 14
theorem sc__law_bag : FnScope ["_law_cell_here"] ["_law_cell_here"] (defScope s__law_bag) := ⟨rfl, rfl, rfl, by decide +kernel, rfl, by decide +kernel, by decide +kernel⟩
abbrev s__law_take : Stmt := top 15
theorem sc__law_take : FnScope ["_law_bag_here", "_law_below", "_law_digit", "_law_number"] ["_law_bag_here", "_law_below"] (defScope s__law_take) := ⟨rfl, rfl, rfl, by decide +kernel, rfl, by decide +kernel, by decide +kernel⟩
abbrev s__law_signs : Stmt := top 16
theorem sc__law_signs : FnScope ["_law_letters"] [] (defScope s__law_signs) := ⟨rfl, rfl, rfl, by decide +kernel, rfl, by decide +kernel, by decide +kernel⟩
abbrev s__law_word : Stmt := top 17
theorem sc__law_word : FnScope ["_law_bag_here", "_law_signs_here", "_law_size", "_law_k"] ["_law_bag_here"] (defScope s__law_word) := ⟨rfl, rfl, rfl, by decide +kernel, rfl, by decide +kernel, by decide +kernel⟩
abbrev s__law_is_word : Stmt := top 18
theorem sc__law_is_word : FnScope ["_law_thing", "_law_sign"] ["_law_thing"] (defScope s__law_is_word) := ⟨rfl, rfl, rfl, by decide +kernel, rfl, by decide +kernel, by decide +kernel⟩
abbrev s__law_cut : Stmt := top 19
theorem sc__law_cut : FnScope ["_law_thing", "_law_found", "_law_sign", "_law_bad", "_law_word_here"] ["_law_thing"] (defScope s__law_cut) := ⟨rfl, rfl, rfl, by decide +kernel, rfl, by decide +kernel, by decide +kernel⟩
abbrev s__law_odd : Stmt := top 20
theorem sc__law_odd : FnScope ["_law_bag_here", "_law_word_here", "_law_at", "_law_front", "_law_back", "_law_odd_here"] ["_law_bag_here", "_law_word_here"] (defScope s__law_odd) := ⟨rfl, rfl, rfl, by decide +kernel, rfl, by decide +kernel, by decide +kernel⟩
abbrev s__law_due : Stmt := top 21
theorem sc__law_due : FnScope ["_law_lead", "_law_behind", "_law_bad", "_law_word_here", "_law_text"] ["_law_lead", "_law_behind"] (defScope s__law_due) := ⟨rfl, rfl, rfl, by decide +kernel, rfl, by decide +kernel, by decide +kernel⟩
abbrev s__law_asked : Stmt := top 22
theorem sc__law_asked : FnScope ["_law_lead", "_law_behind", "e"] ["_law_lead", "_law_behind"] (defScope s__law_asked) := ⟨rfl, rfl, rfl, by decide +kernel, rfl, by decide +kernel, by decide +kernel⟩
abbrev s__law_read_right : Stmt := top 23
theorem sc__law_read_right : FnScope ["_law_thing", "_law_due_here", "_law_pair", "_law_turn", "_law_words", "_law_split"] ["_law_thing"] (defScope s__law_read_right) := ⟨rfl, rfl, rfl, by decide +kernel, rfl, by decide +kernel, by decide +kernel⟩
abbrev s__law_spoilt : Stmt := top 24
theorem sc__law_spoilt : FnScope ["_law_bag_here", "_law_things", "_law_place", "_law_odd_here", "_law_at"] ["_law_bag_here", "_law_things"] (defScope s__law_spoilt) := ⟨rfl, rfl, rfl, by decide +kernel, rfl, by decide +kernel, by decide +kernel⟩
abbrev s_law : Stmt := top 25
theorem sc_law : FnScope ["_law_script", "_law_k", "_law_bag_here", "_law_spoils", "_law_size", "_law_things", "_law_j", "_law_turn", "_law_kept", "_law_due_here", "_law_found", "_law_text", "_law_at", "_law_bent", "_law_lone"] ["_law_script"] (defScope s_law) := ⟨rfl, rfl, rfl, by decide +kernel, rfl, by decide +kernel, by decide +kernel⟩
/-- what the top has written -/
structure Txt (K : PySem.W.Frag) (mg : Str → Option Value) (A : Ad) : Prop where
  z_all : mg "all" = none
  z_isinstance : mg "isinstance" = none
  z_len : mg "len" = none
  z_list : mg "list" = none
  z_max : mg "max" = none
  z_min : mg "min" = none
  z_range : mg "range" = none
  z_repr : mg "repr" = none
  z_str : mg "str" = none
  z_sum : mg "sum" = none
  z_tuple : mg "tuple" = none
  c__MOST_OTHERS : Gv mg "_MOST_OTHERS" (.int 100)
  d_is_list : Df K mg "is_list" s_is_list A.f_is_list
  d_is_word : Df K mg "is_word" s_is_word A.f_is_word
  d_words_of : Df K mg "words_of" s_words_of A.f_words_of
  d_split_row : Df K mg "split_row" s_split_row A.f_split_row
  d__law_cell : Df K mg "_law_cell" s__law_cell A.f__law_cell
  d__law_bag : Df K mg "_law_bag" s__law_bag A.f__law_bag
  d__law_take : Df K mg "_law_take" s__law_take A.f__law_take
  d__law_signs : Df K mg "_law_signs" s__law_signs A.f__law_signs
  d__law_word : Df K mg "_law_word" s__law_word A.f__law_word
  d__law_is_word : Df K mg "_law_is_word" s__law_is_word A.f__law_is_word
  d__law_cut : Df K mg "_law_cut" s__law_cut A.f__law_cut
  d__law_odd : Df K mg "_law_odd" s__law_odd A.f__law_odd
  d__law_due : Df K mg "_law_due" s__law_due A.f__law_due
  d__law_asked : Df K mg "_law_asked" s__law_asked A.f__law_asked
  d__law_read_right : Df K mg "_law_read_right" s__law_read_right A.f__law_read_right
  d__law_spoilt : Df K mg "_law_spoilt" s__law_spoilt A.f__law_spoilt
  d_law : Df K mg "law" s_law A.f_law
  x_row_of : Dx K mg "row_of" s_row_of [.ref A.dt_row_of_0] ([] : List (Str × V)) A.f_row_of
  m_WakeError : mg "WakeError" = some (.ref A.C_WakeError)
  up_WakeError : ∃ mc, UpC K A.C_WakeError mc
  e_NoWord : Er K mg "NoWord" "found" A.C_NoWord A.f_NoWord_init
  n_NoWord_init : ∃ fd, Fun K "__init__" "NoWord.__init__" s_NoWord_init A.f_NoWord_init fd
  e_NoList : Er K mg "NoList" "found" A.C_NoList A.f_NoList_init
  n_NoList_init : ∃ fd, Fun K "__init__" "NoList.__init__" s_NoList_init A.f_NoList_init fd
  x_NoWord_NoWord : PySem.W.subIn K (.ref A.C_NoWord) (.ref A.C_NoWord) = some true
  x_NoWord_NoList : PySem.W.subIn K (.ref A.C_NoWord) (.ref A.C_NoList) = some false
  x_NoList_NoWord : PySem.W.subIn K (.ref A.C_NoList) (.ref A.C_NoWord) = some false
  x_NoList_NoList : PySem.W.subIn K (.ref A.C_NoList) (.ref A.C_NoList) = some true
  kd_row_of_0 : Ed.KTup K A.dt_row_of_0 []
section
variable {P : Program} {w : World} {K : PySem.W.Frag} {mg : Str → Option Value} {base : Heap} {A : Ad}
theorem kb_row_of_2 {Td_row_of_0 : Addr} {K : PySem.W.Frag} {f : Addr} {fd : FuncData} (F : FunD K "row_of" "row_of" (defArgs s_row_of) (defBody s_row_of) (defScope s_row_of) [.ref Td_row_of_0] ([] : List (Str × V)) f fd) : ∃ ds, Vals [] ds ∧ Binds K fd ["first", "others"] ds :=
  F.binds1 2 1 (by first | decide | simp) (by first | decide | rfl) (fun T kV doc pm an cdv ct us its h1 h2 => match us, h1, its, h2 with | [a0, a1], _, [b0], _ => ⟨_, rfl, rfl⟩)
theorem kb_row_of_0_others_first {Td_row_of_0 : Addr} {K : PySem.W.Frag} {f : Addr} {fd : FuncData} (F : FunD K "row_of" "row_of" (defArgs s_row_of) (defBody s_row_of) (defScope s_row_of) [.ref Td_row_of_0] ([] : List (Str × V)) f fd) : ∃ g, KBn K fd ["first", "others"] 0 ["others", "first"] g (fun vs zs => perm [2, 1] (vs ++ [.ref Td_row_of_0] ++ zs)) := by
  obtain ⟨its, h⟩ := kb_d F (ps := ["first", "others"]) 0 ["others", "first"] (fun us its ws => perm [2, 1] (us ++ its ++ ws)) (by simp) (fun r1 r2 r3 => vals_perm ((r1.append r2).append r3) _) (fun T kV doc pm an cdv ct us its ws h1 h2 h3 => match us, h1, its, h2, ws, h3 with | [], _, [b0], _, [c0, c1], _ => ⟨_, rfl, rfl⟩)
  exact ⟨_, h⟩
theorem kb_row_of_1 {Td_row_of_0 : Addr} {K : PySem.W.Frag} {f : Addr} {fd : FuncData} (F : FunD K "row_of" "row_of" (defArgs s_row_of) (defBody s_row_of) (defScope s_row_of) [.ref Td_row_of_0] ([] : List (Str × V)) f fd) : ∃ ds, Vals [.ref Td_row_of_0] ds ∧ Binds K fd ["first", "others"] ds :=
  F.binds1 1 0 (by first | decide | simp) (by first | decide | rfl) (fun T kV doc pm an cdv ct us its h1 h2 => match us, h1, its, h2 with | [a0], _, [b0], _ => ⟨_, rfl, rfl⟩)
/-- the error's own __init__ -/
theorem ok_NoWord_init (T : Txt K mg A) : Kp P w K mg base CX0 1 A.f_NoWord_init ["self", "found"] [] (spErr "found" A.C_NoWord) := by
  obtain ⟨fd, F⟩ := T.n_NoWord_init
  obtain ⟨mc, up⟩ := T.up_WakeError
  refine ⟨fd, fnG_nx (k := 0) F sc_NoWord_init (fun vs H Q E h => ?_) (fun cdv Ar outer s H vs Q E hcl hr h => ?_), F.binds (fun _ _ _ _ _ _ us hl => match us, hl with | [_, _], _ => rfl)⟩
  · obtain ⟨a, y, rfl, ha, q⟩ := h
    rfl
  · obtain ⟨a, y, rfl, ha, q⟩ := h
    refine ⟨_, (pss_cons (ps_expr (pe_upinit (by rfl) T.m_WakeError up (pa_cons (pv 0) (pa_cons pe_str pa_nil))))
      (pss_one (ps_ost (pv 0) (pv 1)))), ?_⟩
    walk_at "vc"
    refine ⟨a, _, _, rfl, (by show 1 ≤ 1000; decide), T.e_NoWord.oex, ha, ?_⟩
    walk_at "vc"
    exact ⟨a, _, rfl, T.e_NoWord.oex, T.e_NoWord.nof, .inl ⟨ha, q⟩⟩
/-- the error's own __init__ -/
theorem ok_NoList_init (T : Txt K mg A) : Kp P w K mg base CX0 1 A.f_NoList_init ["self", "found"] [] (spErr "found" A.C_NoList) := by
  obtain ⟨fd, F⟩ := T.n_NoList_init
  obtain ⟨mc, up⟩ := T.up_WakeError
  refine ⟨fd, fnG_nx (k := 0) F sc_NoList_init (fun vs H Q E h => ?_) (fun cdv Ar outer s H vs Q E hcl hr h => ?_), F.binds (fun _ _ _ _ _ _ us hl => match us, hl with | [_, _], _ => rfl)⟩
  · obtain ⟨a, y, rfl, ha, q⟩ := h
    rfl
  · obtain ⟨a, y, rfl, ha, q⟩ := h
    refine ⟨_, (pss_cons (ps_expr (pe_upinit (by rfl) T.m_WakeError up (pa_cons (pv 0) (pa_cons pe_str pa_nil))))
      (pss_one (ps_ost (pv 0) (pv 1)))), ?_⟩
    walk_at "vc"
    refine ⟨a, _, _, rfl, (by show 1 ≤ 1000; decide), T.e_NoList.oex, ha, ?_⟩
    walk_at "vc"
    exact ⟨a, _, rfl, T.e_NoList.oex, T.e_NoList.nof, .inl ⟨ha, q⟩⟩
def spLawK (K : PySem.W.Frag) : Sp := fun vs H Q _ => spD K 1 Ed.spLaw vs H Q E0
theorem mt_ok (T : Txt K mg A) : ∀ C c b, mt A C c b → PySem.W.exmOne K (.ref C) (.ref c) = some b := by
  intro C c b h
  unfold mt at h
  rcases h with ⟨rfl, rfl, rfl⟩ | ⟨rfl, rfl, rfl⟩ | ⟨rfl, rfl, rfl⟩ | ⟨rfl, rfl, rfl⟩
  · exact T.e_NoWord.exm T.x_NoWord_NoWord
  · exact T.e_NoList.exm T.x_NoWord_NoList
  · exact T.e_NoWord.exm T.x_NoList_NoWord
  · exact T.e_NoList.exm T.x_NoList_NoList
theorem ok_is_list (T : Txt K mg A) (B1 : ∃ o, base.get? sysModules = some o)  : Kp P w K mg base (L2.CX P w) 1 A.f_is_list ["thing", "least", "most"] [] (spD K 3 (sp_is_list A)) := by
  obtain ⟨fd, F⟩ := T.d_is_list.ex
  exact kd_mk F sc_is_list (F.binds (fun _ _ _ _ _ _ us hl => match us, hl with | [_, _, _], _ => rfl)) (fun cdv Ar outer s H E hcl hr => by
    have hu65 : _ + 65 < cLine := Nat.lt_of_le_of_lt (Nat.add_le_add_left (by omega : 65 ≤ 16 * 0 + 200) _) (by have := hr.un; rw [Nat.add_assoc] at this; exact this)
    have hu := hu_of hr
    exact (dss_one (ds_ret (d_and (d_callB (call_isiA rfl) sim_isi2 (by rfl) T.z_isinstance (by decide +kernel) (da_cons (dv 0) (da_cons (d_tup (da_cons (d_c (pe_bltn (v := .ty "list") rfl T.z_list (by decide +kernel) rfl) (fun _ _ => .ty _)) (da_cons (d_c (pe_bltn (v := .ty "tuple") rfl T.z_tuple (by decide +kernel) rfl) (fun _ _ => .ty _)) da_nil))) da_nil))) (d_one (d_chain op_le sim_le op_le sim_le (dv 1) (d_callB (call_lenA rfl) sim_len (by rfl) T.z_len (by decide +kernel) (da_cons (dv 0) da_nil)) (dv 2))))))) (fun cdv Ar outer s H E => takes_of rfl rfl rfl rfl) (rd_is_list A)
theorem ok_is_word (T : Txt K mg A) (B1 : ∃ o, base.get? sysModules = some o)  : Kp P w K mg base (L2.CX P w) 1 A.f_is_word ["thing"] [] (spD K 1 (sp_is_word A)) := by
  obtain ⟨fd, F⟩ := T.d_is_word.ex
  exact kd_mk F sc_is_word (F.binds (fun _ _ _ _ _ _ us hl => match us, hl with | [_], _ => rfl)) (fun cdv Ar outer s H E hcl hr => by
    have hu65 : _ + 65 < cLine := Nat.lt_of_le_of_lt (Nat.add_le_add_left (by omega : 65 ≤ 16 * 0 + 200) _) (by have := hr.un; rw [Nat.add_assoc] at this; exact this)
    have hu := hu_of hr
    exact (dss_one (ds_ret (d_and (d_callB (call_isiBE rfl) (sim_isiE (me := (fun C => C = A.C_NoWord)) (fun C h => by rcases h with rfl <;> first | exact T.e_NoWord.ei)) (by rfl) T.z_isinstance (by decide +kernel) (da_cons (dv 0) (da_cons (d_c (pe_bltn (v := .ty "str") rfl T.z_str (by decide +kernel) rfl) (fun _ _ => .ty _)) da_nil))) (d_and (d_cmp (op_neA rfl hr.units) sim_ne (dv 0) d_str (nomark _)) (d_and (d_cmp (op_ninA rfl hu65) sim_in d_str (dv 0) rfl) (d_one (d_cmp (op_ninA rfl hu65) sim_in d_str (dv 0) rfl)))))))) (fun cdv Ar outer s H E => takes_of rfl rfl rfl rfl) (rd_is_word A)
theorem ok_words_of (T : Txt K mg A) (B1 : ∃ o, base.get? sysModules = some o) (G_is_word : Kp P w K mg base (L2.CX P w) 1 A.f_is_word ["thing"] [] (spD K 1 (sp_is_word A))) : Kp P w K mg base (L2.CX P w) 2 A.f_words_of ["thing"] [] (spD K 1 (sp_words_of A)) := by
  obtain ⟨fd, F⟩ := T.d_words_of.ex
  exact kd_mk F sc_words_of (F.binds (fun _ _ _ _ _ _ us hl => match us, hl with | [_], _ => rfl)) (fun cdv Ar outer s H E hcl hr => by
    have hu65 : _ + 65 < cLine := Nat.lt_of_le_of_lt (Nat.add_le_add_left (by omega : 65 ≤ 16 * 1 + 200) _) (by have := hr.un; rw [Nat.add_assoc] at this; exact this)
    have hu := hu_of hr
    exact (dss_cons (ds_if (d_tnot (d_test (d_callB (call_isiBE rfl) (sim_isiE (me := (fun C => C = A.C_NoWord)) (fun C h => by rcases h with rfl <;> first | exact T.e_NoWord.ei)) (by rfl) T.z_isinstance (by decide +kernel) (da_cons (dv 0) (da_cons (d_c (pe_bltn (v := .ty "str") rfl T.z_str (by decide +kernel) rfl) (fun _ _ => .ty _)) da_nil))))) (dss_one (ds_ret d_non)) dss_nil)
      (dss_cons (ds_set (i := 1) sc_words_of.nd rfl (Or.inl rfl) (d_bm rfl PySem.F.plainAttrs_str PySem.F.slot_str_split PySem.F.type_str_split mt_split sim_splitC (dv 0) (da_cons d_str da_nil)))
      (dss_cons (ds_if (d_test (d_callB (cr_all rfl) sim_all (by rfl) T.z_all (by decide +kernel) (da_cons (d_lc (own := [("word", 2)]) (by rfl) sc_words_of.nd (di_seq rfl (dv 1)) (blkOk_by (own := [("word", 2)]) (N := ["thing", "words", "word"]) (sc := defScope s_words_of) (by decide +kernel)) (fun _ _ _ _ _ => (dg_name (i := 2) sc_words_of.nd rfl (Or.inl rfl))) gw1 (fun _ _ _ _ _ => dps_nil) (fun _ _ _ _ _ => (d_fn G_is_word hcl (hr.mono (by decide)) (by rfl) T.d_is_word.mg T.d_is_word.kp (da_cons (dv 2) da_nil)))) da_nil))) (dss_one (ds_ret (dv 1))) dss_nil)
      (dss_one (ds_ret d_non)))))) (fun cdv Ar outer s H E => takes_of rfl rfl rfl rfl) (rd_words_of A)
theorem ok_split_row (T : Txt K mg A) (B1 : ∃ o, base.get? sysModules = some o) (G_words_of : Kp P w K mg base (L2.CX P w) 2 A.f_words_of ["thing"] [] (spD K 1 (sp_words_of A))) : Kp P w K mg base (L2.CX P w) 3 A.f_split_row ["thing"] [] (spD K 1 (sp_split_row A)) := by
  obtain ⟨fd, F⟩ := T.d_split_row.ex
  exact kd_mk F sc_split_row (F.binds (fun _ _ _ _ _ _ us hl => match us, hl with | [_], _ => rfl)) (fun cdv Ar outer s H E hcl hr => by
    have hu65 : _ + 65 < cLine := Nat.lt_of_le_of_lt (Nat.add_le_add_left (by omega : 65 ≤ 16 * 2 + 200) _) (by have := hr.un; rw [Nat.add_assoc] at this; exact this)
    have hu := hu_of hr
    exact (dss_cons (ds_set (i := 1) sc_split_row.nd rfl (Or.inl rfl) (d_fn G_words_of hcl (hr.mono (by decide)) (by rfl) T.d_words_of.mg T.d_words_of.kp (da_cons (dv 0) da_nil)))
      (dss_cons (ds_if (d_tcmp op_isN sim_isN (dv 1) d_non (nomark _)) (dss_one (ds_ret d_non)) dss_nil)
      (dss_one (ds_ret (d_tup (da_cons (d_ix (ix_all rfl hu) sim_ix (dv 1) d_int (fun _ _ => rfl)) (da_cons (d_sliceC rfl (dv 1) (do_some d_int) do_none) da_nil)))))))) (fun cdv Ar outer s H E => takes_of rfl rfl rfl rfl) (rd_split_row A)
theorem ok_row_of (T : Txt K mg A) (B1 : ∃ o, base.get? sysModules = some o) (G_is_word : Kp P w K mg base (L2.CX P w) 1 A.f_is_word ["thing"] [] (spD K 1 (sp_is_word A))) (G_is_list : Kp P w K mg base (L2.CX P w) 1 A.f_is_list ["thing", "least", "most"] [] (spD K 3 (sp_is_list A))) (G_words_of : Kp P w K mg base (L2.CX P w) 2 A.f_words_of ["thing"] [] (spD K 1 (sp_words_of A))) (G_NoWord_init : Kp P w K mg base CX0 1 A.f_NoWord_init ["self", "found"] [] (spErr "found" A.C_NoWord)) (G_NoList_init : Kp P w K mg base CX0 1 A.f_NoList_init ["self", "found"] [] (spErr "found" A.C_NoList)) : Kx P w K mg base (L2.CX P w) 3 "row_of" "row_of" s_row_of [.ref A.dt_row_of_0] ([] : List (Str × V)) A.f_row_of ["first", "others"] (spD K 2 (sp_row_of A)) := by
  obtain ⟨fd, F⟩ := T.x_row_of.ex
  exact kx_mk F sc_row_of (fun cdv Ar outer s H E hcl hr => by
    have hu65 : _ + 65 < cLine := Nat.lt_of_le_of_lt (Nat.add_le_add_left (by omega : 65 ≤ 16 * 2 + 200) _) (by have := hr.un; rw [Nat.add_assoc] at this; exact this)
    have hu := hu_of hr
    exact (dss_cons (ds_if (d_tnot (d_test (d_fn G_is_word hcl (hr.mono (by decide)) (by rfl) T.d_is_word.mg T.d_is_word.kp (da_cons (dv 0) da_nil)))) (dss_one (ds_raise T.e_NoWord G_NoWord_init rfl hcl (hr.mono (by decide)) (by rfl) (da_cons (dv 0) da_nil))) dss_nil)
      (dss_cons (ds_if (d_tnot (d_test (d_fn G_is_list hcl (hr.mono (by decide)) (by rfl) T.d_is_list.mg T.d_is_list.kp (da_cons (dv 1) (da_cons d_int (da_cons (d_c (pe_gv (by rfl) T.c__MOST_OTHERS) (fun _ _ => .int _)) da_nil)))))) (dss_one (ds_raise T.e_NoList G_NoList_init rfl hcl (hr.mono (by decide)) (by rfl) (da_cons (dv 1) da_nil))) dss_nil)
      (dss_cons (ds_for (passes_of rfl) rfl (di_any rfl (dv 1)) (dg_name (i := 2) sc_row_of.nd rfl (Or.inl rfl)) (dss_one (ds_if (d_tnot (d_test (d_fn G_is_word hcl (hr.mono (by decide)) (by rfl) T.d_is_word.mg T.d_is_word.kp (da_cons (dv 2) da_nil)))) (dss_one (ds_raise T.e_NoWord G_NoWord_init rfl hcl (hr.mono (by decide)) (by rfl) (da_cons (dv 2) da_nil))) dss_nil)))
      (dss_one (ds_ret (d_bm rfl PySem.F.plainAttrs_str PySem.F.slot_str_join PySem.F.type_str_join (mt_joinA rfl) sim_join d_str (da_cons (d_lst (da_cons (dv 0) (da_star rfl (dv 1) da_nil))) da_nil)))))))) (fun cdv Ar outer s H E => takes_of rfl rfl rfl rfl) (rd_row_of A)
theorem ok__law_cell (T : Txt K mg A) (B1 : ∃ o, base.get? sysModules = some o)  : Kp P w K mg base (L2.CX P w) 1 A.f__law_cell ["_law_script", "_law_k"] [] (spD K 2 (sp__law_cell A)) := by
  obtain ⟨fd, F⟩ := T.d__law_cell.ex
  exact kd_mk F sc__law_cell (F.binds (fun _ _ _ _ _ _ us hl => match us, hl with | [_, _], _ => rfl)) (fun cdv Ar outer s H E hcl hr => by
    have hu65 : _ + 65 < cLine := Nat.lt_of_le_of_lt (Nat.add_le_add_left (by omega : 65 ≤ 16 * 0 + 200) _) (by have := hr.un; rw [Nat.add_assoc] at this; exact this)
    have hu := hu_of hr
    exact (dss_cons (ds_if (d_tcmp op_lt sim_lt (dv 1) (d_callB (call_lenA rfl) sim_len (by rfl) T.z_len (by decide +kernel) (da_cons (dv 0) da_nil)) (nomark _)) (dss_one (ds_ret (d_ix (ix_all rfl hu) sim_ix (dv 0) (dv 1) (fun _ _ => rfl)))) dss_nil)
      (dss_one (ds_ret (d_op (op_addA rfl) sim_add (d_op (op_addA rfl) sim_add (d_op (op_mulA rfl) sim_mul d_int (dv 1)) d_int) (d_op op_mod sim_mod (d_callB (cr_sum rfl) sim_sum (by rfl) T.z_sum (by decide +kernel) (da_cons (d_slice rfl (dv 0) do_none (do_some d_int)) da_nil)) d_int)))))) (fun cdv Ar outer s H E => takes_of rfl rfl rfl rfl) (rd__law_cell A)
theorem ok__law_bag (T : Txt K mg A) (B1 : ∃ o, base.get? sysModules = some o)  : Kp P w K mg base (L2.CX P w) 1 A.f__law_bag ["_law_cell_here"] [] (spD K 1 (sp__law_bag A)) := by
  obtain ⟨fd, F⟩ := T.d__law_bag.ex
  exact kd_mk F sc__law_bag (F.binds (fun _ _ _ _ _ _ us hl => match us, hl with | [_], _ => rfl)) (fun cdv Ar outer s H E hcl hr => by
    have hu65 : _ + 65 < cLine := Nat.lt_of_le_of_lt (Nat.add_le_add_left (by omega : 65 ≤ 16 * 0 + 200) _) (by have := hr.un; rw [Nat.add_assoc] at this; exact this)
    have hu := hu_of hr
    exact (dss_one (ds_ret (d_lstC (da_cons (d_callB (call_max2 rfl) sim_max (by rfl) T.z_max (by decide +kernel) (da_cons d_int (da_cons (d_op op_sub sim_sub (dv 0) (d_op op_pow sim_pow d_int d_int)) da_nil))) (da_cons (d_op op_mod sim_mod (dv 0) d_int) (da_cons d_int da_nil))))))) (fun cdv Ar outer s H E => takes_of rfl rfl rfl rfl) (rd__law_bag A)
theorem ok__law_take (T : Txt K mg A) (B1 : ∃ o, base.get? sysModules = some o)  : Kp P w K mg base (L2.CX P w) 1 A.f__law_take ["_law_bag_here", "_law_below"] [] (spD K 2 (sp__law_take A)) := by
  obtain ⟨fd, F⟩ := T.d__law_take.ex
  exact kd_mk F sc__law_take (F.binds (fun _ _ _ _ _ _ us hl => match us, hl with | [_, _], _ => rfl)) (fun cdv Ar outer s H E hcl hr => by
    have hu65 : _ + 65 < cLine := Nat.lt_of_le_of_lt (Nat.add_le_add_left (by omega : 65 ≤ 16 * 0 + 200) _) (by have := hr.un; rw [Nat.add_assoc] at this; exact this)
    have hu := hu_of hr
    exact (dss_cons (ds_if (d_tcmp op_gt sim_gt (d_ix (ix_all rfl hu) sim_ix (dv 0) d_int (fun _ _ => rfl)) d_int (nomark _)) (dss_cons (ds_set (i := 2) sc__law_take.nd rfl (Or.inl rfl) (d_op op_mod sim_mod (d_ix (ix_all rfl hu) sim_ix (dv 0) d_int (fun _ _ => rfl)) (dv 1)))
      (dss_cons (ds_asg (d_op op_fdivW sim_fdiv (d_ix (ix_all rfl hu) sim_ix (dv 0) d_int (fun _ _ => rfl)) (dv 1)) (dg_sub hu (dv 0) d_int))
      (dss_one (ds_ret (dv 2))))) dss_nil)
      (dss_cons (ds_asg (d_op (op_addA rfl) sim_add (d_ix (ix_all rfl hu) sim_ix (dv 0) d_int (fun _ _ => rfl)) d_int) (dg_sub hu (dv 0) d_int))
      (dss_cons (ds_set (i := 3) sc__law_take.nd rfl (Or.inl rfl) (d_op op_mod sim_mod (d_op op_pow sim_pow (d_op (op_addA rfl) sim_add (d_op (op_addA rfl) sim_add (d_ix (ix_all rfl hu) sim_ix (dv 0) d_int (fun _ _ => rfl)) (d_op (op_mulA rfl) sim_mul d_int (d_ix (ix_all rfl hu) sim_ix (dv 0) d_int (fun _ _ => rfl)))) d_int) d_int) d_int))
      (dss_cons (ds_set (i := 3) sc__law_take.nd rfl (Or.inl rfl) (d_op op_mod sim_mod (d_op op_pow sim_pow (d_op (op_addA rfl) sim_add (dv 3) (d_op (op_mulA rfl) sim_mul d_int (d_ix (ix_all rfl hu) sim_ix (dv 0) d_int (fun _ _ => rfl)))) d_int) d_int))
      (dss_one (ds_ret (d_op op_mod sim_mod (d_op op_fdivW sim_fdiv (dv 3) d_int) (dv 1))))))))) (fun cdv Ar outer s H E => takes_of rfl rfl rfl rfl) (rd__law_take A)
theorem ok__law_signs (T : Txt K mg A) (B1 : ∃ o, base.get? sysModules = some o)  : Kp P w K mg base (L2.CX P w) 1 A.f__law_signs [] [] (spD K 0 (sp__law_signs A)) := by
  obtain ⟨fd, F⟩ := T.d__law_signs.ex
  exact kd_mk F sc__law_signs (F.binds (fun _ _ _ _ _ _ us hl => match us, hl with | [], _ => rfl)) (fun cdv Ar outer s H E hcl hr => by
    have hu65 : _ + 65 < cLine := Nat.lt_of_le_of_lt (Nat.add_le_add_left (by omega : 65 ≤ 16 * 0 + 200) _) (by have := hr.un; rw [Nat.add_assoc] at this; exact this)
    have hu := hu_of hr
    exact (dss_cons (ds_set (i := 0) sc__law_signs.nd rfl (Or.inl rfl) d_str)
      (dss_one (ds_ret (d_op (op_addA rfl) sim_add (d_op (op_addA rfl) sim_add (dv 0) (d_bm0 rfl PySem.F.plainAttrs_str PySem.F.slot_str_upper PySem.F.type_str_upper mt_upper sim_upper (dv 0))) d_str))))) (fun cdv Ar outer s H E => takes_of rfl rfl rfl rfl) (rd__law_signs A)
theorem ok__law_word (T : Txt K mg A) (B1 : ∃ o, base.get? sysModules = some o) (G__law_signs : Kp P w K mg base (L2.CX P w) 1 A.f__law_signs [] [] (spD K 0 (sp__law_signs A))) (G__law_take : Kp P w K mg base (L2.CX P w) 1 A.f__law_take ["_law_bag_here", "_law_below"] [] (spD K 2 (sp__law_take A))) : Kp P w K mg base (L2.CX P w) 2 A.f__law_word ["_law_bag_here"] [] (spD K 1 (sp__law_word A)) := by
  obtain ⟨fd, F⟩ := T.d__law_word.ex
  exact kd_mk F sc__law_word (F.binds (fun _ _ _ _ _ _ us hl => match us, hl with | [_], _ => rfl)) (fun cdv Ar outer s H E hcl hr => by
    have hu65 : _ + 65 < cLine := Nat.lt_of_le_of_lt (Nat.add_le_add_left (by omega : 65 ≤ 16 * 1 + 200) _) (by have := hr.un; rw [Nat.add_assoc] at this; exact this)
    have hu := hu_of hr
    exact (dss_cons (ds_set (i := 1) sc__law_word.nd rfl (Or.inr rfl) (d_fn0 G__law_signs hcl (hr.mono (by decide)) (by rfl) T.d__law_signs.mg T.d__law_signs.kp))
      (dss_cons (ds_set (i := 2) sc__law_word.nd rfl (Or.inl rfl) (d_op (op_addA rfl) sim_add d_int (d_ix (ix_all rfl hu) sim_ix (d_lst (da_cons d_int (da_cons (d_fn G__law_take hcl (hr.mono (by decide)) (by rfl) T.d__law_take.mg T.d__law_take.kp (da_cons (dv 0) (da_cons d_int da_nil))) (da_cons (d_fn G__law_take hcl (hr.mono (by decide)) (by rfl) T.d__law_take.mg T.d__law_take.kp (da_cons (dv 0) (da_cons d_int da_nil))) da_nil)))) (d_fn G__law_take hcl (hr.mono (by decide)) (by rfl) T.d__law_take.mg T.d__law_take.kp (da_cons (dv 0) (da_cons d_int da_nil))) (fun _ _ => rfl))))
      (dss_one (ds_ret (d_bm rfl PySem.F.plainAttrs_str PySem.F.slot_str_join PySem.F.type_str_join (mt_joinA rfl) sim_join d_str (da_cons (d_lc (own := [("_law_k", 3)]) (by rfl) sc__law_word.nd (di_rng1 (by rfl) T.z_range (da_cons (dv 2) da_nil)) (blkOk_by (own := [("_law_k", 3)]) (N := ["_law_bag_here", "_law_signs_here", "_law_size", "_law_k"]) (sc := defScope s__law_word) (by decide +kernel)) (fun _ _ _ _ _ => (dg_name (i := 3) sc__law_word.nd rfl (Or.inl rfl))) gw1 (fun _ _ _ _ _ => dps_nil) (fun _ _ _ _ _ => (d_ix (ix_all rfl hu) sim_ix (dv 1) (d_fn G__law_take hcl (hr.mono (by decide)) (by rfl) T.d__law_take.mg T.d__law_take.kp (da_cons (dv 0) (da_cons (d_callB (call_lenA rfl) sim_len (by rfl) T.z_len (by decide +kernel) (da_cons (dv 1) da_nil)) da_nil))) (fun _ _ => rfl)))) da_nil))))))) (fun cdv Ar outer s H E => takes_of rfl rfl rfl rfl) (rd__law_word A)
theorem ok__law_is_word (T : Txt K mg A) (B1 : ∃ o, base.get? sysModules = some o)  : Kp P w K mg base (L2.CX P w) 1 A.f__law_is_word ["_law_thing"] [] (spD K 1 (sp__law_is_word A)) := by
  obtain ⟨fd, F⟩ := T.d__law_is_word.ex
  exact kd_mk F sc__law_is_word (F.binds (fun _ _ _ _ _ _ us hl => match us, hl with | [_], _ => rfl)) (fun cdv Ar outer s H E hcl hr => by
    have hu65 : _ + 65 < cLine := Nat.lt_of_le_of_lt (Nat.add_le_add_left (by omega : 65 ≤ 16 * 0 + 200) _) (by have := hr.un; rw [Nat.add_assoc] at this; exact this)
    have hu := hu_of hr
    exact (dss_cons (ds_if (DW.dt (dw_or (d_tnot (d_test (d_callB (call_isiBE rfl) (sim_isiE (me := (fun C => C = A.C_NoWord)) (fun C h => by rcases h with rfl <;> first | exact T.e_NoWord.ei)) (by rfl) T.z_isinstance (by decide +kernel) (da_cons (dv 0) (da_cons (d_c (pe_bltn (v := .ty "str") rfl T.z_str (by decide +kernel) rfl) (fun _ _ => .ty _)) da_nil))))) (dw_or1 (d_tcmp (op_eqA rfl hr.units) sim_eq (dv 0) d_str (nomark _))))) (dss_one (ds_ret d_bl)) dss_nil)
      (dss_one (ds_ret (d_cmp (op_emE rfl (Nat.lt_of_le_of_lt (Nat.le_add_right _ 65) hu65)) sim_of (d_lc (own := [("_law_sign", 1)]) (by rfl) sc__law_is_word.nd (di_str (dv 0)) (blkOk_by (own := [("_law_sign", 1)]) (N := ["_law_thing", "_law_sign"]) (sc := defScope s__law_is_word) (by decide +kernel)) (fun _ _ _ _ _ => (dg_name (i := 1) sc__law_is_word.nd rfl (Or.inl rfl))) gw1 (fun _ _ _ _ _ => (dps_one (d_tcmp (op_inA rfl hu65) sim_in (dv 1) d_str rfl))) (fun _ _ _ _ _ => (dv 1))) (d_lst da_nil) (nomark _)))))) (fun cdv Ar outer s H E => takes_of rfl rfl rfl rfl) (rd__law_is_word A)
theorem ok__law_cut (T : Txt K mg A) (B1 : ∃ o, base.get? sysModules = some o) (G__law_is_word : Kp P w K mg base (L2.CX P w) 1 A.f__law_is_word ["_law_thing"] [] (spD K 1 (sp__law_is_word A))) : Kp P w K mg base (L2.CX P w) 2 A.f__law_cut ["_law_thing"] [] (spD K 1 (sp__law_cut A)) := by
  obtain ⟨fd, F⟩ := T.d__law_cut.ex
  exact kd_mk F sc__law_cut (F.binds (fun _ _ _ _ _ _ us hl => match us, hl with | [_], _ => rfl)) (fun cdv Ar outer s H E hcl hr => by
    have hu65 : _ + 65 < cLine := Nat.lt_of_le_of_lt (Nat.add_le_add_left (by omega : 65 ≤ 16 * 1 + 200) _) (by have := hr.un; rw [Nat.add_assoc] at this; exact this)
    have hu := hu_of hr
    exact (dss_cons (ds_if (d_tnot (d_test (d_callB (call_isiBE rfl) (sim_isiE (me := (fun C => C = A.C_NoWord)) (fun C h => by rcases h with rfl <;> first | exact T.e_NoWord.ei)) (by rfl) T.z_isinstance (by decide +kernel) (da_cons (dv 0) (da_cons (d_c (pe_bltn (v := .ty "str") rfl T.z_str (by decide +kernel) rfl) (fun _ _ => .ty _)) da_nil))))) (dss_one (ds_ret d_non)) dss_nil)
      (dss_cons (ds_set (i := 1) sc__law_cut.nd rfl (Or.inl rfl) (d_lstC (da_cons d_str da_nil)))
      (dss_cons (ds_for (passes_of rfl) rfl (di_str (dv 0)) (dg_name (i := 2) sc__law_cut.nd rfl (Or.inl rfl)) (dss_one (ds_if (d_tcmp (op_eqA rfl hr.units) sim_eq (dv 2) d_str (nomark _)) (dss_one (ds_expr (d_bm rfl PySem.F.plainAttrs_list PySem.F.slot_list_append PySem.F.type_list_append mt_append sim_append (dv 1) (da_cons d_str da_nil)))) (dss_one (ds_asg (d_op (op_addA rfl) sim_add (d_ix (ix_all rfl hu) sim_ix (dv 1) (d_un un_neg sim_neg d_int) (fun _ _ => rfl)) (dv 2)) (dg_sub hu (dv 1) (d_un un_neg sim_neg d_int)))))))
      (dss_cons (ds_setLc (i := 3) (own := [("_law_word_here", 4)]) (by rfl) sc__law_cut.nd rfl rfl (sw_true rfl rfl rfl (by decide +kernel)) (di_seq rfl (dv 1)) (blkOk_by (own := [("_law_word_here", 4)]) (N := ["_law_thing", "_law_found", "_law_sign", "_law_bad", "_law_word_here"]) (sc := defScope s__law_cut) (by decide +kernel)) (fun _ _ _ _ _ => (dg_name (i := 4) sc__law_cut.nd rfl (Or.inl rfl))) gw1 (fun _ _ _ _ _ => (dps_one (d_tnot (d_test (d_fn G__law_is_word hcl (hr.mono (by decide)) (by rfl) T.d__law_is_word.mg T.d__law_is_word.kp (da_cons (dv 4) da_nil)))))) (fun _ _ _ _ _ => (dv 4)))
      (dss_one (ds_ret (d_ifE (d_tcmp (op_emE rfl (Nat.lt_of_le_of_lt (Nat.le_add_right _ 65) hu65)) sim_of (dv 3) (d_lst da_nil) (nomark _)) (dv 1) d_non)))))))) (fun cdv Ar outer s H E => takes_of rfl rfl rfl rfl) (rd__law_cut A)
theorem ok__law_odd (T : Txt K mg A) (B1 : ∃ o, base.get? sysModules = some o) (G__law_take : Kp P w K mg base (L2.CX P w) 1 A.f__law_take ["_law_bag_here", "_law_below"] [] (spD K 2 (sp__law_take A))) : Kp P w K mg base (L2.CX P w) 2 A.f__law_odd ["_law_bag_here", "_law_word_here"] [] (spD K 2 (sp__law_odd A)) := by
  obtain ⟨fd, F⟩ := T.d__law_odd.ex
  exact kd_mk F sc__law_odd (F.binds (fun _ _ _ _ _ _ us hl => match us, hl with | [_, _], _ => rfl)) (fun cdv Ar outer s H E hcl hr => by
    have hu65 : _ + 65 < cLine := Nat.lt_of_le_of_lt (Nat.add_le_add_left (by omega : 65 ≤ 16 * 1 + 200) _) (by have := hr.un; rw [Nat.add_assoc] at this; exact this)
    have hu := hu_of hr
    exact (dss_cons (ds_set (i := 2) sc__law_odd.nd rfl (Or.inl rfl) (d_fn G__law_take hcl (hr.mono (by decide)) (by rfl) T.d__law_take.mg T.d__law_take.kp (da_cons (dv 0) (da_cons (d_op (op_addA rfl) sim_add (d_callB (call_lenA rfl) sim_len (by rfl) T.z_len (by decide +kernel) (da_cons (dv 1) da_nil)) d_int) da_nil))))
      (dss_cons (ds_par (i := 3) (j := 4) (by rfl) sc__law_odd.nd rfl rfl (by decide) rfl rfl (da_cons (d_slice rfl (dv 1) do_none (do_some (dv 2))) (da_cons (d_slice rfl (dv 1) (do_some (dv 2)) do_none) da_nil)) (by rfl))
      (dss_cons (ds_set (i := 5) sc__law_odd.nd rfl (Or.inl rfl) (d_lst (da_cons d_str (da_cons (d_op (op_addA rfl) sim_add (d_op (op_addA rfl) sim_add (dv 3) d_str) (dv 4)) (da_cons (d_op (op_addA rfl) sim_add (d_op (op_addA rfl) sim_add (dv 3) d_str) (dv 4)) (da_cons d_non (da_cons d_int (da_cons d_bl (da_cons (d_lstC (da_cons (dv 1) da_nil)) (da_cons (d_tup (da_cons (dv 1) da_nil)) (da_cons d_dK (da_cons d_str da_nil))))))))))))
      (dss_one (ds_ret (d_ix (ix_all rfl hu) sim_ix (dv 5) (d_fn G__law_take hcl (hr.mono (by decide)) (by rfl) T.d__law_take.mg T.d__law_take.kp (da_cons (dv 0) (da_cons d_int da_nil))) (fun _ _ => rfl)))))))) (fun cdv Ar outer s H E => takes_of rfl rfl rfl rfl) (rd__law_odd A)
theorem ok__law_due (T : Txt K mg A) (B1 : ∃ o, base.get? sysModules = some o) (G__law_is_word : Kp P w K mg base (L2.CX P w) 1 A.f__law_is_word ["_law_thing"] [] (spD K 1 (sp__law_is_word A))) : Kp P w K mg base (L2.CX P w) 2 A.f__law_due ["_law_lead", "_law_behind"] [] (spD K 2 (sp__law_due A)) := by
  obtain ⟨fd, F⟩ := T.d__law_due.ex
  exact kd_mk F sc__law_due (F.binds (fun _ _ _ _ _ _ us hl => match us, hl with | [_, _], _ => rfl)) (fun cdv Ar outer s H E hcl hr => by
    have hu65 : _ + 65 < cLine := Nat.lt_of_le_of_lt (Nat.add_le_add_left (by omega : 65 ≤ 16 * 1 + 200) _) (by have := hr.un; rw [Nat.add_assoc] at this; exact this)
    have hu := hu_of hr
    exact (dss_cons (ds_if (d_tnot (d_test (d_fn G__law_is_word hcl (hr.mono (by decide)) (by rfl) T.d__law_is_word.mg T.d__law_is_word.kp (da_cons (dv 0) da_nil)))) (dss_one (ds_ret (d_lst (da_cons d_str (da_cons (dv 0) da_nil))))) dss_nil)
      (dss_cons (ds_if (DW.dt (dw_or (d_tnot (d_test (d_callB (call_isiA rfl) sim_isi2 (by rfl) T.z_isinstance (by decide +kernel) (da_cons (dv 1) (da_cons (d_tup (da_cons (d_c (pe_bltn (v := .ty "list") rfl T.z_list (by decide +kernel) rfl) (fun _ _ => .ty _)) (da_cons (d_c (pe_bltn (v := .ty "tuple") rfl T.z_tuple (by decide +kernel) rfl) (fun _ _ => .ty _)) da_nil))) da_nil))))) (dw_or1 (d_tcmp op_gt sim_gt (d_callB (call_lenA rfl) sim_len (by rfl) T.z_len (by decide +kernel) (da_cons (dv 1) da_nil)) d_int (nomark _))))) (dss_one (ds_ret (d_lst (da_cons d_str (da_cons (dv 1) da_nil))))) dss_nil)
      (dss_cons (ds_setLc (i := 2) (own := [("_law_word_here", 3)]) (by rfl) sc__law_due.nd rfl rfl (sw_true rfl rfl rfl (by decide +kernel)) (di_any rfl (dv 1)) (blkOk_by (own := [("_law_word_here", 3)]) (N := ["_law_lead", "_law_behind", "_law_bad", "_law_word_here", "_law_text"]) (sc := defScope s__law_due) (by decide +kernel)) (fun _ _ _ _ _ => (dg_name (i := 3) sc__law_due.nd rfl (Or.inl rfl))) gw1 (fun _ _ _ _ _ => (dps_one (d_tnot (d_test (d_fn G__law_is_word hcl (hr.mono (by decide)) (by rfl) T.d__law_is_word.mg T.d__law_is_word.kp (da_cons (dv 3) da_nil)))))) (fun _ _ _ _ _ => (dv 3)))
      (dss_cons (ds_if (d_tcmp (op_emN rfl (Nat.lt_of_le_of_lt (Nat.le_add_right _ 65) hu65)) sim_of (dv 2) (d_lst da_nil) (nomark _)) (dss_one (ds_ret (d_lst (da_cons d_str (da_cons (d_ix (ix_all rfl hu) sim_ix (dv 2) d_int (fun _ _ => rfl)) da_nil))))) dss_nil)
      (dss_cons (ds_set (i := 4) sc__law_due.nd rfl (Or.inl rfl) (dv 0))
      (dss_cons (ds_for (passes_of rfl) rfl (di_any rfl (dv 1)) (dg_name (i := 3) sc__law_due.nd rfl (Or.inl rfl)) (dss_one (ds_set (i := 4) sc__law_due.nd rfl (Or.inl rfl) (d_op (op_addA rfl) sim_add (d_op (op_addA rfl) sim_add (dv 4) d_str) (dv 3)))))
      (dss_one (ds_ret (d_lst (da_cons d_str (da_cons (dv 4) da_nil)))))))))))) (fun cdv Ar outer s H E => takes_of rfl rfl rfl rfl) (rd__law_due A)
theorem ok__law_asked (T : Txt K mg A) (B1 : ∃ o, base.get? sysModules = some o) (G_row_of : Kx P w K mg base (L2.CX P w) 3 "row_of" "row_of" s_row_of [.ref A.dt_row_of_0] ([] : List (Str × V)) A.f_row_of ["first", "others"] (spD K 2 (sp_row_of A))) : Kp P w K mg base (L2.CX P w) 4 A.f__law_asked ["_law_lead", "_law_behind"] [] (spD K 2 (sp__law_asked A)) := by
  obtain ⟨fd, F⟩ := T.d__law_asked.ex
  exact kd_mk F sc__law_asked (F.binds (fun _ _ _ _ _ _ us hl => match us, hl with | [_, _], _ => rfl)) (fun cdv Ar outer s H E hcl hr => by
    have hu65 : _ + 65 < cLine := Nat.lt_of_le_of_lt (Nat.add_le_add_left (by omega : 65 ≤ 16 * 3 + 200) _) (by have := hr.un; rw [Nat.add_assoc] at this; exact this)
    have hu := hu_of hr
    exact (dss_one (ds_tryT (mt_ok T) rfl rfl rfl sc__law_asked.nd (fun pn xe po => (dss_one (ds_ret (d_lst (da_cons d_str (da_cons (d_fnD CRL.nil G_row_of hcl (hr.mono (by decide)) (fun _ F => kb_row_of_2 F) (by rfl) T.x_row_of.mg T.x_row_of.kp (da_cons (dv 0) (da_cons (dv 1) da_nil))) da_nil)))))) (h_as (i := 2) rfl rfl ⟨by rfl, by decide, Or.inl T.e_NoWord.mg⟩ (fun a C dd oe pn hz hf => (dss_one (ds_ret (d_lst (da_cons d_str (da_cons (d_xf rfl T.e_NoWord.xf T.e_NoWord.nof hz hf (dv 2)) da_nil)))))) (h_as (i := 2) rfl rfl ⟨by rfl, by decide, Or.inl T.e_NoList.mg⟩ (fun a C dd oe pn hz hf => (dss_one (ds_ret (d_lst (da_cons d_str (da_cons (d_xf rfl T.e_NoList.xf T.e_NoList.nof hz hf (dv 2)) da_nil)))))) h_never))))) (fun cdv Ar outer s H E => takes_of rfl rfl rfl rfl) (rd__law_asked A)
theorem ok__law_read_right (T : Txt K mg A) (B1 : ∃ o, base.get? sysModules = some o) (G__law_cut : Kp P w K mg base (L2.CX P w) 2 A.f__law_cut ["_law_thing"] [] (spD K 1 (sp__law_cut A))) (G_words_of : Kp P w K mg base (L2.CX P w) 2 A.f_words_of ["thing"] [] (spD K 1 (sp_words_of A))) (G_split_row : Kp P w K mg base (L2.CX P w) 3 A.f_split_row ["thing"] [] (spD K 1 (sp_split_row A))) (G_is_word : Kp P w K mg base (L2.CX P w) 1 A.f_is_word ["thing"] [] (spD K 1 (sp_is_word A))) (G__law_is_word : Kp P w K mg base (L2.CX P w) 1 A.f__law_is_word ["_law_thing"] [] (spD K 1 (sp__law_is_word A))) : Kp P w K mg base (L2.CX P w) 4 A.f__law_read_right ["_law_thing"] [] (spD K 1 (sp__law_read_right A)) := by
  obtain ⟨fd, F⟩ := T.d__law_read_right.ex
  exact kd_mk F sc__law_read_right (F.binds (fun _ _ _ _ _ _ us hl => match us, hl with | [_], _ => rfl)) (fun cdv Ar outer s H E hcl hr => by
    have hu65 : _ + 65 < cLine := Nat.lt_of_le_of_lt (Nat.add_le_add_left (by omega : 65 ≤ 16 * 3 + 200) _) (by have := hr.un; rw [Nat.add_assoc] at this; exact this)
    have hu := hu_of hr
    exact (dss_cons (ds_set (i := 1) sc__law_read_right.nd rfl (Or.inl rfl) (d_fn G__law_cut hcl (hr.mono (by decide)) (by rfl) T.d__law_cut.mg T.d__law_cut.kp (da_cons (dv 0) da_nil)))
      (dss_cons (ds_set (i := 2) sc__law_read_right.nd rfl (Or.inl rfl) (d_ifE (d_tcmp op_isN sim_isN (dv 1) d_non (nomark _)) d_non (d_tup (da_cons (d_ix (ix_all rfl hu) sim_ix (dv 1) d_int (fun _ _ => rfl)) (da_cons (d_slice rfl (dv 1) (do_some d_int) do_none) da_nil)))))
      (dss_cons (ds_for (passes_of rfl) rfl (di_rng1 (by rfl) T.z_range (da_cons d_int da_nil)) (dg_name (i := 3) sc__law_read_right.nd rfl (Or.inl rfl)) (dss_cons (ds_par (i := 4) (j := 5) (by rfl) sc__law_read_right.nd rfl rfl (by decide) rfl rfl (da_cons (d_fn G_words_of hcl (hr.mono (by decide)) (by rfl) T.d_words_of.mg T.d_words_of.kp (da_cons (dv 0) da_nil)) (da_cons (d_fn G_split_row hcl (hr.mono (by decide)) (by rfl) T.d_split_row.mg T.d_split_row.kp (da_cons (dv 0) da_nil)) da_nil)) (by rfl))
      (dss_cons (ds_if (d_tcmp (op_neA rfl hr.units) sim_ne (d_callB (call_showW rfl B1 hcl hr) sim_reprQ (by rfl) T.z_repr (by decide +kernel) (da_cons (d_lst (da_cons (dv 4) (da_cons (dv 5) (da_cons (d_fn G_is_word hcl (hr.mono (by decide)) (by rfl) T.d_is_word.mg T.d_is_word.kp (da_cons (dv 0) da_nil)) da_nil)))) da_nil)) (d_callB (call_showW rfl B1 hcl hr) sim_reprQ (by rfl) T.z_repr (by decide +kernel) (da_cons (d_lst (da_cons (dv 1) (da_cons (dv 2) (da_cons (d_fn G__law_is_word hcl (hr.mono (by decide)) (by rfl) T.d__law_is_word.mg T.d__law_is_word.kp (da_cons (dv 0) da_nil)) da_nil)))) da_nil)) (nomark _)) (dss_one (ds_ret d_bl)) dss_nil)
      (dss_one (ds_if (d_tcmp op_notN sim_notN (dv 4) d_non (nomark _)) (dss_cons (ds_expr (d_bm rfl PySem.F.plainAttrs_list PySem.F.slot_list_append PySem.F.type_list_append mt_append sim_append (dv 4) (da_cons d_str da_nil)))
      (dss_one (ds_expr (d_bm rfl PySem.F.plainAttrs_list PySem.F.slot_list_append PySem.F.type_list_append mt_append sim_append (d_ix (ix_all rfl hu) sim_ix (dv 5) d_int (fun _ _ => rfl)) (da_cons d_str da_nil))))) dss_nil)))))
      (dss_one (ds_ret d_bl)))))) (fun cdv Ar outer s H E => takes_of rfl rfl rfl rfl) (rd__law_read_right A)
theorem ok__law_spoilt (T : Txt K mg A) (B1 : ∃ o, base.get? sysModules = some o) (G__law_take : Kp P w K mg base (L2.CX P w) 1 A.f__law_take ["_law_bag_here", "_law_below"] [] (spD K 2 (sp__law_take A))) (G__law_odd : Kp P w K mg base (L2.CX P w) 2 A.f__law_odd ["_law_bag_here", "_law_word_here"] [] (spD K 2 (sp__law_odd A))) : Kp P w K mg base (L2.CX P w) 3 A.f__law_spoilt ["_law_bag_here", "_law_things"] [] (spD K 2 (sp__law_spoilt A)) := by
  obtain ⟨fd, F⟩ := T.d__law_spoilt.ex
  exact kd_mk F sc__law_spoilt (F.binds (fun _ _ _ _ _ _ us hl => match us, hl with | [_, _], _ => rfl)) (fun cdv Ar outer s H E hcl hr => by
    have hu65 : _ + 65 < cLine := Nat.lt_of_le_of_lt (Nat.add_le_add_left (by omega : 65 ≤ 16 * 2 + 200) _) (by have := hr.un; rw [Nat.add_assoc] at this; exact this)
    have hu := hu_of hr
    exact (dss_cons (ds_set (i := 2) sc__law_spoilt.nd rfl (Or.inl rfl) (d_fn G__law_take hcl (hr.mono (by decide)) (by rfl) T.d__law_take.mg T.d__law_take.kp (da_cons (dv 0) (da_cons d_int da_nil))))
      (dss_one (ds_if (d_tcmp (op_eqA rfl hr.units) sim_eq (dv 2) d_int (nomark _)) (dss_one (ds_asg (d_fn G__law_odd hcl (hr.mono (by decide)) (by rfl) T.d__law_odd.mg T.d__law_odd.kp (da_cons (dv 0) (da_cons d_str da_nil))) (dg_sub hu (dv 1) d_int))) (dss_one (ds_if (d_tcmp (op_eqA rfl hr.units) sim_eq (dv 2) d_int (nomark _)) (dss_cons (ds_set (i := 3) sc__law_spoilt.nd rfl (Or.inl rfl) (d_lst (da_cons d_non (da_cons d_int (da_cons d_str (da_cons d_dK (da_cons (d_op (op_mulA rfl) sim_mulC (d_lst (da_cons d_str da_nil)) d_int) (da_cons (d_op (op_mulA rfl) sim_mul (d_tup (da_cons d_str da_nil)) d_int) (da_cons (d_op (op_mulA rfl) sim_mulC (d_lst (da_cons d_str (da_cons d_str da_nil))) d_int) (da_cons (d_dis (dpp_cons d_str d_str dpp_nil) (by rfl) (by rfl) (fun z => by cases z) (by decide)) da_nil))))))))))
      (dss_one (ds_asg (d_ix (ix_all rfl hu) sim_ix (dv 3) (d_fn G__law_take hcl (hr.mono (by decide)) (by rfl) T.d__law_take.mg T.d__law_take.kp (da_cons (dv 0) (da_cons d_int da_nil))) (fun _ _ => rfl)) (dg_sub hu (dv 1) d_int)))) (dss_one (ds_if (DW.dt (dw_and (d_test (d_callB (call_isiA rfl) sim_isi (by rfl) T.z_isinstance (by decide +kernel) (da_cons (d_ix (ix_all rfl hu) sim_ix (dv 1) d_int (fun _ _ => rfl)) (da_cons (d_c (pe_bltn (v := .ty "list") rfl T.z_list (by decide +kernel) rfl) (fun _ _ => .ty _)) da_nil)))) (dw_and1 (d_tcmp (op_emN rfl (Nat.lt_of_le_of_lt (Nat.le_add_right _ 65) hu65)) sim_of (d_ix (ix_all rfl hu) sim_ix (dv 1) d_int (fun _ _ => rfl)) (d_lst da_nil) (nomark _))))) (dss_cons (ds_set (i := 4) sc__law_spoilt.nd rfl (Or.inl rfl) (d_fn G__law_take hcl (hr.mono (by decide)) (by rfl) T.d__law_take.mg T.d__law_take.kp (da_cons (dv 0) (da_cons (d_callB (call_lenA rfl) sim_len (by rfl) T.z_len (by decide +kernel) (da_cons (d_ix (ix_all rfl hu) sim_ix (dv 1) d_int (fun _ _ => rfl)) da_nil)) da_nil))))
      (dss_one (ds_asg (d_fn G__law_odd hcl (hr.mono (by decide)) (by rfl) T.d__law_odd.mg T.d__law_odd.kp (da_cons (dv 0) (da_cons (d_callTy (call_strW rfl B1 hcl hr) sim_strQ (by rfl) T.z_str (by decide +kernel) (da_cons (d_ix (ix_all rfl hu) sim_ix (d_ix (ix_all rfl hu) sim_ix (dv 1) d_int (fun _ _ => rfl)) (dv 4) (fun _ _ => rfl)) da_nil)) da_nil))) (dg_sub hu (d_ix (ix_all rfl hu) sim_ix (dv 1) d_int (fun _ _ => rfl)) (dv 4))))) dss_nil)))))))) (fun cdv Ar outer s H E => takes_of rfl rfl rfl rfl) (rd__law_spoilt A)
theorem ok_law (T : Txt K mg A) (B1 : ∃ o, base.get? sysModules = some o) (G__law_cell : Kp P w K mg base (L2.CX P w) 1 A.f__law_cell ["_law_script", "_law_k"] [] (spD K 2 (sp__law_cell A))) (G__law_bag : Kp P w K mg base (L2.CX P w) 1 A.f__law_bag ["_law_cell_here"] [] (spD K 1 (sp__law_bag A))) (G__law_take : Kp P w K mg base (L2.CX P w) 1 A.f__law_take ["_law_bag_here", "_law_below"] [] (spD K 2 (sp__law_take A))) (G__law_word : Kp P w K mg base (L2.CX P w) 2 A.f__law_word ["_law_bag_here"] [] (spD K 1 (sp__law_word A))) (G__law_spoilt : Kp P w K mg base (L2.CX P w) 3 A.f__law_spoilt ["_law_bag_here", "_law_things"] [] (spD K 2 (sp__law_spoilt A))) (G__law_due : Kp P w K mg base (L2.CX P w) 2 A.f__law_due ["_law_lead", "_law_behind"] [] (spD K 2 (sp__law_due A))) (G__law_asked : Kp P w K mg base (L2.CX P w) 4 A.f__law_asked ["_law_lead", "_law_behind"] [] (spD K 2 (sp__law_asked A))) (G__law_odd : Kp P w K mg base (L2.CX P w) 2 A.f__law_odd ["_law_bag_here", "_law_word_here"] [] (spD K 2 (sp__law_odd A))) (G__law_read_right : Kp P w K mg base (L2.CX P w) 4 A.f__law_read_right ["_law_thing"] [] (spD K 1 (sp__law_read_right A))) (G_row_of : Kx P w K mg base (L2.CX P w) 3 "row_of" "row_of" s_row_of [.ref A.dt_row_of_0] ([] : List (Str × V)) A.f_row_of ["first", "others"] (spD K 2 (sp_row_of A))) (G_NoWord_init : Kp P w K mg base CX0 1 A.f_NoWord_init ["self", "found"] [] (spErr "found" A.C_NoWord)) {fd : FuncData} (F : Fun K "law" "law" s_law A.f_law fd) : FnG P w K mg base CX0 5 A.f_law fd ["_law_script"] (fun vs H Q _ => spD K 1 (sp_law A) vs H Q E0) :=
  kl_mk F sc_law (fun cdv Ar outer s H E hcl hr => by
    have hu65 : _ + 65 < cLine := Nat.lt_of_le_of_lt (Nat.add_le_add_left (by omega : 65 ≤ 16 * 4 + 200) _) (by have := hr.un; rw [Nat.add_assoc] at this; exact this)
    have hu := hu_of hr
    exact (dss_cons (ds_for (passes_of rfl) rfl (di_rng1 (by rfl) T.z_range (da_cons (d_callB (call_max2 rfl) sim_max (by rfl) T.z_max (by decide +kernel) (da_cons d_int (da_cons (d_callB (call_min2 rfl) sim_min (by rfl) T.z_min (by decide +kernel) (da_cons d_int (da_cons (d_callB (call_lenA rfl) sim_len (by rfl) T.z_len (by decide +kernel) (da_cons (dv 0) da_nil)) da_nil))) da_nil))) da_nil)) (dg_name (i := 1) sc_law.nd rfl (Or.inl rfl)) (dss_cons (ds_set (i := 2) sc_law.nd rfl (Or.inr rfl) (d_fn G__law_bag hcl (hr.mono (by decide)) (by rfl) T.d__law_bag.mg T.d__law_bag.kp (da_cons (d_fn G__law_cell hcl (hr.mono (by decide)) (by rfl) T.d__law_cell.mg T.d__law_cell.kp (da_cons (dv 0) (da_cons (dv 1) da_nil))) da_nil)))
      (dss_cons (ds_set (i := 3) sc_law.nd rfl (Or.inl rfl) (d_callB (call_max2 rfl) sim_max (by rfl) T.z_max (by decide +kernel) (da_cons d_int (da_cons (d_op op_sub sim_sub (d_fn G__law_take hcl (hr.mono (by decide)) (by rfl) T.d__law_take.mg T.d__law_take.kp (da_cons (dv 2) (da_cons d_int da_nil))) d_int) da_nil))))
      (dss_cons (ds_set (i := 4) sc_law.nd rfl (Or.inl rfl) (d_ix (ix_all rfl hu) sim_ix (d_lst (da_cons d_int (da_cons (d_fn G__law_take hcl (hr.mono (by decide)) (by rfl) T.d__law_take.mg T.d__law_take.kp (da_cons (dv 2) (da_cons d_int da_nil))) (da_cons (d_fn G__law_take hcl (hr.mono (by decide)) (by rfl) T.d__law_take.mg T.d__law_take.kp (da_cons (dv 2) (da_cons d_int da_nil))) da_nil)))) (d_fn G__law_take hcl (hr.mono (by decide)) (by rfl) T.d__law_take.mg T.d__law_take.kp (da_cons (dv 2) (da_cons d_int da_nil))) (fun _ _ => rfl)))
      (dss_cons (ds_set (i := 5) sc_law.nd rfl (Or.inl rfl) (d_lstC (da_cons (d_fn G__law_word hcl (hr.mono (by decide)) (by rfl) T.d__law_word.mg T.d__law_word.kp (da_cons (dv 2) da_nil)) (da_cons (d_lcC (own := [("_law_j", 6)]) (by rfl) sc_law.nd (di_rng1 (by rfl) T.z_range (da_cons (dv 4) da_nil)) (blkOk_by (own := [("_law_j", 6)]) (N := ["_law_script", "_law_k", "_law_bag_here", "_law_spoils", "_law_size", "_law_things", "_law_j", "_law_turn", "_law_kept", "_law_due_here", "_law_found", "_law_text", "_law_at", "_law_bent", "_law_lone"]) (sc := defScope s_law) (by decide +kernel)) (fun _ _ _ _ _ => (dg_name (i := 6) sc_law.nd rfl (Or.inl rfl))) gw1 (fun _ _ _ _ _ => dps_nil) (fun _ _ _ _ _ => (d_fn G__law_word hcl (hr.mono (by decide)) (by rfl) T.d__law_word.mg T.d__law_word.kp (da_cons (dv 2) da_nil)))) da_nil))))
      (dss_cons (ds_for (passes_of rfl) rfl (di_rng1 (by rfl) T.z_range (da_cons (dv 3) da_nil)) (dg_name (i := 7) sc_law.nd rfl (Or.inl rfl)) (dss_one (ds_expr (d_fn G__law_spoilt hcl (hr.mono (by decide)) (by rfl) T.d__law_spoilt.mg T.d__law_spoilt.kp (da_cons (dv 2) (da_cons (dv 5) da_nil))))))
      (dss_cons (ds_if (DW.dt (dw_and (d_test (d_callB (call_isiA rfl) sim_isi (by rfl) T.z_isinstance (by decide +kernel) (da_cons (d_ix (ix_all rfl hu) sim_ix (dv 5) d_int (fun _ _ => rfl)) (da_cons (d_c (pe_bltn (v := .ty "list") rfl T.z_list (by decide +kernel) rfl) (fun _ _ => .ty _)) da_nil)))) (dw_and1 (d_tcmp (op_eqA rfl hr.units) sim_eq (d_fn G__law_take hcl (hr.mono (by decide)) (by rfl) T.d__law_take.mg T.d__law_take.kp (da_cons (dv 2) (da_cons d_int da_nil))) d_int (nomark _))))) (dss_one (ds_asg (d_callTy (call_tupleA rfl) sim_tuple (by rfl) T.z_tuple (by decide +kernel) (da_cons (d_ix (ix_all rfl hu) sim_ix (dv 5) d_int (fun _ _ => rfl)) da_nil)) (dg_sub hu (dv 5) d_int))) dss_nil)
      (dss_cons (ds_par (i := 8) (j := 9) (by rfl) sc_law.nd rfl rfl (by decide) rfl rfl (da_cons (d_callB (call_showW rfl B1 hcl hr) sim_reprQ (by rfl) T.z_repr (by decide +kernel) (da_cons (dv 5) da_nil)) (da_cons (d_fn G__law_due hcl (hr.mono (by decide)) (by rfl) T.d__law_due.mg T.d__law_due.kp (da_cons (d_ix (ix_all rfl hu) sim_ix (dv 5) d_int (fun _ _ => rfl)) (da_cons (d_ix (ix_all rfl hu) sim_ix (dv 5) d_int (fun _ _ => rfl)) da_nil))) da_nil)) (by rfl))
      (dss_cons (ds_set (i := 10) sc_law.nd rfl (Or.inl rfl) (d_fn G__law_asked hcl (hr.mono (by decide)) (by rfl) T.d__law_asked.mg T.d__law_asked.kp (da_cons (d_ix (ix_all rfl hu) sim_ix (dv 5) d_int (fun _ _ => rfl)) (da_cons (d_ix (ix_all rfl hu) sim_ix (dv 5) d_int (fun _ _ => rfl)) da_nil))))
      (dss_cons (ds_if (DW.dt (dw_or (d_tcmp (op_neA rfl hr.units) sim_ne (d_callB (call_showW rfl B1 hcl hr) sim_reprQ (by rfl) T.z_repr (by decide +kernel) (da_cons (dv 10) da_nil)) (d_callB (call_showW rfl B1 hcl hr) sim_reprQ (by rfl) T.z_repr (by decide +kernel) (da_cons (dv 9) da_nil)) (nomark _)) (dw_or (d_tcmp (op_neA rfl hr.units) sim_ne (d_callB (call_showW rfl B1 hcl hr) sim_reprQ (by rfl) T.z_repr (by decide +kernel) (da_cons (dv 5) da_nil)) (dv 8) (nomark _)) (dw_or1 (d_tcmp (op_neA rfl hr.units) sim_ne (d_callB (call_showW rfl B1 hcl hr) sim_reprQ (by rfl) T.z_repr (by decide +kernel) (da_cons (d_fn G__law_asked hcl (hr.mono (by decide)) (by rfl) T.d__law_asked.mg T.d__law_asked.kp (da_cons (d_ix (ix_all rfl hu) sim_ix (dv 5) d_int (fun _ _ => rfl)) (da_cons (d_ix (ix_all rfl hu) sim_ix (dv 5) d_int (fun _ _ => rfl)) da_nil))) da_nil)) (d_callB (call_showW rfl B1 hcl hr) sim_reprQ (by rfl) T.z_repr (by decide +kernel) (da_cons (dv 9) da_nil)) (nomark _)))))) (dss_one (ds_ret d_bl)) dss_nil)
      (dss_cons (ds_if (DW.dt (dw_and (d_tcmp (op_neA rfl hr.units) sim_ne (d_ix (ix_all rfl hu) sim_ix (dv 9) d_int (fun _ _ => rfl)) d_str (nomark _)) (dw_and1 (d_test (d_callB (call_isiA rfl) sim_isi (by rfl) T.z_isinstance (by decide +kernel) (da_cons (d_ix (ix_all rfl hu) sim_ix (dv 9) d_int (fun _ _ => rfl)) (da_cons (d_c (pe_bltn (v := .ty "list") rfl T.z_list (by decide +kernel) rfl) (fun _ _ => .ty _)) da_nil))))))) (dss_cons (ds_expr (d_bm rfl PySem.F.plainAttrs_list PySem.F.slot_list_append PySem.F.type_list_append mt_append sim_append (d_ix (ix_all rfl hu) sim_ix (dv 9) d_int (fun _ _ => rfl)) (da_cons d_str da_nil)))
      (dss_one (ds_if (d_tcmp (op_neA rfl hr.units) sim_ne (d_callB (call_showW rfl B1 hcl hr) sim_reprQ (by rfl) T.z_repr (by decide +kernel) (da_cons (dv 10) da_nil)) (d_callB (call_showW rfl B1 hcl hr) sim_reprQ (by rfl) T.z_repr (by decide +kernel) (da_cons (dv 9) da_nil)) (nomark _)) (dss_one (ds_ret d_bl)) dss_nil))) dss_nil)
      (dss_cons (ds_set (i := 11) sc_law.nd rfl (Or.inl rfl) (d_ifE (d_tcmp (op_eqA rfl hr.units) sim_eq (d_ix (ix_all rfl hu) sim_ix (dv 9) d_int (fun _ _ => rfl)) d_str (nomark _)) (d_ix (ix_all rfl hu) sim_ix (dv 9) d_int (fun _ _ => rfl)) (d_fn G__law_odd hcl (hr.mono (by decide)) (by rfl) T.d__law_odd.mg T.d__law_odd.kp (da_cons (dv 2) (da_cons (d_op (op_addA rfl) sim_add (d_fn G__law_word hcl (hr.mono (by decide)) (by rfl) T.d__law_word.mg T.d__law_word.kp (da_cons (dv 2) da_nil)) d_str) da_nil)))))
      (dss_cons (ds_set (i := 12) sc_law.nd rfl (Or.inl rfl) (d_ifE (d_test (d_callB (call_isiA rfl) sim_isi (by rfl) T.z_isinstance (by decide +kernel) (da_cons (dv 11) (da_cons (d_c (pe_bltn (v := .ty "str") rfl T.z_str (by decide +kernel) rfl) (fun _ _ => .ty _)) da_nil)))) (d_fn G__law_take hcl (hr.mono (by decide)) (by rfl) T.d__law_take.mg T.d__law_take.kp (da_cons (dv 2) (da_cons (d_op (op_addA rfl) sim_add (d_callB (call_lenA rfl) sim_len (by rfl) T.z_len (by decide +kernel) (da_cons (dv 11) da_nil)) d_int) da_nil))) d_int))
      (dss_cons (ds_set (i := 13) sc_law.nd rfl (Or.inl rfl) (d_ifE (d_test (d_callB (call_isiA rfl) sim_isi (by rfl) T.z_isinstance (by decide +kernel) (da_cons (dv 11) (da_cons (d_c (pe_bltn (v := .ty "str") rfl T.z_str (by decide +kernel) rfl) (fun _ _ => .ty _)) da_nil)))) (d_op (op_addA rfl) sim_add (d_op (op_addA rfl) sim_add (d_slice rfl (dv 11) do_none (do_some (dv 12))) (d_ix (ix_all rfl hu) sim_ix (d_lst (da_cons d_str (da_cons d_str (da_cons d_str da_nil)))) (d_fn G__law_take hcl (hr.mono (by decide)) (by rfl) T.d__law_take.mg T.d__law_take.kp (da_cons (dv 2) (da_cons d_int da_nil))) (fun _ _ => rfl))) (d_slice rfl (dv 11) (do_some (dv 12)) do_none)) (dv 11)))
      (dss_cons (ds_if (DW.dt (dw_or (d_tnot (d_test (d_fn G__law_read_right hcl (hr.mono (by decide)) (by rfl) T.d__law_read_right.mg T.d__law_read_right.kp (da_cons (dv 11) da_nil)))) (dw_or1 (d_tnot (d_test (d_fn G__law_read_right hcl (hr.mono (by decide)) (by rfl) T.d__law_read_right.mg T.d__law_read_right.kp (da_cons (dv 13) da_nil))))))) (dss_one (ds_ret d_bl)) dss_nil)
      (dss_cons (ds_if (d_tnot (d_test (d_fn G__law_read_right hcl (hr.mono (by decide)) (by rfl) T.d__law_read_right.mg T.d__law_read_right.kp (da_cons (d_ix (ix_all rfl hu) sim_ix (d_lst (da_cons d_non (da_cons (d_err T.e_NoWord G_NoWord_init hcl (hr.mono (by decide)) (by rfl) (da_cons d_str da_nil)) (da_cons (d_lst (da_cons d_str da_nil)) (da_cons d_dK da_nil))))) (d_op op_mod sim_mod (dv 1) d_int) (fun _ _ => rfl)) da_nil)))) (dss_one (ds_ret d_bl)) dss_nil)
      (dss_cons (ds_set (i := 14) sc_law.nd rfl (Or.inl rfl) (d_op (op_mulB rfl) sim_mulS (d_fn G__law_word hcl (hr.mono (by decide)) (by rfl) T.d__law_word.mg T.d__law_word.kp (da_cons (dv 2) da_nil)) (d_op (op_addA rfl) sim_add d_int (d_fn G__law_take hcl (hr.mono (by decide)) (by rfl) T.d__law_take.mg T.d__law_take.kp (da_cons (dv 2) (da_cons d_int da_nil))))))
      (dss_cons (ds_if (DW.dt (dw_or (d_tnot (d_test (d_fn G__law_read_right hcl (hr.mono (by decide)) (by rfl) T.d__law_read_right.mg T.d__law_read_right.kp (da_cons (d_op (op_addA rfl) sim_add d_str (dv 14)) da_nil)))) (dw_or1 (d_tnot (d_test (d_fn G__law_read_right hcl (hr.mono (by decide)) (by rfl) T.d__law_read_right.mg T.d__law_read_right.kp (da_cons (d_op (op_addA rfl) sim_add (dv 14) d_str) da_nil))))))) (dss_one (ds_ret d_bl)) dss_nil)
      (dss_one (ds_if (DW.dt (dw_or (d_tcmp (op_neA rfl hr.units) sim_ne (d_fnD (CRL.cons (fun _ _ => .ctup T.kd_row_of_0 .nil) CRL.nil) G_row_of hcl (hr.mono (by decide)) (fun _ F => kb_row_of_1 F) (by rfl) T.x_row_of.mg T.x_row_of.kp (da_cons (dv 14) da_nil)) (dv 14) (nomark _)) (dw_or1 (d_tcmp (op_neA rfl hr.units) sim_ne (d_fnK0 (md := [.ctup []]) (CRL.cons (fun _ _ => .ctup T.kd_row_of_0 .nil) CRL.nil) G_row_of hcl (hr.mono (by decide)) (fun _ F => kb_row_of_0_others_first F) (by rfl) T.x_row_of.mg T.x_row_of.kp (dk_one (d_lst (da_cons (dv 14) (da_cons d_str da_nil))) (dk_one d_str dk_nil))) (d_op (op_addA rfl) sim_add (d_op (op_addA rfl) sim_add d_str (dv 14)) d_str) (nomark _))))) (dss_one (ds_ret d_bl)) dss_nil))))))))))))))))))))
      (dss_one (ds_ret d_bl)))) (fun cdv Ar outer s H E => takes_of rfl rfl rfl rfl) (rd_law A)
end
/-! ### the end -/
theorem all_mk {l : PySem.W.OpenLaw} {w : World} {K : PySem.W.Frag} {h : Heap} {mg : Str → Option Value} {fa : Addr} (X : K.In h) (G : h.Ns mainGlobals mg) (hfa : mg "law" = some (.ref fa))
    {od_is_list an_is_list : Option Addr}
    {sl_is_list : Array (Option Value)}
    {oc_is_list kV_is_list dc_is_list pm_is_list cd_is_list ct_is_list : Value}
    {f_is_list : Addr}
    {od_is_word an_is_word : Option Addr}
    {sl_is_word : Array (Option Value)}
    {oc_is_word kV_is_word dc_is_word pm_is_word cd_is_word ct_is_word : Value}
    {f_is_word : Addr}
    {od_words_of an_words_of : Option Addr}
    {sl_words_of : Array (Option Value)}
    {oc_words_of kV_words_of dc_words_of pm_words_of cd_words_of ct_words_of : Value}
    {f_words_of : Addr}
    {od_split_row an_split_row : Option Addr}
    {sl_split_row : Array (Option Value)}
    {oc_split_row kV_split_row dc_split_row pm_split_row cd_split_row ct_split_row : Value}
    {f_split_row : Addr}
    {od_row_of an_row_of : Option Addr}
    {sl_row_of : Array (Option Value)}
    {oc_row_of dc_row_of pm_row_of cd_row_of ct_row_of kV_row_of : Value}
    {f_row_of : Addr}
    {T_row_of : Addr}
    {td_row_of : Option Addr}
    {tc_row_of : Value}
    {tn_row_of : Nat}
    {ts_row_of : Array (Option Value)}
    {tv_row_of_0 : Value}
    {od__law_cell an__law_cell : Option Addr}
    {sl__law_cell : Array (Option Value)}
    {oc__law_cell kV__law_cell dc__law_cell pm__law_cell cd__law_cell ct__law_cell : Value}
    {f__law_cell : Addr}
    {od__law_bag an__law_bag : Option Addr}
    {sl__law_bag : Array (Option Value)}
    {oc__law_bag kV__law_bag dc__law_bag pm__law_bag cd__law_bag ct__law_bag : Value}
    {f__law_bag : Addr}
    {od__law_take an__law_take : Option Addr}
    {sl__law_take : Array (Option Value)}
    {oc__law_take kV__law_take dc__law_take pm__law_take cd__law_take ct__law_take : Value}
    {f__law_take : Addr}
    {od__law_signs an__law_signs : Option Addr}
    {sl__law_signs : Array (Option Value)}
    {oc__law_signs kV__law_signs dc__law_signs pm__law_signs cd__law_signs ct__law_signs : Value}
    {f__law_signs : Addr}
    {od__law_word an__law_word : Option Addr}
    {sl__law_word : Array (Option Value)}
    {oc__law_word kV__law_word dc__law_word pm__law_word cd__law_word ct__law_word : Value}
    {f__law_word : Addr}
    {od__law_is_word an__law_is_word : Option Addr}
    {sl__law_is_word : Array (Option Value)}
    {oc__law_is_word kV__law_is_word dc__law_is_word pm__law_is_word cd__law_is_word ct__law_is_word : Value}
    {f__law_is_word : Addr}
    {od__law_cut an__law_cut : Option Addr}
    {sl__law_cut : Array (Option Value)}
    {oc__law_cut kV__law_cut dc__law_cut pm__law_cut cd__law_cut ct__law_cut : Value}
    {f__law_cut : Addr}
    {od__law_odd an__law_odd : Option Addr}
    {sl__law_odd : Array (Option Value)}
    {oc__law_odd kV__law_odd dc__law_odd pm__law_odd cd__law_odd ct__law_odd : Value}
    {f__law_odd : Addr}
    {od__law_due an__law_due : Option Addr}
    {sl__law_due : Array (Option Value)}
    {oc__law_due kV__law_due dc__law_due pm__law_due cd__law_due ct__law_due : Value}
    {f__law_due : Addr}
    {od__law_asked an__law_asked : Option Addr}
    {sl__law_asked : Array (Option Value)}
    {oc__law_asked kV__law_asked dc__law_asked pm__law_asked cd__law_asked ct__law_asked : Value}
    {f__law_asked : Addr}
    {od__law_read_right an__law_read_right : Option Addr}
    {sl__law_read_right : Array (Option Value)}
    {oc__law_read_right kV__law_read_right dc__law_read_right pm__law_read_right cd__law_read_right ct__law_read_right : Value}
    {f__law_read_right : Addr}
    {od__law_spoilt an__law_spoilt : Option Addr}
    {sl__law_spoilt : Array (Option Value)}
    {oc__law_spoilt kV__law_spoilt dc__law_spoilt pm__law_spoilt cd__law_spoilt ct__law_spoilt : Value}
    {f__law_spoilt : Addr}
    {od_law an_law : Option Addr}
    {sl_law : Array (Option Value)}
    {oc_law kV_law dc_law pm_law cd_law ct_law : Value}
    {f_law : Addr}
    {t__MOST_OTHERS : Tok}
    {U_WakeError : Addr}
    {C_NoWord : Addr}
    {N_NoWord : Addr}
    {nm_NoWord q_NoWord : Str}
    {bs_NoWord sub_NoWord : List Value}
    {sn_NoWord : List Str}
    {ab_NoWord : Bool}
    {col_NoWord : Option Bool}
    {dd_NoWord : Option Addr}
    {m0_NoWord m1_NoWord m2_NoWord m3_NoWord m5_NoWord : Option Value}
    {od_NoWord_init an_NoWord_init : Option Addr}
    {sl_NoWord_init : Array (Option Value)}
    {oc_NoWord_init kV_NoWord_init dc_NoWord_init pm_NoWord_init cd_NoWord_init ct_NoWord_init : Value}
    {f_NoWord_init : Addr}
    {C_NoList : Addr}
    {N_NoList : Addr}
    {nm_NoList q_NoList : Str}
    {bs_NoList sub_NoList : List Value}
    {sn_NoList : List Str}
    {ab_NoList : Bool}
    {col_NoList : Option Bool}
    {dd_NoList : Option Addr}
    {m0_NoList m1_NoList m2_NoList m3_NoList m5_NoList : Option Value}
    {od_NoList_init an_NoList_init : Option Addr}
    {sl_NoList_init : Array (Option Value)}
    {oc_NoList_init kV_NoList_init dc_NoList_init pm_NoList_init cd_NoList_init ct_NoList_init : Value}
    {f_NoList_init : Addr}
    {Td_row_of_0 : Addr}
    {tdd_row_of_0 : Option Addr}
    {tdn_row_of_0 : Nat}
    {tds_row_of_0 : Array (Option Value)}
    (a_is_list : PySem.W.nsIn K mainGlobals "is_list" = some (some (.ref f_is_list)))
    (l_is_list : K.lookup f_is_list = some ⟨oc_is_list, od_is_list, .func (PySem.W.fnOf "is_list" "is_list" (defArgs s_is_list) (defBody s_is_list) (defScope s_is_list) .none kV_is_list dc_is_list pm_is_list an_is_list cd_is_list ct_is_list), sl_is_list⟩)
    (c_is_list : PySem.W.codeIn K cd_is_list "is_list" = true)
    (k_is_list : PySem.W.keepIn K (.ref f_is_list) = true)
    (a_is_word : PySem.W.nsIn K mainGlobals "is_word" = some (some (.ref f_is_word)))
    (l_is_word : K.lookup f_is_word = some ⟨oc_is_word, od_is_word, .func (PySem.W.fnOf "is_word" "is_word" (defArgs s_is_word) (defBody s_is_word) (defScope s_is_word) .none kV_is_word dc_is_word pm_is_word an_is_word cd_is_word ct_is_word), sl_is_word⟩)
    (c_is_word : PySem.W.codeIn K cd_is_word "is_word" = true)
    (k_is_word : PySem.W.keepIn K (.ref f_is_word) = true)
    (a_words_of : PySem.W.nsIn K mainGlobals "words_of" = some (some (.ref f_words_of)))
    (l_words_of : K.lookup f_words_of = some ⟨oc_words_of, od_words_of, .func (PySem.W.fnOf "words_of" "words_of" (defArgs s_words_of) (defBody s_words_of) (defScope s_words_of) .none kV_words_of dc_words_of pm_words_of an_words_of cd_words_of ct_words_of), sl_words_of⟩)
    (c_words_of : PySem.W.codeIn K cd_words_of "words_of" = true)
    (k_words_of : PySem.W.keepIn K (.ref f_words_of) = true)
    (a_split_row : PySem.W.nsIn K mainGlobals "split_row" = some (some (.ref f_split_row)))
    (l_split_row : K.lookup f_split_row = some ⟨oc_split_row, od_split_row, .func (PySem.W.fnOf "split_row" "split_row" (defArgs s_split_row) (defBody s_split_row) (defScope s_split_row) .none kV_split_row dc_split_row pm_split_row an_split_row cd_split_row ct_split_row), sl_split_row⟩)
    (c_split_row : PySem.W.codeIn K cd_split_row "split_row" = true)
    (k_split_row : PySem.W.keepIn K (.ref f_split_row) = true)
    (a_row_of : PySem.W.nsIn K mainGlobals "row_of" = some (some (.ref f_row_of)))
    (l_row_of : K.lookup f_row_of = some ⟨oc_row_of, od_row_of, .func (PySem.W.fnOf "row_of" "row_of" (defArgs s_row_of) (defBody s_row_of) (defScope s_row_of) (.ref T_row_of) kV_row_of dc_row_of pm_row_of an_row_of cd_row_of ct_row_of), sl_row_of⟩)
    (c_row_of : PySem.W.codeIn K cd_row_of "row_of" = true)
    (k_row_of : PySem.W.keepIn K (.ref f_row_of) = true)
    (t_row_of : K.lookup T_row_of = some ⟨tc_row_of, td_row_of, .seq #[tv_row_of_0] tn_row_of, ts_row_of⟩)
    (a__law_cell : PySem.W.nsIn K mainGlobals "_law_cell" = some (some (.ref f__law_cell)))
    (l__law_cell : K.lookup f__law_cell = some ⟨oc__law_cell, od__law_cell, .func (PySem.W.fnOf "_law_cell" "_law_cell" (defArgs s__law_cell) (defBody s__law_cell) (defScope s__law_cell) .none kV__law_cell dc__law_cell pm__law_cell an__law_cell cd__law_cell ct__law_cell), sl__law_cell⟩)
    (c__law_cell : PySem.W.codeIn K cd__law_cell "_law_cell" = true)
    (k__law_cell : PySem.W.keepIn K (.ref f__law_cell) = true)
    (a__law_bag : PySem.W.nsIn K mainGlobals "_law_bag" = some (some (.ref f__law_bag)))
    (l__law_bag : K.lookup f__law_bag = some ⟨oc__law_bag, od__law_bag, .func (PySem.W.fnOf "_law_bag" "_law_bag" (defArgs s__law_bag) (defBody s__law_bag) (defScope s__law_bag) .none kV__law_bag dc__law_bag pm__law_bag an__law_bag cd__law_bag ct__law_bag), sl__law_bag⟩)
    (c__law_bag : PySem.W.codeIn K cd__law_bag "_law_bag" = true)
    (k__law_bag : PySem.W.keepIn K (.ref f__law_bag) = true)
    (a__law_take : PySem.W.nsIn K mainGlobals "_law_take" = some (some (.ref f__law_take)))
    (l__law_take : K.lookup f__law_take = some ⟨oc__law_take, od__law_take, .func (PySem.W.fnOf "_law_take" "_law_take" (defArgs s__law_take) (defBody s__law_take) (defScope s__law_take) .none kV__law_take dc__law_take pm__law_take an__law_take cd__law_take ct__law_take), sl__law_take⟩)
    (c__law_take : PySem.W.codeIn K cd__law_take "_law_take" = true)
    (k__law_take : PySem.W.keepIn K (.ref f__law_take) = true)
    (a__law_signs : PySem.W.nsIn K mainGlobals "_law_signs" = some (some (.ref f__law_signs)))
    (l__law_signs : K.lookup f__law_signs = some ⟨oc__law_signs, od__law_signs, .func (PySem.W.fnOf "_law_signs" "_law_signs" (defArgs s__law_signs) (defBody s__law_signs) (defScope s__law_signs) .none kV__law_signs dc__law_signs pm__law_signs an__law_signs cd__law_signs ct__law_signs), sl__law_signs⟩)
    (c__law_signs : PySem.W.codeIn K cd__law_signs "_law_signs" = true)
    (k__law_signs : PySem.W.keepIn K (.ref f__law_signs) = true)
    (a__law_word : PySem.W.nsIn K mainGlobals "_law_word" = some (some (.ref f__law_word)))
    (l__law_word : K.lookup f__law_word = some ⟨oc__law_word, od__law_word, .func (PySem.W.fnOf "_law_word" "_law_word" (defArgs s__law_word) (defBody s__law_word) (defScope s__law_word) .none kV__law_word dc__law_word pm__law_word an__law_word cd__law_word ct__law_word), sl__law_word⟩)
    (c__law_word : PySem.W.codeIn K cd__law_word "_law_word" = true)
    (k__law_word : PySem.W.keepIn K (.ref f__law_word) = true)
    (a__law_is_word : PySem.W.nsIn K mainGlobals "_law_is_word" = some (some (.ref f__law_is_word)))
    (l__law_is_word : K.lookup f__law_is_word = some ⟨oc__law_is_word, od__law_is_word, .func (PySem.W.fnOf "_law_is_word" "_law_is_word" (defArgs s__law_is_word) (defBody s__law_is_word) (defScope s__law_is_word) .none kV__law_is_word dc__law_is_word pm__law_is_word an__law_is_word cd__law_is_word ct__law_is_word), sl__law_is_word⟩)
    (c__law_is_word : PySem.W.codeIn K cd__law_is_word "_law_is_word" = true)
    (k__law_is_word : PySem.W.keepIn K (.ref f__law_is_word) = true)
    (a__law_cut : PySem.W.nsIn K mainGlobals "_law_cut" = some (some (.ref f__law_cut)))
    (l__law_cut : K.lookup f__law_cut = some ⟨oc__law_cut, od__law_cut, .func (PySem.W.fnOf "_law_cut" "_law_cut" (defArgs s__law_cut) (defBody s__law_cut) (defScope s__law_cut) .none kV__law_cut dc__law_cut pm__law_cut an__law_cut cd__law_cut ct__law_cut), sl__law_cut⟩)
    (c__law_cut : PySem.W.codeIn K cd__law_cut "_law_cut" = true)
    (k__law_cut : PySem.W.keepIn K (.ref f__law_cut) = true)
    (a__law_odd : PySem.W.nsIn K mainGlobals "_law_odd" = some (some (.ref f__law_odd)))
    (l__law_odd : K.lookup f__law_odd = some ⟨oc__law_odd, od__law_odd, .func (PySem.W.fnOf "_law_odd" "_law_odd" (defArgs s__law_odd) (defBody s__law_odd) (defScope s__law_odd) .none kV__law_odd dc__law_odd pm__law_odd an__law_odd cd__law_odd ct__law_odd), sl__law_odd⟩)
    (c__law_odd : PySem.W.codeIn K cd__law_odd "_law_odd" = true)
    (k__law_odd : PySem.W.keepIn K (.ref f__law_odd) = true)
    (a__law_due : PySem.W.nsIn K mainGlobals "_law_due" = some (some (.ref f__law_due)))
    (l__law_due : K.lookup f__law_due = some ⟨oc__law_due, od__law_due, .func (PySem.W.fnOf "_law_due" "_law_due" (defArgs s__law_due) (defBody s__law_due) (defScope s__law_due) .none kV__law_due dc__law_due pm__law_due an__law_due cd__law_due ct__law_due), sl__law_due⟩)
    (c__law_due : PySem.W.codeIn K cd__law_due "_law_due" = true)
    (k__law_due : PySem.W.keepIn K (.ref f__law_due) = true)
    (a__law_asked : PySem.W.nsIn K mainGlobals "_law_asked" = some (some (.ref f__law_asked)))
    (l__law_asked : K.lookup f__law_asked = some ⟨oc__law_asked, od__law_asked, .func (PySem.W.fnOf "_law_asked" "_law_asked" (defArgs s__law_asked) (defBody s__law_asked) (defScope s__law_asked) .none kV__law_asked dc__law_asked pm__law_asked an__law_asked cd__law_asked ct__law_asked), sl__law_asked⟩)
    (c__law_asked : PySem.W.codeIn K cd__law_asked "_law_asked" = true)
    (k__law_asked : PySem.W.keepIn K (.ref f__law_asked) = true)
    (a__law_read_right : PySem.W.nsIn K mainGlobals "_law_read_right" = some (some (.ref f__law_read_right)))
    (l__law_read_right : K.lookup f__law_read_right = some ⟨oc__law_read_right, od__law_read_right, .func (PySem.W.fnOf "_law_read_right" "_law_read_right" (defArgs s__law_read_right) (defBody s__law_read_right) (defScope s__law_read_right) .none kV__law_read_right dc__law_read_right pm__law_read_right an__law_read_right cd__law_read_right ct__law_read_right), sl__law_read_right⟩)
    (c__law_read_right : PySem.W.codeIn K cd__law_read_right "_law_read_right" = true)
    (k__law_read_right : PySem.W.keepIn K (.ref f__law_read_right) = true)
    (a__law_spoilt : PySem.W.nsIn K mainGlobals "_law_spoilt" = some (some (.ref f__law_spoilt)))
    (l__law_spoilt : K.lookup f__law_spoilt = some ⟨oc__law_spoilt, od__law_spoilt, .func (PySem.W.fnOf "_law_spoilt" "_law_spoilt" (defArgs s__law_spoilt) (defBody s__law_spoilt) (defScope s__law_spoilt) .none kV__law_spoilt dc__law_spoilt pm__law_spoilt an__law_spoilt cd__law_spoilt ct__law_spoilt), sl__law_spoilt⟩)
    (c__law_spoilt : PySem.W.codeIn K cd__law_spoilt "_law_spoilt" = true)
    (k__law_spoilt : PySem.W.keepIn K (.ref f__law_spoilt) = true)
    (a_law : PySem.W.nsIn K mainGlobals "law" = some (some (.ref f_law)))
    (l_law : K.lookup f_law = some ⟨oc_law, od_law, .func (PySem.W.fnOf "law" "law" (defArgs s_law) (defBody s_law) (defScope s_law) .none kV_law dc_law pm_law an_law cd_law ct_law), sl_law⟩)
    (c_law : PySem.W.codeIn K cd_law "law" = true)
    (k_law : PySem.W.keepIn K (.ref f_law) = true)
    (z_all : PySem.W.nsIn K mainGlobals "all" = some none)
    (z_isinstance : PySem.W.nsIn K mainGlobals "isinstance" = some none)
    (z_len : PySem.W.nsIn K mainGlobals "len" = some none)
    (z_list : PySem.W.nsIn K mainGlobals "list" = some none)
    (z_max : PySem.W.nsIn K mainGlobals "max" = some none)
    (z_min : PySem.W.nsIn K mainGlobals "min" = some none)
    (z_range : PySem.W.nsIn K mainGlobals "range" = some none)
    (z_repr : PySem.W.nsIn K mainGlobals "repr" = some none)
    (z_str : PySem.W.nsIn K mainGlobals "str" = some none)
    (z_sum : PySem.W.nsIn K mainGlobals "sum" = some none)
    (z_tuple : PySem.W.nsIn K mainGlobals "tuple" = some none)
    (v__MOST_OTHERS : PySem.W.nsIn K mainGlobals "_MOST_OTHERS" = some (some (.int 100 t__MOST_OTHERS)))
    (u_WakeError : PySem.W.nsIn K mainGlobals "WakeError" = some (some (.ref U_WakeError)))
    (ur_WakeError : PySem.W.readsIn K U_WakeError (.type "type") = true)
    (ug_WakeError : PySem.W.specialIn K (.ref U_WakeError) "__getattribute__" = some (some (.builtin "type.__getattribute__")))
    (ui_WakeError : PySem.W.findCls K (.ref U_WakeError) (.type "type") "__init__" = some (.val (.builtin "ValueError.__init__")))
    (hn : PySem.W.specialIn K (.builtin "object.__class__") "__get__" = some (some (.builtin "getset_descriptor.__get__")))
    (htk : PySem.W.takesIn K (.builtin "object.__class__") = some true)
    (e_NoWord : PySem.W.nsIn K mainGlobals "NoWord" = some (some (.ref C_NoWord)))
    (ex_NoWord : K.lookup C_NoWord = some (excClassObj nm_NoWord q_NoWord C_NoWord N_NoWord bs_NoWord [.ref U_WakeError, .type "ValueError", .type "Exception", .type "BaseException", .type "object"] true sn_NoWord sub_NoWord ab_NoWord col_NoWord dd_NoWord m0_NoWord m1_NoWord m2_NoWord m3_NoWord m5_NoWord "ValueError.__new__"))
    (ei_NoWord : PySem.W.findIn K (.ref C_NoWord) "__init__" = some (some (.ref f_NoWord_init)))
    (l_NoWord_init : K.lookup f_NoWord_init = some ⟨oc_NoWord_init, od_NoWord_init, .func (PySem.W.fnOf "__init__" "NoWord.__init__" (defArgs s_NoWord_init) (defBody s_NoWord_init) (defScope s_NoWord_init) .none kV_NoWord_init dc_NoWord_init pm_NoWord_init an_NoWord_init cd_NoWord_init ct_NoWord_init), sl_NoWord_init⟩)
    (c_NoWord_init : PySem.W.codeIn K cd_NoWord_init "NoWord.__init__" = true)
    (k_NoWord_init : PySem.W.keepIn K (.ref f_NoWord_init) = true)
    (et_NoWord : PySem.W.typeIn K (.ref f_NoWord_init) = some (.type "function"))
    (esa_NoWord : PySem.W.findIn K (.ref C_NoWord) "__setattr__" = some (some (.builtin "object.__setattr__")))
    (ega_NoWord : PySem.W.findIn K (.ref C_NoWord) "__getattribute__" = some (some (.builtin "BaseException.__getattribute__")))
    (egt_NoWord : PySem.W.findIn K (.ref C_NoWord) "__getattr__" = some none)
    (enf_NoWord : PySem.W.findIn K (.ref C_NoWord) "found" = some none)
    (ecl_NoWord : PySem.W.findIn K (.ref C_NoWord) "__class__" = some (some (.builtin "object.__class__")))
    (esb_NoWord : PySem.W.subIn K (.ref C_NoWord) (.type "BaseException") = some true)
    (ety_NoWord : PySem.W.typeIn K (.ref C_NoWord) = some (.type "type"))
    (ekp_NoWord : PySem.W.keepIn K (.ref C_NoWord) = true)
    (eic_NoWord : PySem.W.isClsIn K C_NoWord = true)
    (emr_NoWord : PySem.W.mroIn K C_NoWord (.type "object") = some true)
    (ek1_NoWord : PySem.W.subIn K (.ref C_NoWord) (.type "int") = some false)
    (ek2_NoWord : PySem.W.subIn K (.ref C_NoWord) (.type "bool") = some false)
    (ek3_NoWord : PySem.W.subIn K (.ref C_NoWord) (.type "str") = some false)
    (ek4_NoWord : PySem.W.subIn K (.ref C_NoWord) (.type "list") = some false)
    (ek5_NoWord : PySem.W.subIn K (.ref C_NoWord) (.type "tuple") = some false)
    (ek6_NoWord : PySem.W.subIn K (.ref C_NoWord) (.type "dict") = some false)
    (e_NoList : PySem.W.nsIn K mainGlobals "NoList" = some (some (.ref C_NoList)))
    (ex_NoList : K.lookup C_NoList = some (excClassObj nm_NoList q_NoList C_NoList N_NoList bs_NoList [.ref U_WakeError, .type "ValueError", .type "Exception", .type "BaseException", .type "object"] true sn_NoList sub_NoList ab_NoList col_NoList dd_NoList m0_NoList m1_NoList m2_NoList m3_NoList m5_NoList "ValueError.__new__"))
    (ei_NoList : PySem.W.findIn K (.ref C_NoList) "__init__" = some (some (.ref f_NoList_init)))
    (l_NoList_init : K.lookup f_NoList_init = some ⟨oc_NoList_init, od_NoList_init, .func (PySem.W.fnOf "__init__" "NoList.__init__" (defArgs s_NoList_init) (defBody s_NoList_init) (defScope s_NoList_init) .none kV_NoList_init dc_NoList_init pm_NoList_init an_NoList_init cd_NoList_init ct_NoList_init), sl_NoList_init⟩)
    (c_NoList_init : PySem.W.codeIn K cd_NoList_init "NoList.__init__" = true)
    (k_NoList_init : PySem.W.keepIn K (.ref f_NoList_init) = true)
    (et_NoList : PySem.W.typeIn K (.ref f_NoList_init) = some (.type "function"))
    (esa_NoList : PySem.W.findIn K (.ref C_NoList) "__setattr__" = some (some (.builtin "object.__setattr__")))
    (ega_NoList : PySem.W.findIn K (.ref C_NoList) "__getattribute__" = some (some (.builtin "BaseException.__getattribute__")))
    (egt_NoList : PySem.W.findIn K (.ref C_NoList) "__getattr__" = some none)
    (enf_NoList : PySem.W.findIn K (.ref C_NoList) "found" = some none)
    (ecl_NoList : PySem.W.findIn K (.ref C_NoList) "__class__" = some (some (.builtin "object.__class__")))
    (esb_NoList : PySem.W.subIn K (.ref C_NoList) (.type "BaseException") = some true)
    (ety_NoList : PySem.W.typeIn K (.ref C_NoList) = some (.type "type"))
    (ekp_NoList : PySem.W.keepIn K (.ref C_NoList) = true)
    (eic_NoList : PySem.W.isClsIn K C_NoList = true)
    (emr_NoList : PySem.W.mroIn K C_NoList (.type "object") = some true)
    (ek1_NoList : PySem.W.subIn K (.ref C_NoList) (.type "int") = some false)
    (ek2_NoList : PySem.W.subIn K (.ref C_NoList) (.type "bool") = some false)
    (ek3_NoList : PySem.W.subIn K (.ref C_NoList) (.type "str") = some false)
    (ek4_NoList : PySem.W.subIn K (.ref C_NoList) (.type "list") = some false)
    (ek5_NoList : PySem.W.subIn K (.ref C_NoList) (.type "tuple") = some false)
    (ek6_NoList : PySem.W.subIn K (.ref C_NoList) (.type "dict") = some false)
    (es_NoWord_NoWord : PySem.W.subIn K (.ref C_NoWord) (.ref C_NoWord) = some true)
    (es_NoWord_NoList : PySem.W.subIn K (.ref C_NoWord) (.ref C_NoList) = some false)
    (es_NoList_NoWord : PySem.W.subIn K (.ref C_NoList) (.ref C_NoWord) = some false)
    (es_NoList_NoList : PySem.W.subIn K (.ref C_NoList) (.ref C_NoList) = some true)
    (r_row_of_0 : RelV (.ref Td_row_of_0) tv_row_of_0)
    (ldt_row_of_0 : K.lookup Td_row_of_0 = some ⟨.type "tuple", tdd_row_of_0, .seq #[] tdn_row_of_0, tds_row_of_0⟩)
    : ∃ fd : FuncData, (∀ (s : Shared) (v : Value), BindsTo s fd ⟨[v], []⟩ [("_law_script", v)]) ∧ ∀ base : Heap, K.In base → base.Ns mainGlobals mg → (∃ o, base.get? sysModules = some o) → FnG l.prog w K mg base CX0 5 fa fd ["_law_script"] (spLawK K) := by
  have e := hfa.symm.trans (PySem.W.mg_of X G a_law)
  cases e
  let A : Ad := ⟨f_NoWord_init, f_NoList_init, f_is_list, f_is_word, f_words_of, f_split_row, f_row_of, f__law_cell, f__law_bag, f__law_take, f__law_signs, f__law_word, f__law_is_word, f__law_cut, f__law_odd, f__law_due, f__law_asked, f__law_read_right, f__law_spoilt, fa, U_WakeError, C_NoWord, C_NoList, Td_row_of_0⟩
  have T : Txt K mg A := by
    constructor
    · exact PySem.W.mg_none_of X G z_all
    · exact PySem.W.mg_none_of X G z_isinstance
    · exact PySem.W.mg_none_of X G z_len
    · exact PySem.W.mg_none_of X G z_list
    · exact PySem.W.mg_none_of X G z_max
    · exact PySem.W.mg_none_of X G z_min
    · exact PySem.W.mg_none_of X G z_range
    · exact PySem.W.mg_none_of X G z_repr
    · exact PySem.W.mg_none_of X G z_str
    · exact PySem.W.mg_none_of X G z_sum
    · exact PySem.W.mg_none_of X G z_tuple
    · exact ⟨_, PySem.W.mg_of X G v__MOST_OTHERS, _, rfl⟩
    · exact ⟨⟨_, fun_mk (st := s_is_list) l_is_list c_is_list k_is_list⟩, PySem.W.mg_of X G a_is_list, k_is_list⟩
    · exact ⟨⟨_, fun_mk (st := s_is_word) l_is_word c_is_word k_is_word⟩, PySem.W.mg_of X G a_is_word, k_is_word⟩
    · exact ⟨⟨_, fun_mk (st := s_words_of) l_words_of c_words_of k_words_of⟩, PySem.W.mg_of X G a_words_of, k_words_of⟩
    · exact ⟨⟨_, fun_mk (st := s_split_row) l_split_row c_split_row k_split_row⟩, PySem.W.mg_of X G a_split_row, k_split_row⟩
    · exact ⟨⟨_, fun_mk (st := s__law_cell) l__law_cell c__law_cell k__law_cell⟩, PySem.W.mg_of X G a__law_cell, k__law_cell⟩
    · exact ⟨⟨_, fun_mk (st := s__law_bag) l__law_bag c__law_bag k__law_bag⟩, PySem.W.mg_of X G a__law_bag, k__law_bag⟩
    · exact ⟨⟨_, fun_mk (st := s__law_take) l__law_take c__law_take k__law_take⟩, PySem.W.mg_of X G a__law_take, k__law_take⟩
    · exact ⟨⟨_, fun_mk (st := s__law_signs) l__law_signs c__law_signs k__law_signs⟩, PySem.W.mg_of X G a__law_signs, k__law_signs⟩
    · exact ⟨⟨_, fun_mk (st := s__law_word) l__law_word c__law_word k__law_word⟩, PySem.W.mg_of X G a__law_word, k__law_word⟩
    · exact ⟨⟨_, fun_mk (st := s__law_is_word) l__law_is_word c__law_is_word k__law_is_word⟩, PySem.W.mg_of X G a__law_is_word, k__law_is_word⟩
    · exact ⟨⟨_, fun_mk (st := s__law_cut) l__law_cut c__law_cut k__law_cut⟩, PySem.W.mg_of X G a__law_cut, k__law_cut⟩
    · exact ⟨⟨_, fun_mk (st := s__law_odd) l__law_odd c__law_odd k__law_odd⟩, PySem.W.mg_of X G a__law_odd, k__law_odd⟩
    · exact ⟨⟨_, fun_mk (st := s__law_due) l__law_due c__law_due k__law_due⟩, PySem.W.mg_of X G a__law_due, k__law_due⟩
    · exact ⟨⟨_, fun_mk (st := s__law_asked) l__law_asked c__law_asked k__law_asked⟩, PySem.W.mg_of X G a__law_asked, k__law_asked⟩
    · exact ⟨⟨_, fun_mk (st := s__law_read_right) l__law_read_right c__law_read_right k__law_read_right⟩, PySem.W.mg_of X G a__law_read_right, k__law_read_right⟩
    · exact ⟨⟨_, fun_mk (st := s__law_spoilt) l__law_spoilt c__law_spoilt k__law_spoilt⟩, PySem.W.mg_of X G a__law_spoilt, k__law_spoilt⟩
    · exact ⟨⟨_, fun_mk (st := s_law) l_law c_law k_law⟩, PySem.W.mg_of X G a_law, k_law⟩
    · exact ⟨⟨_, ⟨⟨_, _, _, _, _, _, _, _, _, _, rfl, l_row_of, c_row_of, Or.inr ⟨by simp, T_row_of, _, _, _, rfl, t_row_of, rfl, .cons r_row_of_0 (.nil)⟩, Or.inl rfl⟩, k_row_of⟩⟩, PySem.W.mg_of X G a_row_of, k_row_of⟩
    · exact PySem.W.mg_of X G u_WakeError
    · exact ⟨_, ur_WakeError, ug_WakeError, ui_WakeError⟩
    · exact { mg := PySem.W.mg_of X G e_NoWord, oex := ⟨⟨nm_NoWord, q_NoWord, N_NoWord, bs_NoWord, _, sn_NoWord, sub_NoWord, ab_NoWord, col_NoWord, dd_NoWord, m0_NoWord, m1_NoWord, m2_NoWord, m3_NoWord, m5_NoWord, ex_NoWord, rfl⟩, esa_NoWord, esb_NoWord, ety_NoWord, ekp_NoWord⟩, ini := ei_NoWord, ty := et_NoWord, nof := enf_NoWord, ei := ⟨eic_NoWord, ega_NoWord, egt_NoWord, esb_NoWord, ecl_NoWord, hn, htk, emr_NoWord, Dz.kit_no (by decide +kernel) ek1_NoWord, Dz.kit_no (by decide +kernel) ek2_NoWord, Dz.kit_no (by decide +kernel) ek3_NoWord, Dz.kit_no (by decide +kernel) ek4_NoWord, Dz.kit_no (by decide +kernel) ek5_NoWord, Dz.kit_no (by decide +kernel) ek6_NoWord⟩ }
    · exact ⟨_, fun_mk (st := s_NoWord_init) l_NoWord_init c_NoWord_init k_NoWord_init⟩
    · exact { mg := PySem.W.mg_of X G e_NoList, oex := ⟨⟨nm_NoList, q_NoList, N_NoList, bs_NoList, _, sn_NoList, sub_NoList, ab_NoList, col_NoList, dd_NoList, m0_NoList, m1_NoList, m2_NoList, m3_NoList, m5_NoList, ex_NoList, rfl⟩, esa_NoList, esb_NoList, ety_NoList, ekp_NoList⟩, ini := ei_NoList, ty := et_NoList, nof := enf_NoList, ei := ⟨eic_NoList, ega_NoList, egt_NoList, esb_NoList, ecl_NoList, hn, htk, emr_NoList, Dz.kit_no (by decide +kernel) ek1_NoList, Dz.kit_no (by decide +kernel) ek2_NoList, Dz.kit_no (by decide +kernel) ek3_NoList, Dz.kit_no (by decide +kernel) ek4_NoList, Dz.kit_no (by decide +kernel) ek5_NoList, Dz.kit_no (by decide +kernel) ek6_NoList⟩ }
    · exact ⟨_, fun_mk (st := s_NoList_init) l_NoList_init c_NoList_init k_NoList_init⟩
    · exact es_NoWord_NoWord
    · exact es_NoWord_NoList
    · exact es_NoList_NoWord
    · exact es_NoList_NoList
    · exact Ed.ktup_of ldt_row_of_0 (Nat.le_of_ble_eq_true rfl) .nil
  refine ⟨PySem.W.fnOf "law" "law" (defArgs s_law) (defBody s_law) (defScope s_law) .none kV_law dc_law pm_law an_law cd_law ct_law, fun s v => .of_eq rfl, fun base _ _ B1 => ?_⟩
  have G_NoWord_init : Kp l.prog w K mg base CX0 1 A.f_NoWord_init ["self", "found"] [] (spErr "found" A.C_NoWord) := ok_NoWord_init T 
  have G_NoList_init : Kp l.prog w K mg base CX0 1 A.f_NoList_init ["self", "found"] [] (spErr "found" A.C_NoList) := ok_NoList_init T 
  have G_is_list : Kp l.prog w K mg base (L2.CX l.prog w) 1 A.f_is_list ["thing", "least", "most"] [] (spD K 3 (sp_is_list A)) := ok_is_list T B1 
  have G_is_word : Kp l.prog w K mg base (L2.CX l.prog w) 1 A.f_is_word ["thing"] [] (spD K 1 (sp_is_word A)) := ok_is_word T B1 
  have G_words_of : Kp l.prog w K mg base (L2.CX l.prog w) 2 A.f_words_of ["thing"] [] (spD K 1 (sp_words_of A)) := ok_words_of T B1 G_is_word
  have G_split_row : Kp l.prog w K mg base (L2.CX l.prog w) 3 A.f_split_row ["thing"] [] (spD K 1 (sp_split_row A)) := ok_split_row T B1 G_words_of
  have G_row_of : Kx l.prog w K mg base (L2.CX l.prog w) 3 "row_of" "row_of" s_row_of [.ref A.dt_row_of_0] ([] : List (Str × V)) A.f_row_of ["first", "others"] (spD K 2 (sp_row_of A)) := ok_row_of T B1 G_is_word G_is_list G_words_of G_NoWord_init G_NoList_init
  have G__law_cell : Kp l.prog w K mg base (L2.CX l.prog w) 1 A.f__law_cell ["_law_script", "_law_k"] [] (spD K 2 (sp__law_cell A)) := ok__law_cell T B1 
  have G__law_bag : Kp l.prog w K mg base (L2.CX l.prog w) 1 A.f__law_bag ["_law_cell_here"] [] (spD K 1 (sp__law_bag A)) := ok__law_bag T B1 
  have G__law_take : Kp l.prog w K mg base (L2.CX l.prog w) 1 A.f__law_take ["_law_bag_here", "_law_below"] [] (spD K 2 (sp__law_take A)) := ok__law_take T B1 
  have G__law_signs : Kp l.prog w K mg base (L2.CX l.prog w) 1 A.f__law_signs [] [] (spD K 0 (sp__law_signs A)) := ok__law_signs T B1 
  have G__law_word : Kp l.prog w K mg base (L2.CX l.prog w) 2 A.f__law_word ["_law_bag_here"] [] (spD K 1 (sp__law_word A)) := ok__law_word T B1 G__law_signs G__law_take
  have G__law_is_word : Kp l.prog w K mg base (L2.CX l.prog w) 1 A.f__law_is_word ["_law_thing"] [] (spD K 1 (sp__law_is_word A)) := ok__law_is_word T B1 
  have G__law_cut : Kp l.prog w K mg base (L2.CX l.prog w) 2 A.f__law_cut ["_law_thing"] [] (spD K 1 (sp__law_cut A)) := ok__law_cut T B1 G__law_is_word
  have G__law_odd : Kp l.prog w K mg base (L2.CX l.prog w) 2 A.f__law_odd ["_law_bag_here", "_law_word_here"] [] (spD K 2 (sp__law_odd A)) := ok__law_odd T B1 G__law_take
  have G__law_due : Kp l.prog w K mg base (L2.CX l.prog w) 2 A.f__law_due ["_law_lead", "_law_behind"] [] (spD K 2 (sp__law_due A)) := ok__law_due T B1 G__law_is_word
  have G__law_asked : Kp l.prog w K mg base (L2.CX l.prog w) 4 A.f__law_asked ["_law_lead", "_law_behind"] [] (spD K 2 (sp__law_asked A)) := ok__law_asked T B1 G_row_of
  have G__law_read_right : Kp l.prog w K mg base (L2.CX l.prog w) 4 A.f__law_read_right ["_law_thing"] [] (spD K 1 (sp__law_read_right A)) := ok__law_read_right T B1 G__law_cut G_words_of G_split_row G_is_word G__law_is_word
  have G__law_spoilt : Kp l.prog w K mg base (L2.CX l.prog w) 3 A.f__law_spoilt ["_law_bag_here", "_law_things"] [] (spD K 2 (sp__law_spoilt A)) := ok__law_spoilt T B1 G__law_take G__law_odd
  exact ok_law T B1 G__law_cell G__law_bag G__law_take G__law_word G__law_spoilt G__law_due G__law_asked G__law_odd G__law_read_right G_row_of G_NoWord_init (fun_mk (st := s_law) l_law c_law k_law)
end K03
open PySem PySem.W PyProof.Rows
set_option maxRecDepth 100000 in
set_option maxHeartbeats 0 in
theorem PySem.Challenge.cw_drowsetree_k03_rows_there_and_back_holds : PySem.Challenge.rw_drowsetree_k03_rows_there_and_back.Holds := by
  w_on; o_law; k_head; (case hw => w_witness2)
  k_fill
  refine Ed.walkKS (l := PySem.Challenge.rw_drowsetree_k03_rows_there_and_back) (n := 63) (k := 5) (x := "_law_script") (CX := L2.CX0) (sp := K03.spLawK) rfl (by decide) rfl (by first | rfl | decide +kernel) ⟨rfl, by decide, by decide⟩ (fun w h Y => PySem.W.kIn_of Y) ?F (fun _ _ a ns hl _ hS => Ed.law_sp hl hS) fun _ _ _ _ z => z
  case F =>
    intro w mg fa h KX G hmg
    refine' K03.all_mk KX G hmg ?a_is_list ?l_is_list ?c_is_list ?k_is_list ?a_is_word ?l_is_word ?c_is_word ?k_is_word ?a_words_of ?l_words_of ?c_words_of ?k_words_of ?a_split_row ?l_split_row ?c_split_row ?k_split_row ?a_row_of ?l_row_of ?c_row_of ?k_row_of ?t_row_of ?a__law_cell ?l__law_cell ?c__law_cell ?k__law_cell ?a__law_bag ?l__law_bag ?c__law_bag ?k__law_bag ?a__law_take ?l__law_take ?c__law_take ?k__law_take ?a__law_signs ?l__law_signs ?c__law_signs ?k__law_signs ?a__law_word ?l__law_word ?c__law_word ?k__law_word ?a__law_is_word ?l__law_is_word ?c__law_is_word ?k__law_is_word ?a__law_cut ?l__law_cut ?c__law_cut ?k__law_cut ?a__law_odd ?l__law_odd ?c__law_odd ?k__law_odd ?a__law_due ?l__law_due ?c__law_due ?k__law_due ?a__law_asked ?l__law_asked ?c__law_asked ?k__law_asked ?a__law_read_right ?l__law_read_right ?c__law_read_right ?k__law_read_right ?a__law_spoilt ?l__law_spoilt ?c__law_spoilt ?k__law_spoilt ?a_law ?l_law ?c_law ?k_law ?z_all ?z_isinstance ?z_len ?z_list ?z_max ?z_min ?z_range ?z_repr ?z_str ?z_sum ?z_tuple ?v__MOST_OTHERS ?u_WakeError ?ur_WakeError ?ug_WakeError ?ui_WakeError ?hn ?htk ?e_NoWord ?ex_NoWord ?ei_NoWord ?l_NoWord_init ?c_NoWord_init ?k_NoWord_init ?et_NoWord ?esa_NoWord ?ega_NoWord ?egt_NoWord ?enf_NoWord ?ecl_NoWord ?esb_NoWord ?ety_NoWord ?ekp_NoWord ?eic_NoWord ?emr_NoWord ?ek1_NoWord ?ek2_NoWord ?ek3_NoWord ?ek4_NoWord ?ek5_NoWord ?ek6_NoWord ?e_NoList ?ex_NoList ?ei_NoList ?l_NoList_init ?c_NoList_init ?k_NoList_init ?et_NoList ?esa_NoList ?ega_NoList ?egt_NoList ?enf_NoList ?ecl_NoList ?esb_NoList ?ety_NoList ?ekp_NoList ?eic_NoList ?emr_NoList ?ek1_NoList ?ek2_NoList ?ek3_NoList ?ek4_NoList ?ek5_NoList ?ek6_NoList ?es_NoWord_NoWord ?es_NoWord_NoList ?es_NoList_NoWord ?es_NoList_NoList ?r_row_of_0 ?ldt_row_of_0
    (case a_is_list => k_is)
    (case l_is_list => k_is)
    (case c_is_list => k_is)
    (case k_is_list => k_is)
    (case a_is_word => k_is)
    (case l_is_word => k_is)
    (case c_is_word => k_is)
    (case k_is_word => k_is)
    (case a_words_of => k_is)
    (case l_words_of => k_is)
    (case c_words_of => k_is)
    (case k_words_of => k_is)
    (case a_split_row => k_is)
    (case l_split_row => k_is)
    (case c_split_row => k_is)
    (case k_split_row => k_is)
    (case a_row_of => k_is)
    (case l_row_of => k_is)
    (case c_row_of => k_is)
    (case k_row_of => k_is)
    (case t_row_of => k_is)
    (case a__law_cell => k_is)
    (case l__law_cell => k_is)
    (case c__law_cell => k_is)
    (case k__law_cell => k_is)
    (case a__law_bag => k_is)
    (case l__law_bag => k_is)
    (case c__law_bag => k_is)
    (case k__law_bag => k_is)
    (case a__law_take => k_is)
    (case l__law_take => k_is)
    (case c__law_take => k_is)
    (case k__law_take => k_is)
    (case a__law_signs => k_is)
    (case l__law_signs => k_is)
    (case c__law_signs => k_is)
    (case k__law_signs => k_is)
    (case a__law_word => k_is)
    (case l__law_word => k_is)
    (case c__law_word => k_is)
    (case k__law_word => k_is)
    (case a__law_is_word => k_is)
    (case l__law_is_word => k_is)
    (case c__law_is_word => k_is)
    (case k__law_is_word => k_is)
    (case a__law_cut => k_is)
    (case l__law_cut => k_is)
    (case c__law_cut => k_is)
    (case k__law_cut => k_is)
    (case a__law_odd => k_is)
    (case l__law_odd => k_is)
    (case c__law_odd => k_is)
    (case k__law_odd => k_is)
    (case a__law_due => k_is)
    (case l__law_due => k_is)
    (case c__law_due => k_is)
    (case k__law_due => k_is)
    (case a__law_asked => k_is)
    (case l__law_asked => k_is)
    (case c__law_asked => k_is)
    (case k__law_asked => k_is)
    (case a__law_read_right => k_is)
    (case l__law_read_right => k_is)
    (case c__law_read_right => k_is)
    (case k__law_read_right => k_is)
    (case a__law_spoilt => k_is)
    (case l__law_spoilt => k_is)
    (case c__law_spoilt => k_is)
    (case k__law_spoilt => k_is)
    (case a_law => k_is)
    (case l_law => k_is)
    (case c_law => k_is)
    (case k_law => k_is)
    (case z_all => k_is)
    (case z_isinstance => k_is)
    (case z_len => k_is)
    (case z_list => k_is)
    (case z_max => k_is)
    (case z_min => k_is)
    (case z_range => k_is)
    (case z_repr => k_is)
    (case z_str => k_is)
    (case z_sum => k_is)
    (case z_tuple => k_is)
    (case v__MOST_OTHERS => k_is)
    (case u_WakeError => k_is)
    (case ur_WakeError => k_is)
    (case ug_WakeError => k_is)
    (case ui_WakeError => k_is)
    (case hn => k_is)
    (case htk => k_is)
    (case e_NoWord => k_is)
    (case ex_NoWord => k_is)
    (case ei_NoWord => k_is)
    (case l_NoWord_init => k_is)
    (case c_NoWord_init => k_is)
    (case k_NoWord_init => k_is)
    (case et_NoWord => k_is)
    (case esa_NoWord => k_is)
    (case ega_NoWord => k_is)
    (case egt_NoWord => k_is)
    (case enf_NoWord => k_is)
    (case ecl_NoWord => k_is)
    (case esb_NoWord => k_is)
    (case ety_NoWord => k_is)
    (case ekp_NoWord => k_is)
    (case eic_NoWord => k_is)
    (case emr_NoWord => k_is)
    (case ek1_NoWord => k_is)
    (case ek2_NoWord => k_is)
    (case ek3_NoWord => k_is)
    (case ek4_NoWord => k_is)
    (case ek5_NoWord => k_is)
    (case ek6_NoWord => k_is)
    (case e_NoList => k_is)
    (case ex_NoList => k_is)
    (case ei_NoList => k_is)
    (case l_NoList_init => k_is)
    (case c_NoList_init => k_is)
    (case k_NoList_init => k_is)
    (case et_NoList => k_is)
    (case esa_NoList => k_is)
    (case ega_NoList => k_is)
    (case egt_NoList => k_is)
    (case enf_NoList => k_is)
    (case ecl_NoList => k_is)
    (case esb_NoList => k_is)
    (case ety_NoList => k_is)
    (case ekp_NoList => k_is)
    (case eic_NoList => k_is)
    (case emr_NoList => k_is)
    (case ek1_NoList => k_is)
    (case ek2_NoList => k_is)
    (case ek3_NoList => k_is)
    (case ek4_NoList => k_is)
    (case ek5_NoList => k_is)
    (case ek6_NoList => k_is)
    (case es_NoWord_NoWord => k_is)
    (case es_NoWord_NoList => k_is)
    (case es_NoList_NoWord => k_is)
    (case es_NoList_NoList => k_is)
    (case r_row_of_0 => exact rfl)
    (case ldt_row_of_0 => k_is)
#print axioms PySem.Challenge.cw_drowsetree_k03_rows_there_and_back_holds
