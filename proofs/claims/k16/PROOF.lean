import PyProof.Rows.All
import Wide.All
import OpenK.AllK
import Wide.FinOn
import HandS.ForMost
import HandS.Wide
import HandS.EndBits
import HandS.IsInst
import HandS.Style
import HandS.Defaults
import PyProof.ReprRoads
import HandS.ExcInit
import HandS.ClsMeth
import KE.KExcIs
import HandS.Walk
import HandS.StrMore
import HandS.Replace
import PyProof.Rows.StrFit
import HandS.ExcField
import HandS.TryMany
import HandS.WordsExc
import HandS.MakeKwOnly
import HandS.OwnEq
import KE.RegKCallOwn
import HandS.FStr
import HandS.TupAny
import HandS.DictComp
import HandS.ListItems
import HandS.Deep
import HandS.TupMul
import HandS.Star
import HandS.NoneIn
import KE.KTryMore
import PyProof.Rows.ReprOcc
import HandS.DictTup
import HandS.TupLen
import PySem.Challenge.RW_drowsetree_k16_logs_kept
set_option Elab.async false
set_option linter.all false
set_option maxRecDepth 100000
set_option maxHeartbeats 2000000
/-! Calls where nothing is being shown by repr: every def's promise under that. -/
namespace Dz
open PySem PySem.Spec PyProof.Rows L2

/-- no repr is under way -/
def Calm (A : Around) : Prop := A.guards = some []

structure FnG (P : Program) (w : World) (K : PySem.W.Frag) (mg : Str → Option Value) (base : Heap) (CX : CXT) (k : Nat) (f : Addr) (fd : FuncData) (ps : List Str) (sp : Sp) : Prop where
  ln : ∀ vs H Q E, sp vs H Q E → vs.length = ps.length
  go : ∀ (A : Around) (out : List Env) (s : Shared) (H : Hp) (ar : Args) (us : List Value) (vs : List V) (Q : VK) (E : XK),
    Calm A → Room k A → Env0 P w K mg base A out s H → BindsTo s fd ar (ps.zip us) → Vals vs us → sp vs H Q E →
      codeAny (model P w) A (.call (.ref f) ar) (CR CX out P w H s Q E) s
theorem FnG.more {P : Program} {w : World} {K : PySem.W.Frag} {mg : Str → Option Value} {base : Heap} {CX : CXT} {j k : Nat} {f : Addr} {fd : FuncData} {ps : List Str} {sp : Sp}
    (F : FnG P w K mg base CX j f fd ps sp) (h : j ≤ k) : FnG P w K mg base CX k f fd ps sp :=
  ⟨F.ln, fun A out s H ar us vs Q E g r => F.go A out s H ar us vs Q E g (r.mono h)⟩
theorem FnG.as {P : Program} {w : World} {K : PySem.W.Frag} {mg : Str → Option Value} {base : Heap} {CX : CXT} {k : Nat} {f : Addr} {fd : FuncData} {ps : List Str} {sp sp' : Sp}
    (F : FnG P w K mg base CX k f fd ps sp) (h : ∀ vs H Q E, sp' vs H Q E → sp vs H Q E) : FnG P w K mg base CX k f fd ps sp' :=
  ⟨fun vs H Q E q => F.ln vs H Q E (h _ _ _ _ q), fun A out s H ar us vs Q E g r e b v q => F.go A out s H ar us vs Q E g r e b v (h _ _ _ _ q)⟩

/-- a def that stands in the written part, by its body's walk where no repr is under way -/
theorem fnG_at {CX : CXT} {P : Program} {w : World} {K : PySem.W.Frag} {mg : Str → Option Value} {base : Heap} {k : Nat} {f : Addr} {x qual : Str} {params : Arguments} {body : List Stmt} {sc : Scope} {dV kV doc pm cdv ct oc : Value} {an od : Option Addr}
    {osl : Array (Option Value)} {N ps : List Str} {sp : Sp} (lk : K.lookup f = some ⟨oc, od, .func (PySem.W.fnOf x qual params body sc dV kV doc pm an cdv ct), osl⟩) (hcd : PySem.W.codeIn K cdv qual = true) (S : FnScope N ps sc)
    (len : ∀ vs H Q E, sp vs H Q E → vs.length = ps.length)
    (walk : ∀ (A : Around) (outer : List Env) (s : Shared) (H : Hp) (vs : List V) (Q : VK) (E : XK), Calm A → Room k (A.deeper (envOfC qual sc s.heap.objs.size f cdv)) → sp vs H Q E →
      ∃ t, PSs (cxOf CX P w K mg base N qual sc f cdv A outer s H E) body t ∧ t { nx := fun _ H' => Q .non H', rt := Q } (start N vs) H) :
    FnG P w K mg base CX (k + 1) f (PySem.W.fnOf x qual params body sc dV kV doc pm an cdv ct) ps sp := by
  constructor
  · exact len
  intro A outer s H ar us vs Q E hg hr e0 hb rv hsp
  have ll := len _ _ _ _ hsp
  have inK : K.In s.heap := e0.mod.kin.keeps fun b o z => (e0.bs b o z).1
  have nolim : s.heap.NoLimit := e0.mod.nolimit.keeps fun b o z => (e0.bs b o z).1
  have kinds : ∀ y ∈ ps.zip us, sc.names.lookup y.1 = some .local ∨ (sc.names.lookup y.1 = some .cell ∧ ((cellsFrom (s.heap.objs.size + 1) sc.names []).lookup y.1).isSome = true) := by
    rintro ⟨n, v⟩ hy
    have hn := (List.of_mem_zip hy).1
    cases S.par n hn with
    | inl q => exact Or.inl q
    | inr q => exact Or.inr ⟨q, PySem.W.cellsFrom_some _ _ _ (Or.inl q)⟩
  refine codeAny_call_function hr.depth (inK _ _ lk) rfl S.co S.gen rfl (PySem.W.codeRec_of inK hcd) (hb _ _ _ _ ?_)
  refine wpAny_newFunctionEnv_cells S.kind kinds fun env he s1 xx => ?_
  subst he
  refine ⟨nolim.keeps xx.toInCall.keep, codeAny_func ?_⟩
  obtain ⟨t, ht, hq⟩ := walk A outer s H vs Q E hg (hr.deeper _) hsp
  have I0 := inv_start (CX := CX) (N := N) (E := E) (cd := cdv) (qual := qual) (f := f) S hr.hd e0 ll rv xx
  refine wpAny_mono (ht.run [] s1 (start N vs) H _ I0 hq) (fun fl s' hs => ?_) fun e s' hs => hs
  cases fl with
  | brk => exact hs.elim fun _ z => z.elim fun _ z => False.elim z.2
  | cont => exact hs.elim fun _ z => z.elim fun _ z => False.elim z.2
  | next =>
    obtain ⟨σ', H', J, q⟩ := hs
    exact ⟨V.non, H', J.os, J.bare, J.base, J.hok, rfl, q⟩
  | ret u =>
    obtain ⟨v, σ', H', J, r', q⟩ := hs
    exact ⟨v, H', J.os, J.bare, J.base, J.hok, r', q⟩
/-- a def of the text -/
theorem fnG_of {CX : CXT} {P : Program} {w : World} {K : PySem.W.Frag} {mg : Str → Option Value} {base : Heap} {x qual : Str} {st : Stmt} {f : Addr} {fd : FuncData} {N ps : List Str} {k : Nat} {sp : Sp}
    (F : Fun K x qual st f fd) (S : FnScope N ps (defScope st)) (len : ∀ vs H Q E, sp vs H Q E → vs.length = ps.length)
    (walk : ∀ (cdv : Value) (A : Around) (outer : List Env) (s : Shared) (H : Hp) (vs : List V) (Q : VK) (E : XK), Calm A → Room k (A.deeper (envOfC qual (defScope st) s.heap.objs.size f cdv)) → sp vs H Q E →
      ∃ t, PSs (cxOf CX P w K mg base N qual (defScope st) f cdv A outer s H E) (defBody st) t ∧ t { nx := fun _ H' => Q .non H', rt := Q } (start N vs) H) :
    FnG P w K mg base CX (k + 1) f fd ps sp := by
  obtain ⟨oc, od, kV, doc, pm, an, cdv, ct, osl, rfl, lk, hcd⟩ := F.ex
  exact fnG_at lk hcd S len fun A outer s H vs Q E hg hr hsp => walk cdv A outer s H vs Q E hg hr hsp

/-- the same where nothing is raised -/
theorem fnG_nx {P : Program} {w : World} {K : PySem.W.Frag} {mg : Str → Option Value} {base : Heap} {x qual : Str} {st : Stmt} {f : Addr} {fd : FuncData} {N ps : List Str} {k : Nat} {sp : Sp}
    (F : Fun K x qual st f fd) (S : FnScope N ps (defScope st)) (len : ∀ vs H Q E, sp vs H Q E → vs.length = ps.length)
    (walk : ∀ (cdv : Value) (A : Around) (outer : List Env) (s : Shared) (H : Hp) (vs : List V) (Q : VK) (E : XK), Calm A → Room k (A.deeper (envOfC qual (defScope st) s.heap.objs.size f cdv)) → sp vs H Q E →
      ∃ t, PSs (cxOf CX0 P w K mg base N qual (defScope st) f cdv A outer s H E).nox (defBody st) t ∧ t { nx := fun _ H' => Q .non H', rt := Q } (start N vs) H) :
    FnG P w K mg base CX0 (k + 1) f fd ps sp := fnG_of F S len fun cdv A outer s H vs Q E hg hr hsp => by
  obtain ⟨t, h, q⟩ := walk cdv A outer s H vs Q E hg hr hsp
  exact ⟨t, h.nox, q⟩

section
variable {X : Cx} {CX : CXT} {k : Nat} {f C : Addr} {fd : FuncData} {ps : List Str} {sp : Sp} {dvs : List V} {ds : List Value} {E : XK} {x m : Str} {p pos apos : Pos} {e o : Expr} {es : List Expr} {ta : TE} {t : TA}
  {r : List V → Hp → VK → Prop}

/-- a def as a value that is called -/
theorem callR_fn (F : FnG X.prog X.w X.K X.mg X.base CX k f fd ps sp) (hg : Calm X.A) (hr : Room k X.A) (hb : Binds X.K fd ps ds) (hd : Vals dvs ds) (hx : Passes CX X E) :
    CallR X (.ref f) (fun vs H Q => sp (vs ++ dvs) H Q E) := by
  intro pins s σ H vs us Q I rv h
  have r2 : Vals (vs ++ dvs) (us ++ ds) := rv.append hd
  have hl : (us ++ ds).length = ps.length := r2.length.symm.trans (F.ln _ _ _ _ h)
  refine wpAny_call (codeAny_mono (F.go X.A X.stack s H ⟨us, []⟩ (us ++ ds) (vs ++ dvs) Q E hg hr I.env0 (hb s us I.kIn hl) r2 h) ?_)
  intro rs s' hq
  match rs, hq with
  | .error e, hq => exact hx pins σ H s e s' I hq
  | .ok (.ret u), hq => exact I.after hq
/-- f(e, ..) of a name of the module, whatever stands there -/
theorem pe_fn (hc : CallR X (.ref f) r) (hl : Gl X x) (hm : X.mg x = some (.ref f)) (hk : PySem.W.keepIn X.K (.ref f) = true) (ha : PA X (e :: es) t) (hdb : (x == ("__debug__" : Str)) = false := by decide)
    (he : starEach (e :: es) X.env = (false, eval e X.env) :: starEach es X.env := by rfl) (hpl : (backTo pos (starEach es X.env)).any (·.1) = false := by rfl) : PE X (.Call (.Name x p) (e :: es) [] pos) (tCB r t) := by
  constructor
  intro pins s σ H Q I h
  refine wpAny_Call_Name_kw (ld_glob I hl hm ?_ hdb)
  refine PySem.W.callWith_K (h₀ := X.base) I.ok.mod.kin hk (thn (ha.run pos pins s σ H _ I h) ?_) he hpl
  rintro us s1 ⟨vs, H1, I1, rv, q⟩
  exact ⟨I1.kIn, hc pins s1 σ H1 vs us Q I1 rv q⟩
theorem pe_fn0 (hc : CallR X (.ref f) r) (hl : Gl X x) (hm : X.mg x = some (.ref f)) (hk : PySem.W.keepIn X.K (.ref f) = true) (hdb : (x == ("__debug__" : Str)) = false := by decide) : PE X (.Call (.Name x p) [] [] pos) (tCB r tNil) := by
  constructor
  intro pins s σ H Q I h
  refine wpAny_Call_Name_kw (ld_glob I hl hm ?_ hdb)
  exact PySem.W.callWith_K0 I.kIn hk (hc pins s σ H [] [] Q I .nil h)
/-- o.m(e, ..), o an instance of the class at C -/
def tMth (C : Addr) (m : Str) (r : List V → Hp → VK → Prop) (ta : TE) (t : TA) : TE := fun σ H Q => ta σ H fun x H1 => ∃ a dx fs, x = .ref a ∧ H1 a = some (.ins C dx fs) ∧ fs.lookup m = none ∧ t σ H1 fun vs H2 => r (x :: vs) H2 Q
theorem pe_mth {pl : Sem Bool} (he : PE X o ta) (c : Cls X.K C) (hm : Meth X.K C m f) (hc : CallR X (.ref f) r) (ha : PA X (e :: es) t)
    (hst : starEach (e :: es) X.env = (false, eval e X.env) :: starEach es X.env := by rfl) (hpl : (backTo pos (starEach es X.env)).any (·.1) = false := by rfl)
    (ht : eval (.Call (.Attribute o m apos) (e :: es) [] pos) X.env = (do
      let ov ← eval o X.env
      standAt apos.atName
      let (f, first) ← holding [ov] (getMethod ov m pl)
      callWith pos f first (backTo pos (starEach (e :: es) X.env)) (backToKw pos (keywordEach [] X.env))) := by rfl) :
    PE X (.Call (.Attribute o m apos) (e :: es) [] pos) (tMth C m r ta t) := by
  constructor
  intro pins s σ H Q I h
  refine PySem.W.methodCall_KW (pl := pl) (thn (he.run pins s σ H _ I h) ?_) ht
  rintro u s1 ⟨y, H1, I1, ry, a, dx, fs, rfl, ea, l, q⟩
  cases (show u = Value.ref a from ry)
  refine getmeth_ok I1 ea c hm l ?_
  refine PySem.W.callWith_K (first := [.ref a]) (h₀ := X.base) I.ok.mod.kin hm.kp (thn (ha.run pos pins s1 σ H1 _ I1 q) ?_) hst hpl
  rintro us s2 ⟨vs, H2, I2, rv, q2⟩
  exact ⟨I2.kIn, hc pins s2 σ H2 (.ref a :: vs) (.ref a :: us) Q I2 (.cons rfl rv) q2⟩
theorem pe_mth0 {pl : Sem Bool} (he : PE X o ta) (c : Cls X.K C) (hm : Meth X.K C m f) (hc : CallR X (.ref f) r)
    (ht : eval (.Call (.Attribute o m apos) [] [] pos) X.env = (do
      let ov ← eval o X.env
      standAt apos.atName
      let (f, first) ← holding [ov] (getMethod ov m pl)
      callWith pos f first (backTo pos (starEach [] X.env)) (backToKw pos (keywordEach [] X.env))) := by rfl) :
    PE X (.Call (.Attribute o m apos) [] [] pos) (tMth C m r ta tNil) := by
  constructor
  intro pins s σ H Q I h
  refine PySem.W.methodCall_KW (pl := pl) (thn (he.run pins s σ H _ I h) ?_) ht
  rintro u s1 ⟨y, H1, I1, ry, a, dx, fs, rfl, ea, l, q⟩
  cases (show u = Value.ref a from ry)
  refine getmeth_ok I1 ea c hm l ?_
  exact PySem.W.callWith_K0 (first := [.ref a]) I1.kIn hm.kp (hc pins s1 σ H1 [.ref a] [.ref a] Q I1 (.cons rfl .nil) q)
end

/-! ### the law's call -/
theorem enterG {P : Program} {w : World} {K : PySem.W.Frag} {mg mb : Str → Option Value} {CX : CXT} {k : Nat} {fa a : Addr} {fd : FuncData} {x : Str} {sp : Sp} {s₁ : Shared} {vs : List Value} {ns : List Int}
    (KX : K.In s₁.heap) (hns : s₁.heap.Ns mainGlobals mg) (hb : s₁.heap.Ns builtinsNs mb) (hbb : ∀ x : Str, x ≠ "__name__" → mb x = bootBuiltins x) (hlim : s₁.heap.NoLimit) (hgen : s₁.gens = #[])
    (ha : s₁.heap.get? a = some { cls := .type "list", data := .seq vs.toArray }) (hi : IntsAre vs ns) (hl : ns.length ≤ sizeLine) (hr : Room k callerA)
    (F : ∀ base : Heap, K.In base → base.Ns mainGlobals mg → FnG P w K mg base CX k fa fd [x] sp) (hbind : ∀ (s : Shared) (u : Value), BindsTo s fd ⟨[u], []⟩ [(x, u)])
    (hsp : ∀ H : Hp, Only H → SqL K H a (ns.map V.int) → sp [.ref a] H (fun v _ => v = .bl true) fun _ _ _ => False)
    (hCX : ∀ H e s', CX [] H s₁ (fun _ _ _ => False) e s' → False) :
    codeAny (model P w) callerA (.call (.ref fa) ⟨[.ref a], []⟩) (fun r s' => r = .ok (.ret (.bool true)) ∧ OldK s₁.heap s'.heap ∧ s'.os = s₁.os ∧ AllBare s'.gens) s₁ := by
  have rv : Vals (ns.map V.int) vs := vals_ints hi
  have lv : vs.length = ns.length := hi.length
  have run : ∀ H : Hp, Only H → SqL K H a (ns.map V.int) → HOk P w H s₁.heap → (∀ b, H b ≠ none → b = a ∧ K.lookup a = none) →
      codeAny (model P w) callerA (.call (.ref fa) ⟨[.ref a], []⟩) (fun r s' => r = .ok (.ret (.bool true)) ∧ OldK s₁.heap s'.heap ∧ s'.os = s₁.os ∧ AllBare s'.gens) s₁ := by
    intro H hO hS hok hA
    -- what stands in a namespace, or in the written part, is not tracked
    have free : ∀ {b : Addr} {o : Obj}, s₁.heap.get? b = some o → (∀ es ep, o.data = .dict es ep → True) → (b = a → False) → H b = none := fun {b o} _ _ nb => by
      cases q : H b with
      | none => rfl
      | some u => exact (nb (hA b (by rw [q]; exact fun z => by cases z)).1).elim
    have nsK : ∀ {b : Addr} {m : Str → Option Value}, s₁.heap.Ns b m → (hidT s₁.heap H).Ns b m := fun {b m} n => by
      obtain ⟨o, es, ep, e, d, rr⟩ := n
      refine ⟨o, es, ep, hidT_get e (free e (fun _ _ _ => trivial) fun z => ?_), d, rr⟩
      rw [z, ha] at e
      cases e
      cases d
    have kB : K.In (hidT s₁.heap H) := fun b o e => hidT_get (KX b o e) (by
      cases q : H b with
      | none => rfl
      | some u =>
        obtain ⟨z1, z2⟩ := hA b (by rw [q]; exact fun z => by cases z)
        rw [z1, z2] at e
        cases e)
    have hM : Mod K mg (hidT s₁.heap H) := ⟨kB, nsK hns, ⟨mb, nsK hb, hbb⟩, by obtain ⟨mc, h1, h2⟩ := hlim; exact ⟨mc, nsK h1, h2⟩⟩
    have e0 : Env0 P w K mg (hidT s₁.heap H) callerA [] s₁ H :=
      { frames := rfl, mod := hM, bs := fun b o e => of_hidT e, bsz := Nat.le_of_eq (hidT_size _ _), funs := trivial, frf := fun b hb => absurd (show b ∈ ([] : List Addr) from hb) (by simp), hok := hok, bare := .of_eq hgen }
    refine codeAny_mono ((F _ kB (nsK hns)).go callerA [] s₁ H ⟨[.ref a], []⟩ [.ref a] [.ref a] _ _ rfl hr e0 (hbind s₁ (.ref a)) (.cons rfl .nil) (hsp H hO hS)) ?_
    intro rs s' h
    match rs, h with
    | .error e, h => exact (hCX H e s' h).elim
    | .ok (.ret u), h =>
      obtain ⟨v, H', os, bare, un, hok', r', q⟩ := h
      cases (show v = .bl true from q)
      cases (show u = Value.bool true from r')
      refine ⟨rfl, OldK.of_keep fun b o e => ?_, os, bare⟩
      cases q : H b with
      | none => exact un.keep b o e q (fun z => absurd (show b ∈ ([] : List Addr) from z) (by simp)) (by simp)
      | some u =>
        rcases hO b with z | ⟨ob, xs, z⟩
        · rw [q] at z
          cases z
        · have h1 := (hok b _ z).1
          have h2 := (hok' b _ (un.frzs b ob _ z)).1
          rw [e] at h1
          cases h1
          exact h2
  cases hk : K.lookup a with
  | some o =>
    have e := KX a o hk
    rw [ha] at e
    cases e
    exact run (fun _ => none) (fun _ => .inl rfl) (.inr ⟨_, vs.toArray, _, hk, rfl, rfl, rfl, by rw [List.size_toArray, lv]; exact hl, by simpa using rv⟩) (fun b u z => by have z' : (none : Option HO) = some u := z; cases z') (fun b z => absurd rfl z)
  | none =>
    let Hs : Hp := fun b => if b = a then some (.frz { cls := .type "list", data := .seq vs.toArray } (.lst (ns.map V.int))) else none
    have at_a : Hs a = some (.frz { cls := .type "list", data := .seq vs.toArray } (.lst (ns.map V.int))) := if_pos rfl
    have off : ∀ b, b ≠ a → Hs b = none := fun b h => if_neg h
    refine run Hs (fun b => ?_) (.inl (.inr ⟨_, at_a⟩)) (fun b u z => ?_) (fun b z => ⟨?_, hk⟩)
    · by_cases h : b = a
      · rw [h]; exact .inr ⟨_, _, at_a⟩
      · exact .inl (off b h)
    · by_cases h : b = a
      · subst h
        rw [at_a] at z
        cases z
        exact ⟨ha, by rw [List.length_map]; exact hl, vs, _, rv, ha⟩
      · rw [off b h] at z
        cases z
    · by_cases h : b = a
      · exact h
      · exact absurd (off b h) z
theorem walkG {l : PySem.W.OpenLaw} {n k : Nat} {q : Program} {loose : List Str} {XP : (Str → Option Value) → Heap → Prop} {YP : World → Heap → Prop} {d : DefRec} {K : Params → PySem.W.Frag} {CX : World → CXT} {sp : World → Sp} {x : Str}
    (hn : l.most = some n) (hn2 : n ≤ sizeLine) (hdf : d.params.defaults = []) (hr : Room k callerA)
    (hY : ∀ (w : World) (h : Heap), YP w h → (K w.params).In h)
    (F : ∀ (w : World) (mg : Str → Option Value) (fa : Addr) (h : Heap), (K w.params).In h → h.Ns mainGlobals mg → mg d.name = some (.ref fa) →
      ∃ fd : FuncData, (∀ (s : Shared) (u : Value), BindsTo s fd ⟨[u], []⟩ [(x, u)]) ∧
        ∀ base : Heap, (K w.params).In base → base.Ns mainGlobals mg → FnG l.prog w (K w.params) mg base (CX w) k fa fd [x] (sp w))
    (hsp : ∀ (w : World) (H : Hp) (a : Addr) (ns : List Int), ns.length ≤ n → (∀ z ∈ ns, Builtin.Int.intBits z ≤ 1048576) → Only H → SqL (K w.params) H a (ns.map V.int) → sp w [.ref a] H (fun v _ => v = .bl true) fun _ _ _ => False)
    (hCX : ∀ (w : World) (H : Hp) (s : Shared) (e : Value) (s' : Shared), CX w [] H s (fun _ _ _ => False) e s' → False) :
    PySem.W.WalkO q loose XP YP l.row.toRowW d [] (fun f vs => PySem.call f vs) := by
  refine Att.attach_callB hn hdf ?_
  intro w s₀ s₁ mg mb fa o pm cd doc a vs ns G Y ho hd hcd hmg hobj hints hlen hbits hgen
  obtain ⟨fd, hb, hF⟩ := F w mg fa _ (hY w _ Y) G.T.g hmg
  exact enterG (hY w _ Y) G.T.g G.T.b G.T.builtins G.T.nolimit hgen hobj hints (Nat.le_trans hlen hn2) hr hF hb (fun H hO hS => hsp w H a ns hlen hbits hO hS) fun H e s' => hCX w H s₁ e s'
/-- the same where the promise hangs on the written part alone -/
theorem walkK {l : PySem.W.OpenLaw} {n k : Nat} {q : Program} {loose : List Str} {XP : (Str → Option Value) → Heap → Prop} {YP : World → Heap → Prop} {d : DefRec} {K : Params → PySem.W.Frag} {CX : CXT} {sp : PySem.W.Frag → Sp} {x : Str}
    (hn : l.most = some n) (hn2 : n ≤ sizeLine) (hdf : d.params.defaults = []) (hr : Room k callerA) (hY : ∀ (w : World) (h : Heap), YP w h → (K w.params).In h)
    (F : ∀ (w : World) (mg : Str → Option Value) (fa : Addr) (h : Heap), (K w.params).In h → h.Ns mainGlobals mg → mg d.name = some (.ref fa) →
      ∃ fd : FuncData, (∀ (s : Shared) (u : Value), BindsTo s fd ⟨[u], []⟩ [(x, u)]) ∧ ∀ base : Heap, (K w.params).In base → base.Ns mainGlobals mg → FnG l.prog w (K w.params) mg base CX k fa fd [x] (sp (K w.params)))
    (hsp : ∀ (K : PySem.W.Frag) (H : Hp) (a : Addr) (ns : List Int), ns.length ≤ n → Only H → SqL K H a (ns.map V.int) → sp K [.ref a] H (fun v _ => v = .bl true) fun _ _ _ => False)
    (hCX : ∀ (H : Hp) (s : Shared) (e : Value) (s' : Shared), CX [] H s (fun _ _ _ => False) e s' → False) : PySem.W.WalkO q loose XP YP l.row.toRowW d [] (fun f vs => PySem.call f vs) :=
  walkG (K := K) (CX := fun _ => CX) (sp := fun w => sp (K w.params)) hn hn2 hdf hr hY F (fun w H a ns h1 _ h2 h3 => hsp (K w.params) H a ns h1 h2 h3) fun _ H s e s' => hCX H s e s'
end Dz

set_option Elab.async false
set_option linter.all false
set_option maxRecDepth 100000
set_option maxHeartbeats 2000000
/-! repr of data; errors of the program's own as values; isinstance of these. -/
namespace Dz
open PySem PySem.Spec PyProof.Rows L2
section
variable {X : Cx}
/-- repr(x), x data without dicts -/
def rShow (K : PySem.W.Frag) : List V → Hp → VK → Prop := fun xs H Q => ∃ v d, xs = [v] ∧ Dp K H v d ∧ d.showable = true ∧ d.hasDict = false ∧ d.depth ≤ 60 ∧ d.shown.length ≤ sizeLine ∧ Q (.str d.shown) H
theorem call_show {k : Nat} (hg : Calm X.A) (hr : Room k X.A) : CallR X (.builtin "repr") (rShow X.K) := by
  intro pins s σ H xs us Q I r h
  obtain ⟨v, d, rfl, hd, hs, hn, hp, hz, q⟩ := h
  cases r with
  | @cons _ u _ _ rv rn =>
  cases rn
  have hu := hr.units
  cases hd with
  | non => cases rv; exact PySem.P.repr_of_none ⟨.str _, H, I.tok _, ⟨_, rfl⟩, q⟩
  | bl b => cases rv; exact PySem.P.repr_of_bool ⟨.str _, H, I.tok _, ⟨_, rfl⟩, q⟩
  | int i =>
    obtain ⟨t, rfl⟩ := rv
    exact PySem.P.repr_of_int (of_decide_eq_true hs) ⟨.str _, H, I.tok _, ⟨_, rfl⟩, q⟩
  | str x =>
    obtain ⟨t, rfl⟩ := rv
    exact PySem.P.repr_of_str ⟨.str _, H, I.tok _, ⟨_, rfl⟩, q⟩ hz
  | lst h1 h2 =>
    cases rv
    obtain ⟨as, rd⟩ := Dp.reads I _ _ _ (Dp.lst h1 h2) rfl
    exact repr_of_reads' rd hs (PyData.noDict_hsm hn) hg (by omega) (fun _ _ e => e) (fun h' u tk hk => ⟨.str _, H, I.kept hk, ⟨_, rfl⟩, q⟩) hz
  | tup h1 h2 =>
    cases rv
    obtain ⟨as, rd⟩ := Dp.reads I _ _ _ (Dp.tup h1 h2) rfl
    exact repr_of_reads' rd hs (PyData.noDict_hsm hn) hg (by omega) (fun _ _ e => e) (fun h' u tk hk => ⟨.str _, H, I.kept hk, ⟨_, rfl⟩, q⟩) hz

/-! ### own errors -/
/-- W.__init__(self, ..), W the own class above it: what stands there is ValueError's -/
structure UpC (K : PySem.W.Frag) (W : Addr) (mc : Value) : Prop where
  rd : PySem.W.readsIn K W mc = true
  ga : PySem.W.specialIn K (.ref W) "__getattribute__" = some (some (.builtin "type.__getattribute__"))
  at_ : PySem.W.findCls K (.ref W) mc "__init__" = some (.val (.builtin "ValueError.__init__"))
theorem pe_upinit {x : Str} {W : Addr} {mc : Value} {e : Expr} {es : List Expr} {ta : TA} {p1 p2 pos : Pos} {pl : Sem Bool} (hg : Gl X x) (hm : X.mg x = some (.ref W)) (U : UpC X.K W mc) (ha : PA X (e :: es) ta)
    (hdb : (x == ("__debug__" : Str)) = false := by decide)
    (hc : eval (.Call (.Attribute (.Name x p1) "__init__" p2) (e :: es) [] pos) X.env = (do
      let ov ← eval (.Name x p1) X.env
      standAt p2.atName
      let (f, first) ← holding [ov] (getMethod ov "__init__" pl)
      callWith pos f first (backTo pos (starEach (e :: es) X.env)) (backToKw pos (keywordEach [] X.env))) := by rfl)
    (he : starEach (e :: es) X.env = (false, eval e X.env) :: starEach es X.env := by rfl) (hpl : (backTo pos (starEach es X.env)).any (·.1) = false := by rfl) :
    PE X (.Call (.Attribute (.Name x p1) "__init__" p2) (e :: es) [] pos) (tVeI X.K ta) := by
  constructor
  intro pins s σ H Q I h
  refine PySem.W.methodCall_KW (ld_glob I hg hm ?_ hdb) hc
  refine PySem.W.method_cls I.kIn U.ga (PySem.W.cls_value I.kIn U.rd U.at_ rfl ?_)
  show wpAny _ _ (callWith pos (Value.builtin "ValueError.__init__") [] (backTo pos (starEach (e :: es) X.env)) []) _ _ _
  refine PyProof.Rows.callWith_method1 (thn (ha.run pos pins _ σ H _ (I.tok _) h) ?_) he hpl
  rintro us s1 ⟨vs, H1, I1, r1, a, C, ws, rfl, hl, T, ea, q⟩
  cases r1 with
  | @cons _ u0 _ ur ra rw' =>
    cases (show u0 = Value.ref a from ra)
    refine oinit_ok T I1 ea ?_ fun s' J => ⟨.non, H1, J, rfl, q⟩
    rw [← Paired.length rw', sizeLine_eq]
    omega
/-- C(e, ..) as a value: the error at a, its __init__ keeping sp -/
theorem call_err {CX : CXT} {C fI : Addr} {k : Nat} {fd : FuncData} {ps : List Str} {sp : Sp} {E : XK} (T : OexC X.K C) (iC : PySem.W.findIn X.K (.ref C) "__init__" = some (some (.ref fI)))
    (tI : PySem.W.typeIn X.K (.ref fI) = some (.type "function")) (F : FnG X.prog X.w X.K X.mg X.base CX k fI fd ps sp) (hcl : Calm X.A) (hr : Room (k + 1) X.A) (hb : Binds X.K fd ps []) (hx : Passes CX X E) :
    CallR X (.ref C) (fun vs H Q => vs.length ≤ 1000 ∧ ∀ a, H a = none → sp (.ref a :: vs) (upd H a (exo a C none)) (fun v H2 => v = .non ∧ Q (.ref a) H2) E) := by
  intro pins s σ H vs us Q I r1 h
  obtain ⟨hz, q1⟩ := h
  obtain ⟨nm, qn, N, bs, bm, sn, sub, ab, col, dd, k0, k1, k2, k3, k5, hC, hbm⟩ := T.cls
  obtain ⟨hp, g, dr, tk, os⟩ := s
  have above : hp.objs.size ≤ hp.objs.size + 1 := Nat.le_succ _
  have hq := q1 (hp.objs.size + 1) (I.hok.fresh above)
  have kk : ∀ b o, hp.get? b = some o → ((hp.push (PySem.W.kdv_tup us)).push (PySem.HandSPX.excO C hp.objs.size)).get? b = some o := fun b o e => Heap.get?_push_of_some _ (Heap.get?_push_of_some _ e)
  have got : ((hp.push (PySem.W.kdv_tup us)).push (PySem.HandSPX.excO C hp.objs.size)).get? (hp.objs.size + 1) = some (PySem.HandSPX.excO C hp.objs.size) := by heap_get
  have I2 : Inv X pins σ (upd H (hp.objs.size + 1) (exo (hp.objs.size + 1) C none)) ⟨(hp.push (PySem.W.kdv_tup us)).push (PySem.HandSPX.excO C hp.objs.size), g, dr, tk, os⟩ := I.laid (t' := tk) kk above (exo_ok got)
  have r2 : Vals (V.ref (hp.objs.size + 1) :: vs) (Value.ref (hp.objs.size + 1) :: us) := .cons rfl r1
  have ll : (Value.ref (hp.objs.size + 1) :: us ++ []).length = ps.length := by
    rw [List.append_nil, ← r2.length]
    exact F.ln _ _ _ _ hq
  have lu : us.length ≤ sizeLine := by
    rw [← Paired.length r1, sizeLine_eq]
    omega
  have bnd := hb ⟨(hp.push (PySem.W.kdv_tup us)).push (PySem.HandSPX.excO C hp.objs.size), g, dr, tk, os⟩ (Value.ref (hp.objs.size + 1) :: us) I2.kIn ll
  rw [List.append_nil] at bnd
  have cal : Calm (X.A.under (.builtin "type.__call__" ⟨.ref C :: us, []⟩)) := by
    unfold Calm at hcl ⊢
    simp [Around.under, Code.guards, Code.isGuard, pushGuards, guardIds, hcl]
  refine wpAny_call (PySem.HandSPX.call_own PySem.F.excBase_ValueError (fun Y => PySem.HandSPX.refsVE_contains Y bm hbm) (I.kIn _ _ hC) (PySem.W.looks_findIn I.kIn iC) (fun self => PySem.W.bind_fn I.kIn self tI) lu
    (codeAny_mono (F.go _ X.stack _ _ ⟨Value.ref (hp.objs.size + 1) :: us, []⟩ (Value.ref (hp.objs.size + 1) :: us) _ _ E cal (hr.make C us []) (I2.env0.make C us []) bnd r2 hq) ?_))
  intro rs s' hq'
  match rs, hq' with
  | .error er, hq' => exact hx pins σ _ _ er s' I2 hq'
  | .ok (.ret u), hq' =>
    obtain ⟨v, H2, I3, rv, ev, q2⟩ := I2.after hq'
    subst ev
    exact ⟨rv, V.ref (hp.objs.size + 1), H2, I3, rfl, q2⟩
end
end Dz

set_option Elab.async false
set_option linter.all false
set_option maxRecDepth 100000
set_option maxHeartbeats 2000000
/-! Readings, step by step. -/
namespace Dz
open PySem PySem.Spec PyProof.Rows L2

/-- a def of the text that keeps its promise, whatever its record is -/
structure Kp (P : Program) (w : World) (K : PySem.W.Frag) (mg : Str → Option Value) (base : Heap) (CX : CXT) (k : Nat) (f : Addr) (ps : List Str) (ds : List Value) (sp : Sp) : Prop where
  ex : ∃ fd, FnG P w K mg base CX k f fd ps sp ∧ Binds K fd ps ds
/-- a def of the module -/
structure Df (K : PySem.W.Frag) (mg : Str → Option Value) (x : Str) (st : Stmt) (f : Addr) : Prop where
  ex : ∃ fd, Fun K x x st f fd
  mg : mg x = some (.ref f)
  kp : PySem.W.keepIn K (.ref f) = true
/-- a name of the module that holds v -/
def Gv (mg : Str → Option Value) (x : Str) (v : V) : Prop := ∃ u, mg x = some u ∧ RelV v u
section
variable {X : Cx} {CX : CXT} {k : Nat} {f C : Addr} {ps : List Str} {sp : Sp} {dvs : List V} {ds : List Value} {E : XK} {x m : Str} {p pos apos : Pos} {e o : Expr} {es : List Expr} {ta : TE} {t : TA}
theorem callK (F : Kp X.prog X.w X.K X.mg X.base CX k f ps ds sp) (hg : Calm X.A) (hr : Room k X.A) (hd : Vals dvs ds) (hx : Passes CX X E) :
    CallR X (.ref f) (fun vs H Q => sp (vs ++ dvs) H Q E) := by
  obtain ⟨fd, G, b⟩ := F.ex
  exact callR_fn G hg hr b hd hx
theorem callK0 (F : Kp X.prog X.w X.K X.mg X.base CX k f ps [] sp) (hg : Calm X.A) (hr : Room k X.A) (hx : Passes CX X E) :
    CallR X (.ref f) (fun vs H Q => sp vs H Q E) := fun pins s σ H xs us Q I r h => callK (dvs := []) F hg hr .nil hx pins s σ H xs us Q I r (by show sp (xs ++ []) H Q E; rw [List.append_nil]; exact h)
theorem pe_gv {v : V} (hg : Gl X x) (h : Gv X.mg x v) (hd : (x == ("__debug__" : Str)) = false := by decide) : PE X (.Name x pos) (tC v) := by
  obtain ⟨u, hm, r⟩ := h
  exact pe_glob hg hm r hd
theorem calm_in {A : Around} {env : Env} (h : Calm A) : Calm (A.deeper env) := h
end

/-! ### the steps -/
section
variable {σ : L2.St} {H : Hp} {Q : VK} {i : Nat} {v x y : V} {ta tb te : TE} {t : TA} {nx : L2.St → Hp → Prop} {rt : VK} {bk ct : L2.St → Hp → Prop} {a u : TS} {tt tu : TT}
theorem w_var (h : σ[i]? = some (some v)) (k : Q v H) : tVar i σ H Q := ⟨v, h, k⟩
theorem w_varE (k : ∃ v, σ[i]? = some (some v) ∧ Q v H) : tVar i σ H Q := k
theorem w_c (k : Q v H) : tC v σ H Q := k
theorem w_op {r : R2} (k : ta σ H fun x H1 => tb σ H1 fun y H2 => r x y H2 Q) : tOp r ta tb σ H Q := k
theorem w_un {r : V → Hp → VK → Prop} (k : ta σ H fun x H1 => r x H1 Q) : tUn r ta σ H Q := k
theorem w_rI {C : Int → Int → Prop} {g : Int → Int → V} {i j : Int} (hc : C i j) (k : Q (g i j) H) : rI C g (.int i) (.int j) H Q := ⟨i, j, rfl, rfl, hc, k⟩
theorem w_rI0 {g : Int → Int → V} {i j : Int} (k : Q (g i j) H) : rI0 g (.int i) (.int j) H Q := ⟨i, j, rfl, rfl, k⟩
theorem w_rU {g : Int → V} {i : Int} (k : Q (g i) H) : rU g (.int i) H Q := ⟨i, rfl, k⟩
theorem w_rEq (hs : scal x y = true) (k : Q (.bl (decide (x = y))) H) : rEq x y H Q := ⟨hs, k⟩
theorem w_rNe (hs : scal x y = true) (k : Q (.bl (!decide (x = y))) H) : rNe x y H Q := ⟨hs, k⟩
theorem w_nil {Q : List V → Hp → Prop} (k : Q [] H) : tNil σ H Q := k
theorem w_cons {Q : List V → Hp → Prop} {tr : TA} (k : ta σ H fun x H1 => tr σ H1 fun xs H2 => Q (x :: xs) H2) : tCons ta tr σ H Q := k
/-- a new list, a new tuple -/
def NewL (xs : List V) (H : Hp) (Q : VK) : Prop := ∀ p, H p = none → Q (.ref p) (upd H p (.lst xs))
def NewT (xs : List V) (H : Hp) (Q : VK) : Prop := ∀ p, H p = none → Q (.ref p) (upd H p (.tup xs))
theorem w_lst (k : t σ H fun xs H1 => xs.length ≤ sizeLine ∧ NewL xs H1 Q) : tLst t σ H Q := k
theorem w_tup (k : t σ H fun xs H1 => xs.length ≤ sizeLine ∧ NewT xs H1 Q) : tTup t σ H Q := k
theorem w_ixL {K : PySem.W.Frag} {p : Addr} {xs : List V} {i : Int} (h : SqL K H p xs) (ha : atI xs i = some v) (k : Q v H) : rIxL K (.ref p) (.int i) H Q := ⟨p, xs, i, v, rfl, rfl, h, ha, k⟩
theorem w_cb {r : List V → Hp → VK → Prop} (k : t σ H fun vs H1 => r vs H1 Q) : tCB r t σ H Q := k
theorem w_test {Q : Bool → Hp → Prop} (k : te σ H fun x H1 => ∃ b, x = .bl b ∧ Q b H1) : tTest te σ H Q := k
theorem w_B {Q : Bool → Hp → Prop} (k : te σ H fun x H1 => ∃ b, x = .bl b ∧ Q b H1) : tB te σ H Q := k
theorem w_bl {Q : Bool → Prop} {b : Bool} (k : Q b) : ∃ c, V.bl b = .bl c ∧ Q c := ⟨b, rfl, k⟩
theorem w_notV (k : ta σ H fun x H1 => ∃ c, x = .bl c ∧ Q (.bl (!c)) H1) : tNotV ta σ H Q := k
theorem w_andV (k : ta σ H fun x H1 => ∃ c, x = .bl c ∧ if c = true then tb σ H1 Q else Q (.bl false) H1) : tAndV ta tb σ H Q := k
theorem w_orV (k : ta σ H fun x H1 => ∃ c, x = .bl c ∧ if c = true then Q (.bl true) H1 else tb σ H1 Q) : tOrV ta tb σ H Q := k
theorem w_not {Q : Bool → Hp → Prop} (k : tt σ H fun c H1 => Q (!c) H1) : tNot tt σ H Q := k
theorem w_and {Q : Bool → Hp → Prop} (k : tt σ H fun c H1 => if c = true then tu σ H1 Q else Q false H1) : tAnd tt tu σ H Q := k
theorem w_or {Q : Bool → Hp → Prop} (k : tt σ H fun c H1 => if c = true then Q true H1 else tu σ H1 Q) : tOr tt tu σ H Q := k
theorem w_ifE (k : tt σ H fun c H1 => if c = true then ta σ H1 Q else tb σ H1 Q) : tIf tt ta tb σ H Q := k
theorem w_seq (k : a ⟨u ⟨nx, rt, bk, ct⟩, rt, bk, ct⟩ σ H) : tSeq a u ⟨nx, rt, bk, ct⟩ σ H := k
theorem w_next (k : nx σ H) : tNext ⟨nx, rt, bk, ct⟩ σ H := k
theorem w_ret (k : te σ H rt) : tRet te ⟨nx, rt, bk, ct⟩ σ H := k
theorem w_asg {g : TG} (k : te σ H fun x H1 => g x σ H1 nx) : tAsg te g ⟨nx, rt, bk, ct⟩ σ H := k
theorem w_gn (k : nx (σ.set i (some v)) H) : gName i v σ H nx := k
theorem w_gsub {to ti : TE} {ts : TSet} (k : to σ H fun o H1 => ti σ H1 fun i H2 => ts o i v H2 fun H3 => nx σ H3) : gSub to ti ts v σ H nx := k
theorem w_setL {p : Addr} {xs : List V} {k : Int} {j : Nat} {Q : Hp → Prop} (h : H p = some (.lst xs)) (hj : ixN xs.length k = some j) (q : Q (upd H p (.lst (xs.set j v)))) : rSetL (.ref p) (.int k) v H Q := ⟨p, xs, k, j, rfl, rfl, h, hj, q⟩
theorem w_drop (k : te σ H fun _ H1 => nx σ H1) : tDrop te ⟨nx, rt, bk, ct⟩ σ H := k
theorem w_ifS (k : tt σ H fun b H1 => if b = true then a ⟨nx, rt, bk, ct⟩ σ H1 else u ⟨nx, rt, bk, ct⟩ σ H1) : tIfS tt a u ⟨nx, rt, bk, ct⟩ σ H := k
theorem w_ite {p : Prop} [Decidable p] {A B : Prop} (h1 : p → A) (h2 : ¬ p → B) : if decide p = true then A else B := by
  by_cases h : p
  · rw [if_pos (decide_eq_true h)]; exact h1 h
  · rw [if_neg (by simpa using h)]; exact h2 h
theorem w_iteB {b : Bool} {A B : Prop} (h1 : b = true → A) (h2 : b = false → B) : if b = true then A else B := by
  cases b
  · exact h2 rfl
  · exact h1 rfl
theorem w_itT {b : Bool} {A B : Prop} (e : b = true) (h : A) : if b = true then A else B := by rw [if_pos e]; exact h
theorem w_itF {b : Bool} {A B : Prop} (e : b = false) (h : B) : if b = true then A else B := by rw [if_neg (by rw [e]; decide)]; exact h
theorem atI_of {xs : List V} {i : Int} {v : V} (h0 : 0 ≤ i) (h : xs[i.toNat]? = some v) : atI xs i = some v := by
  have e : i = ((i.toNat : Nat) : Int) := (Int.toNat_of_nonneg h0).symm
  rw [e]
  exact atI_nat h
theorem sz_ok {n : Nat} (h : n ≤ 1000) : n ≤ sizeLine := Nat.le_trans h (by decide)
end
/-! ### heaps -/
/-- all but p is as it was -/
def Bt (p : Addr) (H H' : Hp) : Prop := ∀ b o, b ≠ p → H b = some o → H' b = some o
theorem Bt.refl {p : Addr} {H : Hp} : Bt p H H := fun _ _ _ h => h
theorem Bt.trans {p : Addr} {H H1 H2 : Hp} (a : Bt p H H1) (b : Bt p H1 H2) : Bt p H H2 := fun c o n h => b c o n (a c o n h)
theorem Bt.new {p q : Addr} {H : Hp} {o : HO} (h : H q = none) : Bt p H (upd H q o) := fun b u _ e => by rw [upd_ne (ne_of_none e h)]; exact e
theorem Bt.at_ {p : Addr} {H : Hp} {o : HO} : Bt p H (upd H p o) := fun b u n e => by rw [upd_ne n]; exact e
theorem Bt.of {p : Addr} {H H' : Hp} (e : Same H H') : Bt p H H' := fun b o _ h => e b o h
theorem same_new {q : Addr} {H : Hp} {o : HO} (h : H q = none) : Same H (upd H q o) := fun b u e => by rw [upd_ne (ne_of_none e h)]; exact e
theorem Bt.back {p q : Addr} {H H' : Hp} (e : Bt p H H') (n : q ≠ p) (h : H' q = none) : H q = none := by
  cases h1 : H q with
  | none => rfl
  | some o => rw [e q o n h1] at h; cases h
theorem Bt.rd {K : PySem.W.Frag} {p a : Addr} {H H' : Hp} {xs : List V} (e : Bt p H H') (n : a ≠ p) (h : SqL K H a xs) : SqL K H' a xs := by
  rcases h with (h | ⟨o, h⟩) | h
  · exact .inl (.inl (e _ _ n h))
  · exact .inl (.inr ⟨o, e _ _ n h⟩)
  · exact .inr h
end Dz

set_option Elab.async false
set_option linter.all false
set_option maxRecDepth 100000
set_option maxHeartbeats 2000000
/-! Loops; kinds of things; isinstance. -/
namespace Dz
open PySem PySem.Spec PyProof.Rows L2
section
variable {σ : L2.St} {H : Hp} {Q : VK} {te tl : TE} {ta : TA} {nx : L2.St → Hp → Prop} {rt : VK} {bk ct : L2.St → Hp → Prop} {tb u : TS} {g : TG} {tt : TT} {vs : List Nat} {K : PySem.W.Frag} {wi : TI} {D : Ends}
/-- what a comprehension, a for asks of its walk J -/
def LcW (J : It) (g : TG) (tt : TT) (te : TE) (vs : List Nat) (σ : L2.St) (H : Hp) (Q : VK) : Prop := ∀ D, H D = none → ∃ W : Nat → Nat → Hp → Prop, (∃ m, W 0 m (upd H D (.lst []))) ∧ ∀ i m H, W i m H → (J.stop i H ∧ Q (.ref D) H) ∨ (J.go i H ∧ ∃ Nx : Hp → Prop, (∀ H', Nx H' → ∃ m', m' < m ∧ W (i + 1) m' H') ∧
      ∀ x H', J.yld i H x H' → g x (wipe σ vs) H' fun σ2 H2 => wipe σ2 vs = wipe σ vs ∧ tt σ2 H2 fun b H3 =>
        if b = true then te σ2 H3 fun y H4 => ∃ acc, H4 D = some (.lst acc) ∧ acc.length < sizeLine ∧ Nx (upd H4 D (.lst (acc ++ [y]))) else Nx H3)
def ForW (J : It) (g : TG) (tb : TS) (D : Ends) (σ : L2.St) (H : Hp) : Prop := ∃ W : Nat → Nat → L2.St → Hp → Prop, (∃ m, W 0 m σ H) ∧ ∀ i m σ H, W i m σ H → (J.stop i H ∧ D.nx σ H) ∨ (J.go i H ∧ ∃ N : L2.St → Hp → Prop, (∀ σ' H', N σ' H' → ∃ m', m' < m ∧ W (i + 1) m' σ' H') ∧
      ∀ x H', J.yld i H x H' → g x σ H' fun σ2 H2 => tb { D with nx := N, ct := N, bk := D.nx } σ2 H2)
theorem w_lc (k : wi σ H fun J H1 => LcW J g tt te vs σ H1 Q) : tLc wi g tt te vs σ H Q := k
theorem w_for (k : wi σ H fun J H1 => ForW J g tb D σ H1) : tFor wi g tb D σ H := k
theorem w_iR1 {R : It → Hp → Prop} (k : ta σ H fun xs H1 => ∃ j : Int, xs = [.int j] ∧ -(2 ^ 62) ≤ j ∧ j < 2 ^ 62 ∧ R (Itr 0 j.toNat) H1) : iRng1 ta σ H R := k
theorem w_iL {R : It → Hp → Prop} (k : tl σ H fun x H1 => ∃ a, x = .ref a ∧ (∃ xs, SqL K H1 a xs) ∧ R (Itl K a) H1) : iList K tl σ H R := k
theorem w_iT {R : It → Hp → Prop} (k : tl σ H fun x H1 => ∃ a, x = .ref a ∧ (∃ xs, SqT K H1 a xs) ∧ R (Itt K a) H1) : iTup K tl σ H R := k
theorem w_iS {R : It → Hp → Prop} (k : tl σ H fun x H1 => ∃ z, x = .str z ∧ R (Its z) H1) : iStr tl σ H R := k
theorem w_rng1 {Q : Int → Prop} {n : Int} (h : -(2 ^ 62) ≤ n ∧ n < 2 ^ 62) (k : Q n) : ∃ j : Int, [V.int n] = [V.int j] ∧ -(2 ^ 62) ≤ j ∧ j < 2 ^ 62 ∧ Q j := ⟨n, rfl, h.1, h.2, k⟩
theorem w_lst1 {Q : Addr → Prop} {a : Addr} {xs : List V} (h : SqL K H a xs) (k : Q a) : ∃ b, V.ref a = .ref b ∧ (∃ xs, SqL K H b xs) ∧ Q b := ⟨a, rfl, ⟨xs, h⟩, k⟩
theorem w_tup1 {Q : Addr → Prop} {a : Addr} {xs : List V} (h : SqT K H a xs) (k : Q a) : ∃ b, V.ref a = .ref b ∧ (∃ xs, SqT K H b xs) ∧ Q b := ⟨a, rfl, ⟨xs, h⟩, k⟩
theorem w_str1 {Q : Str → Prop} {z : Str} (k : Q z) : ∃ y, V.str z = .str y ∧ Q y := ⟨z, rfl, k⟩
/-- what a comprehension of n turns asks, x its i-th thing: Pv of the turn and the heap; D is where its list stands -/
def Lcs (n : Nat) (Gd : Hp → Prop) (Yd : Nat → V → Prop) (g : TG) (tt : TT) (te : TE) (vs : List Nat) (σ : L2.St) (H : Hp) (Q : VK) : Prop := ∀ D, H D = none → ∃ Pv : Nat → Hp → Prop, Pv 0 (upd H D (.lst [])) ∧ (∀ i H, i ≤ n → Pv i H → Gd H) ∧
  (∀ i x H, i < n → Yd i x → Pv i H → g x (wipe σ vs) H fun σ2 H2 => wipe σ2 vs = wipe σ vs ∧ tt σ2 H2 fun b H3 =>
    if b = true then te σ2 H3 fun y H4 => ∃ acc, H4 D = some (.lst acc) ∧ acc.length < sizeLine ∧ Pv (i + 1) (upd H4 D (.lst (acc ++ [y]))) else Pv (i + 1) H3) ∧ ∀ H, Pv n H → Q (.ref D) H
theorem lcs_go {J : It} {n : Nat} {Gd : Hp → Prop} {Yd : Nat → V → Prop} (w : Walk J n Gd fun i H x H' => H' = H ∧ Yd i x) (k : Lcs n Gd Yd g tt te vs σ H Q) : LcW J g tt te vs σ H Q := by
  intro D hD
  obtain ⟨Pv, h0, hG, hs, hd⟩ := k D hD
  refine lc_it w Pv h0 hG (fun i x H H' hi p y => ?_) hd
  obtain ⟨rfl, y⟩ := y
  exact hs i x H' hi y p
/-- the same of a for: Pv by the turn, the slots, the heap -/
def Fors (n : Nat) (Gd : Hp → Prop) (Yd : Nat → V → Prop) (g : TG) (tb : TS) (D : Ends) (σ : L2.St) (H : Hp) : Prop := ∃ Pv : Nat → L2.St → Hp → Prop, Pv 0 σ H ∧ (∀ i σ H, i ≤ n → Pv i σ H → Gd H) ∧
  (∀ i x σ H, i < n → Yd i x → Pv i σ H → g x σ H fun σ2 H2 => tb ⟨Pv (i + 1), D.rt, D.nx, Pv (i + 1)⟩ σ2 H2) ∧ ∀ σ H, Pv n σ H → D.nx σ H
theorem fors_go {J : It} {n : Nat} {Gd : Hp → Prop} {Yd : Nat → V → Prop} (w : Walk J n Gd fun i H x H' => H' = H ∧ Yd i x) (k : Fors n Gd Yd g tb D σ H) : ForW J g tb D σ H := by
  obtain ⟨Pv, h0, hG, hs, hd⟩ := k
  refine for_it w Pv h0 hG (fun i x σ H H' hi p y => ?_) hd
  obtain ⟨rfl, y⟩ := y
  exact hs i x σ H' hi y p
theorem wk_range {n : Nat} : Walk (Itr 0 n) n (fun _ => True) fun i H x H' => H' = H ∧ x = .int (i : Nat) := (walk_range (lo := 0) (n := n)).mono (fun _ h => h) fun i H x H' _ _ y => ⟨y.1, y.2.trans (by show V.int (0 + (i : Int)) = V.int (i : Int); rw [Int.zero_add])⟩
theorem wk_list {a : Addr} {xs : List V} : Walk (Itl K a) xs.length (fun H => SqL K H a xs) fun i H x H' => H' = H ∧ xs[i]? = some x := walk_list
theorem wk_tup {a : Addr} {xs : List V} : Walk (Itt K a) xs.length (fun H => SqT K H a xs) fun i H x H' => H' = H ∧ xs[i]? = some x := walk_tup
theorem wk_str {z : Str} : Walk (Its z) z.cps.size (fun _ => True) fun i H x H' => H' = H ∧ ∃ c, z.cps[i]? = some c ∧ x = .str ⟨#[c]⟩ := walk_str
theorem w_gtup {n : Nat} {t : TGs} {a : Addr} {xs : List V} (h : SqT K H a xs) (hl : xs.length = n) (k : t xs σ H nx) : gTup K n t (.ref a) σ H nx := ⟨a, xs, rfl, h, hl, k⟩
theorem w_gcons {t : TG} {u : TGs} {v : V} {vs : List V} (k : t v σ H fun σ' H' => u vs σ' H' nx) : gCons t u (v :: vs) σ H nx := ⟨v, vs, rfl, k⟩
theorem w_gnil (k : nx σ H) : gNil [] σ H nx := ⟨rfl, k⟩
theorem w_tyes {Q : Bool → Hp → Prop} (k : Q true H) : tYes σ H Q := k
theorem w_max {i j : Int} (k : Q (.int (if j > i then j else i)) H) : ∃ a b, [V.int i, V.int j] = [V.int a, V.int b] ∧ Q (.int (if b > a then b else a)) H := ⟨i, j, rfl, k⟩
end

/-! ### kinds of things -/
/-- what isinstance asks of an error's class -/
structure EI (K : PySem.W.Frag) (C : Addr) : Prop where
  hcl : (PySem.W.clsIn K C).isSome = true
  hga : PySem.W.findIn K (.ref C) "__getattribute__" = some (some (.builtin "BaseException.__getattribute__"))
  hgt : PySem.W.findIn K (.ref C) "__getattr__" = some none
  hsub : PySem.W.subIn K (.ref C) (.type "BaseException") = some true
  hc : PySem.W.findIn K (.ref C) "__class__" = some (some (.builtin "object.__class__"))
  hn : PySem.W.specialIn K (.builtin "object.__class__") "__get__" = some (some (.builtin "getset_descriptor.__get__"))
  htk : PySem.W.takesIn K (.builtin "object.__class__") = some true
  hm : PySem.W.mroIn K C (.type "object") = some true
  k1 : PySem.W.kitOne K (.ref C) (.type "int") = some false
  k2 : PySem.W.kitOne K (.ref C) (.type "bool") = some false
  k3 : PySem.W.kitOne K (.ref C) (.type "str") = some false
  k4 : PySem.W.kitOne K (.ref C) (.type "list") = some false
  k5 : PySem.W.kitOne K (.ref C) (.type "tuple") = some false
  k6 : PySem.W.kitOne K (.ref C) (.type "dict") = some false
theorem kit_no {K : PySem.W.Frag} {C : Addr} {T : String} (hm : PySem.W.kitMeta T = true) (h : PySem.W.subIn K (.ref C) (.type T) = some false) : PySem.W.kitOne K (.ref C) (.type T) = some false := by
  unfold PySem.W.kitOne PySem.W.kitCls
  rw [if_neg (by intro z; cases z)]
  show (if PySem.W.kitMeta T = true then PySem.W.subIn K (.ref C) (.type T) else none) = some false
  rw [if_pos hm, h]
/-- a thing that stands, not at p -/
inductive Kn (K : PySem.W.Frag) (p : Addr) (H : Hp) : V → Prop
  | int (i : Int) : Kn K p H (.int i)
  | str (z : Str) : Kn K p H (.str z)
  | bl (b : Bool) : Kn K p H (.bl b)
  | non : Kn K p H .non
  | lst {a : Addr} {xs : List V} (n : a ≠ p) (e : H a = some (.lst xs)) : Kn K p H (.ref a)
  | tup {a : Addr} {xs : List V} (n : a ≠ p) (e : H a = some (.tup xs)) : Kn K p H (.ref a)
  | dct {a : Addr} {kvs : List (Key × V)} (n : a ≠ p) (e : H a = some (.dK kvs)) : Kn K p H (.ref a)
  | err {a d C : Addr} {fs : List (Str × V)} (n : a ≠ p) (m : d ≠ p) (e : H a = some (exo a C (some d))) (f : H d = some (exd d fs)) (T : EI K C) : Kn K p H (.ref a)
theorem Kn.mono {K : PySem.W.Frag} {p : Addr} {H H' : Hp} {v : V} (h : Kn K p H v) (e : Bt p H H') : Kn K p H' v := by
  cases h with
  | int i => exact .int i
  | str z => exact .str z
  | bl b => exact .bl b
  | non => exact .non
  | lst n q => exact .lst n (e _ _ n q)
  | tup n q => exact .tup n (e _ _ n q)
  | dct n q => exact .dct n (e _ _ n q)
  | err n m q f T => exact .err n m (e _ _ n q) (e _ _ m f) T
def isInt : V → Bool
  | .int _ => true
  | .bl _ => true
  | _ => false
def isBool : V → Bool
  | .bl _ => true
  | _ => false
def isStr : V → Bool
  | .str _ => true
  | _ => false
/-- isinstance(x, int), bool, str -/
def rIs (K : PySem.W.Frag) (n : String) (f : V → Bool) : List V → Hp → VK → Prop := fun xs H Q => ∃ p v, xs = [v, .ty n] ∧ Kn K p H v ∧ Q (.bl (f v)) H
section
variable {X : Cx} {n : String} {f : V → Bool}
theorem is_of (hi : ∀ t, kitB "int" n = some (f (.int t))) (hb : ∀ t, kitB "bool" n = some (f (.bl t))) (hs : ∀ t, kitB "str" n = some (f (.str t))) (hn : kitB "NoneType" n = some (f .non)) (hl : ∀ a, kitB "list" n = some (f (.ref a))) (ht : ∀ a, kitB "tuple" n = some (f (.ref a))) (hd : ∀ a, kitB "dict" n = some (f (.ref a)))
    (he : ∀ C a, EI X.K C → PySem.W.kitOne X.K (.ref C) (.type n) = some (f (.ref a))) : CallR X (.builtin "isinstance") (rIs X.K n f) := by
  intro pins s σ H xs us Q I r h
  obtain ⟨p, v, rfl, kn, q⟩ := h
  have base : ∀ {t : Value}, TyX X.K H v t → PySem.W.kitOne X.K t (.type n) = some (f v) → wpAny (model X.prog X.w) X.A (call (.builtin "isinstance") us) (EP X pins σ Q) X.xe s := fun {t} ty k =>
    call_isi pins s σ H [v, .ty n] us Q I r ⟨v, .ty n, t, .type n, f v, rfl, .ty n, ty, k, q⟩
  cases kn with
  | int i => exact base (.base (.int i)) (kit_ty (hi _))
  | str z => exact base (.base (.str z)) (kit_ty (hs _))
  | bl b => exact base (.base (.bl b)) (kit_ty (hb _))
  | non => exact base (.base .non) (kit_ty hn)
  | lst _ e => exact base (.base (.lst e)) (kit_ty (hl _))
  | tup _ e => exact base (.base (.tup e)) (kit_ty (ht _))
  | dct _ e => exact base (.base (.dK e)) (kit_ty (hd _))
  | @err a d C fs _ _ e g T =>
    cases r with
    | @cons _ u1 _ _ r1 r2 =>
    cases r2 with
    | @cons _ u2 _ _ r2 r3 =>
    cases r3
    cases (show u1 = Value.ref a from r1)
    cases (show u2 = Value.type n from r2)
    obtain ⟨t1, ho⟩ := exo_at I.hok e
    obtain ⟨mA, ⟨od, es, ep, hd', _⟩, _⟩ := exd_at I.hok g
    refine PySem.W.kia_one (PySem.W.kitx_exc T.hcl T.hga T.hgt T.hsub T.hc T.hn T.htk T.hm) I.kIn (show PySem.W.InstAt s.heap a _ C (some od) from ⟨ho, rfl, rfl, hd'⟩) (he C a T) (fun z => nomatch z) fun tk => ⟨.bl _, H, I.tok tk, rfl, q⟩
theorem call_isInt : CallR X (.builtin "isinstance") (rIs X.K "int" isInt) := by
  refine is_of ?_ ?_ ?_ ?_ ?_ ?_ ?_ (fun C a T => T.k1) <;> first | (intros; show kitB _ _ = some true; decide +kernel) | (intros; show kitB _ _ = some false; decide +kernel)
theorem call_isBool : CallR X (.builtin "isinstance") (rIs X.K "bool" isBool) := by
  refine is_of ?_ ?_ ?_ ?_ ?_ ?_ ?_ (fun C a T => T.k2) <;> first | (intros; show kitB _ _ = some true; decide +kernel) | (intros; show kitB _ _ = some false; decide +kernel)
theorem call_isStr : CallR X (.builtin "isinstance") (rIs X.K "str" isStr) := by
  refine is_of ?_ ?_ ?_ ?_ ?_ ?_ ?_ (fun C a T => T.k3) <;> first | (intros; show kitB _ _ = some true; decide +kernel) | (intros; show kitB _ _ = some false; decide +kernel)
/-- x is True, x an int or a truth -/
def rNotTr : R2 := fun x y H Q => (isInt x = true) ∧ ∃ b, y = .bl b ∧ Q (.bl (!decide (x = .bl b))) H
theorem op_isnotb : OpR X (compareOp .IsNot) rNotTr := by
  intro pins s σ H x y v u Q I rx ry h
  obtain ⟨hx, b, rfl, q⟩ := h
  cases (show u = Value.bool b from ry)
  cases x with
  | int i =>
    obtain ⟨t, rfl⟩ := rx
    exact wpAny_isNot_other rfl (fun z => nomatch z) ⟨.bl true, H, I, rfl, by simpa using q⟩
  | bl a =>
    cases (show v = Value.bool a from rx)
    by_cases e : a = b
    · subst e
      exact wpAny_isNot_self rfl ⟨.bl false, H, I, rfl, by simpa using q⟩
    · exact wpAny_isNot_other rfl (fun z => e (Value.bool.inj z)) ⟨.bl true, H, I, rfl, by simpa [e] using q⟩
  | _ => cases hx
end
end Dz

set_option Elab.async false
set_option linter.all false
set_option maxRecDepth 100000
set_option maxHeartbeats 2000000
/-! What the laws' own draws promise. -/
namespace Dz
open PySem PySem.Spec PyProof.Rows L2
/-- a bag of draws at p, from which at most c times a number was made -/
def Bg (H : Hp) (p : Addr) (c : Int) : Prop := ∃ a b k : Int, H p = some (.lst [.int a, .int b, .int k]) ∧ 0 ≤ a ∧ 0 ≤ b ∧ b < 2147483629 ∧ 0 ≤ k ∧ k ≤ c
theorem Bg.more {H : Hp} {p : Addr} {c d : Int} (h : Bg H p c) (e : c ≤ d) : Bg H p d := by
  obtain ⟨a, b, k, h1, h2, h3, h4, h5, h6⟩ := h
  exact ⟨a, b, k, h1, h2, h3, h4, h5, by omega⟩
theorem Bg.same {H H' : Hp} {p : Addr} {c : Int} (h : Bg H p c) (e : Same H H') : Bg H' p c := by
  obtain ⟨a, b, k, h1, r⟩ := h
  exact ⟨a, b, k, e _ _ h1, r⟩
theorem Bg.ne {H : Hp} {p q : Addr} {c : Int} (h : Bg H p c) (e : H q = none) : q ≠ p := by
  obtain ⟨a, b, k, h1, r⟩ := h
  exact (ne_of_none h1 e).symm
/-- _law_cell -/
def spCel (K : PySem.W.Frag) : Sp := fun vs H Q _ => ∃ (a : Addr) (ns : List Int) (k : Int), vs = [.ref a, .int k] ∧ SqL K H a (ns.map V.int) ∧ ns.length ≤ 63 ∧ 0 ≤ k ∧ k ≤ 1000 ∧ ∀ (z : Int) H', Same H H' → Q (.int z) H'
/-- _law_bag -/
def spBag : Sp := fun vs H Q _ => ∃ z : Int, vs = [.int z] ∧ ∀ p H', H p = none → Same H H' → Bg H' p 0 → Q (.ref p) H'
/-- _law_take -/
def spTake : Sp := fun vs H Q _ => ∃ (p : Addr) (n c : Int), vs = [.ref p, .int n] ∧ Bg H p c ∧ c ≤ 1000000 ∧ 0 < n ∧ n.natAbs < 2 ^ 200 ∧ ∀ (d : Int) H', 0 ≤ d → d < n → Bt p H H' → Bg H' p (c + 1) → Q (.int d) H'
theorem take_now {H : Hp} {Q : VK} {E : XK} {p : Addr} {n c : Int} (b : Bg H p c) (hc : c ≤ 1000000) (h0 : 0 < n) (hn : n.natAbs < 2 ^ 200)
    (k : ∀ (d : Int) H', 0 ≤ d → d < n → Bt p H H' → Bg H' p (c + 1) → Q (.int d) H') : spTake [.ref p, .int n] H Q E := ⟨p, n, c, rfl, b, hc, h0, hn, k⟩
theorem take_num {b k m : Int} (h0 : 0 ≤ b) (h1 : b < 2147483629) (h2 : 0 ≤ k) (h3 : k ≤ 1000000) (h4 : 0 ≤ m) (h5 : m ≤ 1000) : (b + 7919 * (k + 1) + m).natAbs < 2 ^ 64 := by
  have : b + 7919 * (k + 1) + m < 2 ^ 40 := by omega
  omega
theorem take_num2 {b k : Int} (h0 : 0 ≤ b) (h1 : b < 2147483647) (h2 : 0 ≤ k) (h3 : k ≤ 1000000) : (b + 15485863 * (k + 1)).natAbs < 2 ^ 64 := by
  have : b + 15485863 * (k + 1) < 2 ^ 50 := by omega
  omega
theorem ints3 {a b k : Int} : ([.int a, .int b, .int k] : List V) = [V.int a, V.int b, V.int k] := rfl
theorem atI0 {x : V} {l : List V} : atI (x :: l) 0 = some x := atI_of (Int.le_refl _) rfl
theorem atI1 {x y : V} {l : List V} : atI (x :: y :: l) 1 = some y := atI_of (by decide) rfl
theorem atI2 {x y z : V} {l : List V} : atI (x :: y :: z :: l) 2 = some z := atI_of (by decide) rfl
theorem mulW_small {i j : Int} (h1 : i.natAbs < 2 ^ 300) (h2 : j.natAbs < 2 ^ 300) : CMulW i j := wide_mul h1 h2 (by decide) (by decide) (by decide)
end Dz

set_option Elab.async false
set_option linter.all false
set_option maxRecDepth 100000
set_option maxHeartbeats 2000000
namespace Dz
open PySem PySem.Spec PyProof.Rows L2
/-- a new dict; a new error of the class at C -/
def NewD (H : Hp) (Q : VK) : Prop := ∀ p, H p = none → Q (.ref p) (upd H p (.dK []))
def NewE (C : Addr) (f : Str) (y : V) (H : Hp) (Q : VK) : Prop := ∀ a d, H a = none → H d = none → d ≠ a → Q (.ref a) (upd (upd H d (exd d [(f, y)])) a (exo a C (some d)))
section
variable {σ : L2.St} {H : Hp} {Q : VK} {te tl to : TE} {ta : TA} {K : PySem.W.Frag}
theorem w_sl {r : V → Option Int → Option Int → Hp → VK → Prop} {t1 t2 : TO} (k : te σ H fun x H1 => t1 σ H1 fun l H2 => t2 σ H2 fun u H3 => r x l u H3 Q) : tSl r te t1 t2 σ H Q := k
theorem w_nopart {Q : Option Int → Hp → Prop} (k : Q none H) : tNoPart σ H Q := k
theorem w_part {Q : Option Int → Hp → Prop} (k : te σ H fun x H1 => ∃ i, x = .int i ∧ Q (some i) H1) : tPart te σ H Q := k
theorem w_int {Q : Int → Prop} {i : Int} (k : Q i) : ∃ j, V.int i = .int j ∧ Q j := ⟨i, rfl, k⟩
theorem w_m1 {r : V → List V → Hp → VK → Prop} (k : to σ H fun x H1 => (∃ a, x = .str a) ∧ te σ H1 fun y H2 => r x [y] H2 Q) : tM1 r to te σ H Q := k
theorem w_strA {a : Str} {P : Prop} (k : P) : (∃ b, V.str a = .str b) ∧ P := ⟨⟨a, rfl⟩, k⟩
theorem w_rEqr {x y : V} (hs : scal x y = true) (k : Q (.bl (decide (x = y))) H) : rEq x y H Q := ⟨hs, k⟩
theorem w_chain {r r' : R2} {ta tb tc : TE} (k : ta σ H fun x H1 => tb σ H1 fun y H2 => r x y H2 fun z H3 => ∃ k, z = .bl k ∧ (if k = true then tc σ H3 fun w' H4 => r' y w' H4 Q else Q (.bl false) H3)) : tChain r r' ta tb tc σ H Q := k
theorem w_vei (k : ta σ H fun vs H1 => ∃ (a C : Addr) (ws : List V), vs = .ref a :: ws ∧ ws.length ≤ 1000 ∧ OexC K C ∧ H1 a = some (exo a C none) ∧ Q .non H1) : tVeI K ta σ H Q := k
theorem w_revL (k : te σ H fun x H1 => ∃ a xs, x = .ref a ∧ SqL K H1 a xs ∧ NewL xs.reverse H1 Q) : tRevL K te σ H Q := k
theorem w_slL {a : Addr} {xs : List V} {lo hi : Option Int} (h : SqL K H a xs) (k : NewL (cutV xs lo hi) H Q) : rSlL K (.ref a) lo hi H Q := ⟨a, xs, rfl, h, k⟩
theorem w_cat {l b : Addr} {xs zs : List V} (h1 : H l = some (.lst xs)) (h2 : H b = some (.lst zs)) (hz : xs.length + zs.length ≤ sizeLine) (k : NewL (xs ++ zs) H Q) : rCat (.ref l) (.ref b) H Q := ⟨l, b, xs, zs, rfl, rfl, h1, h2, hz, k⟩
theorem w_dnew (k : NewD H Q) : tDNewK σ H Q := k
theorem w_disp {trs : List (TE × TE)} (k : ∀ p G, H p = none → Same H G → G p = some (.dK []) → tPairs trs σ G fun ps H2 => H2 p = some (.dK []) ∧ ∃ kvs : List (Key × V), ps = kvs.map (fun kv => (kV kv.1, kv.2)) ∧ kvs.length ≤ 15 ∧ Q (.ref p) (upd H2 p (.dK (mergeK [] kvs)))) : tDisp trs σ H Q := fun p np => k p _ np (same_new np) upd_same
/-- self.f = y of an error that has no dict yet -/
theorem w_ost {f : Str} {nx : L2.St → Hp → Prop} {rt : VK} {bk ct : L2.St → Hp → Prop} (k : te σ H fun y H1 => to σ H1 fun x H2 => ∃ a C : Addr, x = .ref a ∧ OexC K C ∧ PySem.W.findIn K (.ref C) f = some none ∧
  ((H2 a = some (exo a C none) ∧ ∀ dx, H2 dx = none → dx ≠ a → nx σ (upd (upd H2 dx (exd dx [(f, y)])) a (exo a C (some dx)))) ∨
    ∃ (dx : Addr) (fs : List (Str × V)), H2 a = some (exo a C (some dx)) ∧ H2 dx = some (exd dx fs) ∧ fs.length ≤ 900 ∧ nx σ (upd H2 dx (exd dx ((f, y) :: fs))))) : tOst K f to te ⟨nx, rt, bk, ct⟩ σ H := k
end
/-- C.__init__(self, found) -/
def spErr (f : Str) (C : Addr) : Sp := fun vs H Q _ => ∃ (a : Addr) (y : V), vs = [.ref a, y] ∧ H a = some (exo a C none) ∧ ∀ d, H d = none → d ≠ a → Q .non (upd (upd H d (exd d [(f, y)])) a (exo a C (some d)))
/-- a class of errors as the top has made it -/
structure Er (K : PySem.W.Frag) (mg : Str → Option Value) (x f : Str) (C fI : Addr) : Prop where
  mg : mg x = some (.ref C)
  oex : OexC K C
  ini : PySem.W.findIn K (.ref C) "__init__" = some (some (.ref fI))
  ty : PySem.W.typeIn K (.ref fI) = some (.type "function")
  nof : PySem.W.findIn K (.ref C) f = some none
  ei : EI K C
/-- x(e) as a value -/
theorem er_call {X : Cx} {x f : Str} {C fI : Addr} {k : Nat} (T : Er X.K X.mg x f C fI) (G : Kp X.prog X.w X.K X.mg X.base CX0 k fI ["self", "found"] [] (spErr f C)) (hcl : Calm X.A) (hr : Room (k + 1) X.A) :
    CallR X (.ref C) (fun vs H Q => ∃ y, vs = [y] ∧ NewE C f y H Q) := by
  intro pins s σ H vs us Q I r h
  obtain ⟨fd, F, b⟩ := G.ex
  obtain ⟨y, rfl, q⟩ := h
  refine call_err T.oex T.ini T.ty F hcl hr b pass0 pins s σ H [y] us Q I r ⟨(by show 1 ≤ 1000; decide), fun a na => ⟨a, y, rfl, upd_same, fun d nd hd => ⟨rfl, ?_⟩⟩⟩
  have nd' : H d = none := by rw [upd_ne hd] at nd; exact nd
  have e : upd (upd (upd H a (exo a C none)) d (exd d [(f, y)])) a (exo a C (some d)) = upd (upd H d (exd d [(f, y)])) a (exo a C (some d)) := by
    funext z
    unfold upd
    by_cases h1 : z = a
    · rw [if_pos h1, if_pos h1]
    · rw [if_neg h1, if_neg h1, if_neg h1]
  rw [e]
  exact q a d na nd' hd

/-! ### lists and texts -/
theorem map_at {ns : List Int} {k : Int} (h0 : 0 ≤ k) (h : k < (ns.map V.int).length) : ∃ z, z ∈ ns ∧ atI (ns.map V.int) k = some (.int z) := by
  rw [List.length_map] at h
  have hk : k.toNat < ns.length := by omega
  exact ⟨ns[k.toNat], List.getElem_mem _, atI_of h0 (by rw [List.getElem?_map, List.getElem?_eq_getElem hk]; rfl)⟩
theorem pick {ns : List Int} {l : List V} {k : Int} {m : Int} (e : l = ns.map V.int) (h0 : 0 ≤ k) (h1 : k < m) (hm : m ≤ ns.length) : ∃ z, z ∈ ns ∧ atI l k = some (.int z) := by
  subst e
  exact map_at h0 (by rw [List.length_map]; omega)
theorem cut_ints (ns : List Int) (lo hi : Option Int) : ∃ ms : List Int, cutV (ns.map V.int) lo hi = ms.map V.int :=
  ⟨(ns.drop (HT.sIx (ns.map V.int).length 0 lo)).take (HT.sIx (ns.map V.int).length (ns.map V.int).length hi - HT.sIx (ns.map V.int).length 0 lo), by unfold cutV; rw [← List.map_drop, ← List.map_take]⟩
/-- texts of plain signs -/
def Asc (z : Str) : Prop := ∀ c ∈ z.cps.toList, c < 128
theorem asc_ok {z : Str} (h : Asc z) : PyData.strOk z = true := by
  unfold PyData.strOk
  rw [Array.all_eq_true']
  intro c hc
  have := h c (by simpa using hc)
  exact decide_eq_true (by omega)
theorem dp_strs {K : PySem.W.Frag} {H : Hp} : ∀ zs : List Str, DpAll K H (zs.map V.str) (zs.map PyData.str)
  | [] => .nil
  | z :: zs => .cons (.str z) (dp_strs zs)
theorem lay_strs : ∀ {zs : List Str}, (∀ z ∈ zs, Asc z) → PyData.canLayAll0 (zs.map PyData.str) = true
  | [], _ => rfl
  | z :: zs, h => by
    have h1 := asc_ok (h z List.mem_cons_self)
    have h2 := lay_strs fun y hy => h y (List.mem_cons_of_mem _ hy)
    simp only [List.map_cons, PyData.canLayAll0, PyData.canLay0, h1, h2, Bool.and_self]
theorem dep_strs : ∀ zs : List Str, PyData.depthAll (zs.map PyData.str) = 0
  | [] => rfl
  | z :: zs => by simp only [List.map_cons, PyData.depthAll, PyData.depth, dep_strs zs]; rfl
theorem shaped_strs {zs : List Str} (h : ∀ z ∈ zs, Asc z) : SeqAt.shaped (.list (zs.map PyData.str)) = true := by
  unfold SeqAt.shaped
  have h1 := lay_strs h
  have h2 := dep_strs zs
  simp only [PyData.canLay0, PyData.depth, h1, h2]
  decide
theorem eqv_nil (ds : List PyData) : PyData.eqv (.list ds) (.list []) = ds.isEmpty := by cases ds <;> simp [PyData.eqv, PyData.eqvAll]
theorem join_len (a : Str) (ha : a.length = 0) : ∀ ys : List Str, (Str.join a ys).length = (ys.map (·.length)).sum
  | [] => rfl
  | [x] => by show x.length = _; simp
  | x :: y :: r => by
    show (x ++ a ++ Str.join a (y :: r)).length = _
    rw [PySem.strLen_append, PySem.strLen_append, join_len a ha (y :: r), ha]
    simp [List.sum_cons]
theorem join_mem (a : Str) (ha : a.cps.toList = []) : ∀ (ys : List Str) (c : Nat), c ∈ (Str.join a ys).cps.toList → ∃ y ∈ ys, c ∈ y.cps.toList
  | [], c, h => by
    have h' : c ∈ (Str.empty : Str).cps.toList := h
    exact absurd h' (by simp [Str.empty])
  | [x], c, h => ⟨x, List.mem_cons_self, h⟩
  | x :: y :: r, c, h => by
    have h' : c ∈ ((x ++ a) ++ Str.join a (y :: r)).cps.toList := h
    have e : ((x ++ a) ++ Str.join a (y :: r)).cps.toList = x.cps.toList ++ a.cps.toList ++ (Str.join a (y :: r)).cps.toList := by
      show ((x.cps ++ a.cps) ++ _).toList = _
      simp
    rw [e, ha, List.append_nil] at h'
    rcases List.mem_append.mp h' with q | q
    · exact ⟨x, List.mem_cons_self, q⟩
    · obtain ⟨z, hz, hc⟩ := join_mem a ha (y :: r) c q
      exact ⟨z, List.mem_cons_of_mem _ hz, hc⟩
theorem int_sml {n : Int} (h : n.natAbs < 2 ^ 150) : (Str.ofString (toString n)).length ≤ 1000 ∧ Asc (Str.ofString (toString n)) := by
  have h1 : (toString n).length ≤ 151 := int_text_length_le (k := 150) (by decide) (PySem.Flt.log2_lt_of (by decide) h)
  constructor
  · rw [PySem.ofString_length]
    omega
  · intro c hc
    rw [Str.ofString_eq_toList] at hc
    have hc' : c ∈ (toString n).toList.map Char.toNat := by simpa using hc
    obtain ⟨d, hd, rfl⟩ := List.mem_map.mp hc'
    exact int_ascii n d hd
theorem atI_mem {l : List V} {k : Int} (h0 : 0 ≤ k) (h1 : k < (l.length : Int)) : ∃ x, x ∈ l ∧ atI l k = some x := by
  have hk : k.toNat < l.length := by omega
  exact ⟨l[k.toNat], List.getElem_mem _, atI_of h0 (List.getElem?_eq_getElem hk)⟩
/-! ### new things, at a heap of which only that is known -/
section
variable {H : Hp} {Q : VK} {xs : List V}
theorem newL_mk (k : ∀ p G, H p = none → Same H G → G p = some (.lst xs) → Q (.ref p) G) : NewL xs H Q := fun p np => k p _ np (same_new np) upd_same
theorem newT_mk (k : ∀ p G, H p = none → Same H G → G p = some (.tup xs) → Q (.ref p) G) : NewT xs H Q := fun p np => k p _ np (same_new np) upd_same
theorem newD_mk (k : ∀ p G, H p = none → Same H G → G p = some (.dK []) → Q (.ref p) G) : NewD H Q := fun p np => k p _ np (same_new np) upd_same
theorem newE_mk {C : Addr} {f : Str} {y : V} (k : ∀ a d G, H a = none → H d = none → d ≠ a → Same H G → G a = some (exo a C (some d)) → G d = some (exd d [(f, y)]) → Q (.ref a) G) : NewE C f y H Q := fun a d na nd h =>
  k a d _ na nd h (fun b o e => by rw [upd_ne (ne_of_none e na), upd_ne (ne_of_none e nd)]; exact e) upd_same (by rw [upd_ne h, upd_same])
end
/-! ### comprehensions whose turns change nothing that stands -/
section
variable {σ : L2.St} {H : Hp} {Q : VK} {te : TE} {g : TG} {tt : TT} {vs : List Nat} {n : Nat} {Gd : Hp → Prop} {Yd : Nat → V → Prop}
theorem lcs_of {α : Type} (cs : List α) (keep : α → Bool) (f : α → V) (hn : cs.length = n) (hz : n ≤ 100000) (hG : ∀ H', Same H H' → Gd H')
    (turn : ∀ i c x H' (R : VK) (S : Hp → Prop), cs[i]? = some c → Yd i x → Same H H' → (keep c = true → ∀ H4, Same H' H4 → R (f c) H4) → (keep c = false → ∀ H4, Same H' H4 → S H4) →
      g x (wipe σ vs) H' fun σ2 H2 => wipe σ2 vs = wipe σ vs ∧ tt σ2 H2 fun b H3 => if b = true then te σ2 H3 R else S H3)
    (fin : ∀ D H', H D = none → Same H H' → H' D = some (.lst ((cs.filter keep).map f)) → Q (.ref D) H') : Lcs n Gd Yd g tt te vs σ H Q := by
  intro D hD
  refine ⟨fun i H' => Same H H' ∧ H' D = some (.lst (((cs.take i).filter keep).map f)), ⟨same_new hD, upd_same⟩, fun i H' _ p => hG H' p.1, ?_, fun H' p => ?_⟩
  · rintro i x H' hi hy ⟨s1, d1⟩
    obtain ⟨c, hc⟩ : ∃ c, cs[i]? = some c := ⟨cs[i]'(by omega), List.getElem?_eq_getElem (by omega)⟩
    have e : cs.take (i + 1) = cs.take i ++ [c] := by rw [List.take_add_one, hc]; rfl
    refine turn i c x H' _ _ hc hy s1 (fun hk H4 s2 => ?_) (fun hk H4 s2 => ?_)
    · refine ⟨_, s2 _ _ d1, ?_, ?_, ?_⟩
      · rw [List.length_map]
        have h1 := List.length_filter_le keep (cs.take i)
        rw [List.length_take] at h1
        rw [sizeLine_eq]
        omega
      · intro b o q
        have nb : b ≠ D := ne_of_none q hD
        rw [upd_ne nb]
        exact s2 _ _ (s1 _ _ q)
      · rw [upd_same, e, List.filter_append, List.map_append]
        simp [hk]
    · refine ⟨s1.trans s2, ?_⟩
      rw [e, List.filter_append]
      simp [hk]
      exact s2 _ _ d1
  · obtain ⟨s1, d1⟩ := p
    rw [List.take_of_length_le (by omega)] at d1
    exact fin D H' hD s1 d1
end
theorem Bt.put {p q : Addr} {H H' : Hp} {o : HO} (e : Bt p H H') (h : H q = none) : Bt p H (upd H' q o) := fun b u n k => by rw [upd_ne (ne_of_none k h)]; exact e b u n k
theorem Bg.put {H : Hp} {p q : Addr} {c : Int} {o : HO} (h : Bg H p c) (n : q ≠ p) : Bg (upd H q o) p c := by
  obtain ⟨a, b, k, h1, r⟩ := h
  exact ⟨a, b, k, by rw [upd_ne n.symm]; exact h1, r⟩
theorem keep_all {α : Type} (cs : List α) : cs.filter (fun _ => true) = cs := by simp
theorem Kn.same {K : PySem.W.Frag} {p : Addr} {H H' : Hp} {v : V} (h : Kn K p H v) (e : Same H H') : Kn K p H' v := h.mono (.of e)
end Dz

set_option Elab.async false
set_option linter.all false
set_option maxRecDepth 100000
set_option maxHeartbeats 2000000
/-! Keywords, defaults; two targets at once. -/
namespace Dz
open PySem PySem.Spec PyProof.Rows L2
/-- a def with defaults that keeps its promise -/
structure Kx (P : Program) (w : World) (K : PySem.W.Frag) (mg : Str → Option Value) (base : Heap) (CX : CXT) (k : Nat) (x qual : Str) (st : Stmt) (dvs : List V) (kws : List (Str × V)) (f : Addr) (ps : List Str) (sp : Sp) : Prop where
  ex : ∃ fd, FnG P w K mg base CX k f fd ps sp ∧ FunD K x qual (defArgs st) (defBody st) (defScope st) dvs kws f fd
/-- such a def of the module -/
structure Dx (K : PySem.W.Frag) (mg : Str → Option Value) (x : Str) (st : Stmt) (dvs : List V) (kws : List (Str × V)) (f : Addr) : Prop where
  ex : ∃ fd, FunD K x x (defArgs st) (defBody st) (defScope st) dvs kws f fd
  mg : mg x = some (.ref f)
  kp : PySem.W.keepIn K (.ref f) = true
/-- f called with n values and the keywords ks -/
def CallKR (X : Cx) (f : Value) (n : Nat) (ks : List Str) (r : List V → List V → Hp → VK → Prop) : Prop :=
  ∀ (pins : List (Addr × Obj)) (s : Shared) (σ : L2.St) (H : Hp) (vs zs : List V) (us ws : List Value) (Q : VK), Inv X pins σ H s → Vals vs us → Vals zs ws → vs.length = n → zs.length = ks.length → r vs zs H Q →
    wpAny (model X.prog X.w) X.A (call f us (ks.zip ws)) (EP X pins σ Q) X.xe s
section
variable {X : Cx} {CX : CXT} {k n : Nat} {f : Addr} {fd : FuncData} {ps ks : List Str} {sp : Sp} {E : XK} {x : Str} {p pos : Pos} {e : Expr} {es : List Expr} {kws : List Keyword} {t tk : TA} {g : List Value → List Value → List Value} {gV : List V → List V → List V}
  {r : List V → List V → Hp → VK → Prop}
theorem callKR_fn (F : FnG X.prog X.w X.K X.mg X.base CX k f fd ps sp) (hg : Calm X.A) (hr : Room k X.A) (hb : KBn X.K fd ps n ks g gV) (hx : Passes CX X E) : CallKR X (.ref f) n ks (fun vs zs H Q => sp (gV vs zs) H Q E) := by
  intro pins s σ H vs zs us ws Q I rv rz l1 l2 h
  refine wpAny_call (codeAny_mono (F.go X.A X.stack s H ⟨us, ks.zip ws⟩ (g us ws) (gV vs zs) Q E hg hr I.env0 (hb.to s us ws I.kIn (rv.length.symm.trans l1) (rz.length.symm.trans l2)) (hb.rel rv rz) h) ?_)
  intro rs s' hq
  match rs, hq with
  | .error e, hq => exact hx pins σ H s e s' I hq
  | .ok (.ret u), hq => exact I.after hq
/-- the call with keywords: the values, the keywords' values, how many of each -/
def tCK (n m : Nat) (r : List V → List V → Hp → VK → Prop) (t tk : TA) : TE := fun σ H Q => t σ H fun vs H1 => tk σ H1 fun zs H2 => vs.length = n ∧ zs.length = m ∧ r vs zs H2 Q
theorem pe_fnK (hc : CallKR X (.ref f) n ks r) (hl : Gl X x) (hm : X.mg x = some (.ref f)) (hk : PySem.W.keepIn X.K (.ref f) = true) (ha : PA X (e :: es) t) (hkw : PK X kws tk)
    (hall : (backToKw pos (keywordEach kws X.env)).all (·.1.isSome) = true := by rfl) (hks : (backToKw pos (keywordEach kws X.env)).filterMap (·.1) = ks := by rfl) (hdb : (x == ("__debug__" : Str)) = false := by decide)
    (he : starEach (e :: es) X.env = (false, eval e X.env) :: starEach es X.env := by rfl) (hpl : ((backTo pos (starEach (e :: es) X.env)).any (·.1) || (backToKw pos (keywordEach kws X.env)).any (·.1.isNone)) = false := by rfl) :
    PE X (.Call (.Name x p) (e :: es) kws pos) (tCK n ks.length r t tk) := by
  constructor
  intro pins s σ H Q I h
  refine wpAny_Call_Name_kw (ld_glob I hl hm ?_ hdb)
  refine PySem.W.callWith_KW (h₀ := X.base) I.ok.mod.kin hk hall (thn (ha.run pos pins s σ H _ I h) ?_) hpl he
  rintro us s1 ⟨vs, H1, I1, rv, q⟩
  refine thn (hkw.run pos pins s1 σ H1 _ I1 q) ?_
  rintro ws s2 ⟨zs, H2, I2, rz, l1, l2, q2⟩
  refine ⟨I2.kIn, ?_⟩
  rw [hks]
  exact hc pins s2 σ H2 vs zs us ws Q I2 rv rz l1 l2 q2
theorem pe_fnK0 (hc : CallKR X (.ref f) 0 ks r) (hl : Gl X x) (hm : X.mg x = some (.ref f)) (hk : PySem.W.keepIn X.K (.ref f) = true) (hkw : PK X kws tk)
    (hall : (backToKw pos (keywordEach kws X.env)).all (·.1.isSome) = true := by rfl) (hks : (backToKw pos (keywordEach kws X.env)).filterMap (·.1) = ks := by rfl) (hdb : (x == ("__debug__" : Str)) = false := by decide)
    (hpl : ((backTo pos (starEach [] X.env)).any (·.1) || (backToKw pos (keywordEach kws X.env)).any (·.1.isNone)) = false := by rfl) :
    PE X (.Call (.Name x p) [] kws pos) (tCK 0 ks.length r tNil tk) := by
  constructor
  intro pins s σ H Q I h
  refine wpAny_Call_Name_kw (ld_glob I hl hm ?_ hdb)
  refine PySem.W.callWith_KW0 (h₀ := X.base) I.ok.mod.kin hk hall ?_ hpl
  refine thn (hkw.run pos pins s σ H _ I h) ?_
  rintro ws s2 ⟨zs, H2, I2, rz, l1, l2, q2⟩
  refine ⟨I2.kIn, ?_⟩
  rw [hks]
  exact hc pins s2 σ H2 [] zs [] ws Q I2 .nil rz l1 l2 q2
end
/-! ### binding -/
section
variable {K : PySem.W.Frag} {x qual : Str} {params : Arguments} {body : List Stmt} {scope : Scope} {dvs : List V} {kws : List (Str × V)} {f : Addr} {fd : FuncData} {ps : List Str}
/-- keyword-only defaults alone; ms: those that lack -/
theorem kb_k (F : FunD K x qual params body scope [] kws f fd) (n : Nat) (ks : List Str) (ms : List (Str × V)) (g : {α : Type} → List α → List α → List α → List α) (hk : kws ≠ []) (hms : ∀ q ∈ ms, q ∈ kws)
    (hrel : ∀ {vs mz zs : List V} {us mv ws : List Value}, Vals vs us → Vals mz mv → Vals zs ws → Vals (g vs mz zs) (g us mv ws))
    (h : ∀ (D : Addr) (doc pm : Value) (an : Option Addr) (cdv ct : Value) (us mv ws : List Value), us.length = n → mv.length = ms.length → ws.length = ks.length →
      KwChain D ((ms.map (·.1)).zip mv) (bindArgs (PySem.W.fnOf x qual params body scope .none (.ref D) doc pm an cdv ct) ⟨us, ks.zip ws⟩) (ps.zip (g us mv ws))) :
    ∃ mv : List Value, KBn K fd ps n ks (fun us ws => g us mv ws) (fun vs zs => g vs (ms.map (·.2)) zs) := by
  obtain ⟨oc, od, dV, kV, doc, pm, an, cdv, ct, osl, rfl, lk, hcd, hD, hK⟩ := F.ex
  rcases hD with ⟨_, rfl⟩ | ⟨z, _⟩
  · rcases hK with z | ⟨D, rfl, hq⟩
    · exact absurd z hk
    · obtain ⟨mv, hl, rk, hks⟩ := kwd_vals (ms := ms) fun q hm => hq q (hms q hm)
      exact ⟨mv, fun s us ws X l1 l2 => BindsTo.of_looks fun M => KwChain.looks X hks (h D doc pm an cdv ct us mv ws l1 hl l2), fun r1 r2 => hrel r1 rk r2⟩
  · exact absurd rfl z
/-- defaults by place alone -/
theorem kb_d (F : FunD K x qual params body scope dvs [] f fd) (n : Nat) (ks : List Str) (g : {α : Type} → List α → List α → List α → List α) (hd : dvs ≠ [])
    (hrel : ∀ {vs ds zs : List V} {us its ws : List Value}, Vals vs us → Vals ds its → Vals zs ws → Vals (g vs ds zs) (g us its ws))
    (h : ∀ (T : Addr) (kV doc pm : Value) (an : Option Addr) (cdv ct : Value) (us its ws : List Value), us.length = n → its.length = dvs.length → ws.length = ks.length →
      ∃ k, bindArgs (PySem.W.fnOf x qual params body scope (.ref T) kV doc pm an cdv ct) ⟨us, ks.zip ws⟩ = seqItems? (.ref T) >>= k ∧ k (some its.toArray) = pure (ps.zip (g us its ws))) :
    ∃ its : List Value, KBn K fd ps n ks (fun us ws => g us its ws) (fun vs zs => g vs dvs zs) := by
  obtain ⟨oc, od, dV, kV, doc, pm, an, cdv, ct, osl, rfl, lk, hcd, hD, hK⟩ := F.ex
  rcases hD with ⟨z, _⟩ | ⟨_, T, o, its, m, rfl, lT, oT, rT⟩
  · exact absurd z hd
  · refine ⟨its, fun s us ws X l1 l2 => ?_, fun r1 r2 => hrel r1 rT r2⟩
    obtain ⟨k, e1, e2⟩ := h T kV doc pm an cdv ct us its ws l1 rT.length.symm l2
    refine BindsTo.of_looks fun M => ?_
    rw [e1]
    exact looks_items X lT oT (.of_pure e2)
/-- keywords where nothing is left out -/
theorem kb_n (F : FunD K x qual params body scope dvs kws f fd) (n : Nat) (ks : List Str) (g : {α : Type} → List α → List α → List α)
    (hrel : ∀ {vs zs : List V} {us ws : List Value}, Vals vs us → Vals zs ws → Vals (g vs zs) (g us ws))
    (h : ∀ (dV kV doc pm : Value) (an : Option Addr) (cdv ct : Value) (us ws : List Value), us.length = n → ws.length = ks.length →
      bindArgs (PySem.W.fnOf x qual params body scope dV kV doc pm an cdv ct) ⟨us, ks.zip ws⟩ = pure (ps.zip (g us ws))) :
    KBn K fd ps n ks (fun us ws => g us ws) (fun vs zs => g vs zs) := by
  obtain ⟨oc, od, dV, kV, doc, pm, an, cdv, ct, osl, rfl, lk, hcd, hD, hK⟩ := F.ex
  exact ⟨fun s us ws X l1 l2 => .of_eq (h dV kV doc pm an cdv ct us ws l1 l2), fun r1 r2 => hrel r1 r2⟩
end
/-- a list's items by their places -/
def perm {α : Type} (is : List Nat) (l : List α) : List α := is.filterMap fun i => l[i]?
theorem vals_perm {xs : List V} {us : List Value} (r : Vals xs us) : ∀ is : List Nat, Vals (perm is xs) (perm is us)
  | [] => .nil
  | i :: is => by
    have t := vals_perm r is
    cases e : xs[i]? with
    | none =>
      have e2 := r.none_of e
      have h1 : perm (i :: is) xs = perm is xs := by unfold perm; rw [List.filterMap_cons_none e]
      have h2 : perm (i :: is) us = perm is us := by unfold perm; rw [List.filterMap_cons_none e2]
      rw [h1, h2]
      exact t
    | some x =>
      obtain ⟨u, e2, rx⟩ := r.get e
      have h1 : perm (i :: is) xs = x :: perm is xs := by unfold perm; rw [List.filterMap_cons_some e]
      have h2 : perm (i :: is) us = u :: perm is us := by unfold perm; rw [List.filterMap_cons_some e2]
      rw [h1, h2]
      exact .cons rx t
theorem callKR_x {X : Cx} {CX : CXT} {k n : Nat} {x qual : Str} {st : Stmt} {dvs : List V} {kws : List (Str × V)} {f : Addr} {ps ks : List Str} {sp : Sp} {E : XK} {gV : List V → List V → List V}
    (G : Kx X.prog X.w X.K X.mg X.base CX k x qual st dvs kws f ps sp) (hg : Calm X.A) (hr : Room k X.A) (hb : ∀ fd, FunD X.K x qual (defArgs st) (defBody st) (defScope st) dvs kws f fd → ∃ g, KBn X.K fd ps n ks g gV) (hx : Passes CX X E) :
    CallKR X (.ref f) n ks (fun vs zs H Q => sp (gV vs zs) H Q E) := by
  obtain ⟨fd, F, D⟩ := G.ex
  obtain ⟨g, b⟩ := hb fd D
  exact callKR_fn F hg hr b hx
theorem callR_x {X : Cx} {CX : CXT} {k : Nat} {x qual : Str} {st : Stmt} {dvs ms : List V} {kws : List (Str × V)} {f : Addr} {ps : List Str} {sp : Sp} {E : XK}
    (G : Kx X.prog X.w X.K X.mg X.base CX k x qual st dvs kws f ps sp) (hg : Calm X.A) (hr : Room k X.A) (hb : ∀ fd, FunD X.K x qual (defArgs st) (defBody st) (defScope st) dvs kws f fd → ∃ ds, Vals ms ds ∧ Binds X.K fd ps ds) (hx : Passes CX X E) :
    CallR X (.ref f) (fun vs H Q => sp (vs ++ ms) H Q E) := by
  obtain ⟨fd, F, D⟩ := G.ex
  obtain ⟨ds, r, b⟩ := hb fd D
  exact callR_fn F hg hr b r hx
section
variable {σ : L2.St} {H : Hp} {Q : VK} {t tk : TA} {i j : Nat} {nx : L2.St → Hp → Prop} {rt : VK} {bk ct : L2.St → Hp → Prop}
theorem w_ck {n m : Nat} {r : List V → List V → Hp → VK → Prop} (k : t σ H fun vs H1 => tk σ H1 fun zs H2 => vs.length = n ∧ zs.length = m ∧ r vs zs H2 Q) : tCK n m r t tk σ H Q := k
theorem w_ckl {vs zs : List V} {n m : Nat} {P : Prop} (h1 : vs.length = n) (h2 : zs.length = m) (k : P) : vs.length = n ∧ zs.length = m ∧ P := ⟨h1, h2, k⟩
theorem w_par (k : t σ H fun vs H1 => ∃ v w, vs = [v, w] ∧ nx ((σ.set i (some v)).set j (some w)) H1) : tPar i j t ⟨nx, rt, bk, ct⟩ σ H := k
theorem w_pair {Q : V → V → Prop} {v w : V} (k : Q v w) : ∃ a b, [v, w] = [a, b] ∧ Q a b := ⟨v, w, rfl, k⟩
theorem w_isN {x : V} (k : Q (.bl (decide (x = .non))) H) : (V.non = .non ∧ Q (.bl (decide (x = .non))) H) := ⟨rfl, k⟩
end
/-- a def with defaults, by its body's walk where no repr is under way and nothing is raised -/
theorem fnG_D {P : Program} {w : World} {K : PySem.W.Frag} {mg : Str → Option Value} {base : Heap} {CX : CXT} {x qual : Str} {params : Arguments} {body : List Stmt} {scope : Scope} {dvs : List V} {kws : List (Str × V)} {f : Addr} {fd : FuncData} {N ps : List Str} {k : Nat} {sp : Sp}
    (F : FunD K x qual params body scope dvs kws f fd) (S : FnScope N ps scope) (len : ∀ vs H Q E, sp vs H Q E → vs.length = ps.length)
    (walk : ∀ (cdv : Value) (A : Around) (outer : List Env) (s : Shared) (H : Hp) (vs : List V) (Q : VK) (E : XK), Calm A → Room k (A.deeper (envOfC qual scope s.heap.objs.size f cdv)) → sp vs H Q E →
      ∃ t, PSs (cxOf CX P w K mg base N qual scope f cdv A outer s H E) body t ∧ t { nx := fun _ H' => Q .non H', rt := Q } (start N vs) H) :
    FnG P w K mg base CX (k + 1) f fd ps sp := by
  obtain ⟨oc, od, dV, kV, doc, pm, an, cdv, ct, osl, rfl, lk, hcd, _, _⟩ := F.ex
  exact fnG_at lk hcd S len fun A outer s H vs Q E hg hr hsp => walk cdv A outer s H vs Q E hg hr hsp
theorem fnG_Dnx {P : Program} {w : World} {K : PySem.W.Frag} {mg : Str → Option Value} {base : Heap} {x qual : Str} {params : Arguments} {body : List Stmt} {scope : Scope} {dvs : List V} {kws : List (Str × V)} {f : Addr} {fd : FuncData} {N ps : List Str} {k : Nat} {sp : Sp}
    (F : FunD K x qual params body scope dvs kws f fd) (S : FnScope N ps scope) (len : ∀ vs H Q E, sp vs H Q E → vs.length = ps.length)
    (walk : ∀ (cdv : Value) (A : Around) (outer : List Env) (s : Shared) (H : Hp) (vs : List V) (Q : VK) (E : XK), Calm A → Room k (A.deeper (envOfC qual scope s.heap.objs.size f cdv)) → sp vs H Q E →
      ∃ t, PSs (cxOf CX0 P w K mg base N qual scope f cdv A outer s H E).nox body t ∧ t { nx := fun _ H' => Q .non H', rt := Q } (start N vs) H) :
    FnG P w K mg base CX0 (k + 1) f fd ps sp := fnG_D F S len fun cdv A outer s H vs Q E hg hr hsp => by
  obtain ⟨t, h, q⟩ := walk cdv A outer s H vs Q E hg hr hsp
  exact ⟨t, h.nox, q⟩
end Dz

set_option Elab.async false
set_option linter.all false
set_option maxRecDepth 100000
set_option maxHeartbeats 2000000
/-! Texts; how long repr's texts are; further steps. -/
namespace Dz
open PySem PySem.Spec PyProof.Rows L2
theorem asc_empty : Asc "" := by
  intro c hc
  have e : (Str.ofString "").cps.toList = [] := rfl
  rw [e] at hc
  cases hc
theorem at_sign {z : Str} {k : Int} (h0 : 0 ≤ k) (h1 : k < z.length) : ∃ c, c ∈ z.cps.toList ∧ atI z.cps.toList k = some c := by
  have hk : k.toNat < z.cps.toList.length := by
    have : z.cps.toList.length = z.length := by simp [Str.length]
    omega
  have e : k = ((k.toNat : Nat) : Int) := (Int.toNat_of_nonneg h0).symm
  obtain ⟨n, hn⟩ : ∃ n : Nat, n = k.toNat := ⟨_, rfl⟩
  rw [← hn] at e hk
  rw [e]
  exact ⟨z.cps.toList[n], List.getElem_mem _, atI_nat (List.getElem?_eq_getElem hk)⟩
/-- texts of one plain sign each -/
def One (zs : List Str) : Prop := ∀ z ∈ zs, z.length = 1 ∧ Asc z
theorem one_nil : One [] := fun _ h => nomatch h
theorem one_sum : ∀ {zs : List Str}, One zs → (zs.map (·.length)).sum = zs.length
  | [], _ => rfl
  | z :: zs, h => by
    rw [List.map_cons, List.sum_cons, (h z List.mem_cons_self).1, one_sum fun y hy => h y (List.mem_cons_of_mem _ hy), List.length_cons]
    omega
theorem one_set {zs : List Str} {j : Nat} {y : Str} (h : One zs) (hy : y.length = 1 ∧ Asc y) : One (zs.set j y) := fun z hz => by
  rcases List.mem_or_eq_of_mem_set hz with q | q
  · exact h z q
  · rw [q]; exact hy
theorem one_more {zs : List Str} {y : Str} (h : One zs) (hy : y.length = 1 ∧ Asc y) : One (zs ++ [y]) := fun z hz => by
  rcases List.mem_append.mp hz with q | q
  · exact h z q
  · rw [List.mem_singleton.mp q]; exact hy
theorem one_join {zs : List Str} (h : One zs) : (Txt.join "" zs).length = zs.length ∧ Asc (Txt.join "" zs) := by
  rw [TL.join_eq]
  refine ⟨(join_len "" rfl zs).trans (one_sum h), fun c hc => ?_⟩
  obtain ⟨y, hy, hc'⟩ := join_mem "" rfl zs c hc
  exact (h y hy).2 c hc'
theorem one_sign {c : Nat} (h : c < 128) : (⟨#[c]⟩ : Str).length = 1 ∧ Asc ⟨#[c]⟩ := ⟨rfl, fun d hd => by
  have : d = c := by simpa using hd
  rw [this]; exact h⟩
theorem asc_app {x y : Str} (hx : Asc x) (hy : Asc y) : Asc (x ++ y) := fun c hc => by
  have e : (x ++ y).cps.toList = x.cps.toList ++ y.cps.toList := by
    show (x.cps ++ y.cps).toList = _
    simp
  rw [e] at hc
  rcases List.mem_append.mp hc with h | h
  · exact hx c h
  · exact hy c h
theorem cut_mem {z : Str} {lo hi : Option Int} {c : Nat} (h : c ∈ (cutS z lo hi).cps.toList) : c ∈ z.cps.toList := by
  unfold cutS at h
  have h' : c ∈ (z.cps.toList.drop (HT.sIx z.length 0 lo)).take (HT.sIx z.length z.length hi - HT.sIx z.length 0 lo) := by simpa using h
  exact List.mem_of_mem_drop (List.mem_of_mem_take h')
theorem asc_cut {z : Str} {lo hi : Option Int} (h : Asc z) : Asc (cutS z lo hi) := fun c hc => h c (cut_mem hc)
/-! ### how long a shown thing is -/
theorem sh_list {ds : List PyData} {B : Nat} (h : ∀ d ∈ ds, d.shown.length ≤ B) : (PyData.list ds).shown.length ≤ (B + 2) * ds.length + 3 := by
  have h1 := listText_len_le (PyData.shownAll ds)
  have h2 : ∀ l : List PyData, (∀ d ∈ l, d.shown.length ≤ B) → ((PyData.shownAll l).map (·.length)).sum ≤ B * l.length := by
    intro l
    induction l with
    | nil => intro _; simp [PyData.shownAll]
    | cons d l ih =>
      intro hl
      have a := hl d List.mem_cons_self
      have b := ih fun e he => hl e (List.mem_cons_of_mem _ he)
      simp only [PyData.shownAll, List.map_cons, List.sum_cons, List.length_cons]
      rw [Nat.mul_add]
      omega
  have h3 := h2 ds h
  have h4 := PyData.shownAll_length ds
  show (listText (PyData.shownAll ds)).length ≤ _
  rw [Nat.add_mul]
  omega
theorem sh_tup {ds : List PyData} {B : Nat} (h : ∀ d ∈ ds, d.shown.length ≤ B) : (PyData.tuple ds).shown.length ≤ (B + 2) * ds.length + 3 := by
  have h1 := tupleText_len_le (PyData.shownAll ds)
  have h2 : ∀ l : List PyData, (∀ d ∈ l, d.shown.length ≤ B) → ((PyData.shownAll l).map (·.length)).sum ≤ B * l.length := by
    intro l
    induction l with
    | nil => intro _; simp [PyData.shownAll]
    | cons d l ih =>
      intro hl
      have a := hl d List.mem_cons_self
      have b := ih fun e he => hl e (List.mem_cons_of_mem _ he)
      simp only [PyData.shownAll, List.map_cons, List.sum_cons, List.length_cons]
      rw [Nat.mul_add]
      omega
  have h3 := h2 ds h
  have h4 := PyData.shownAll_length ds
  show (tupleText (PyData.shownAll ds)).length ≤ _
  rw [Nat.add_mul]
  omega
theorem sh_int {i : Int} (h : i.natAbs.log2 < 1920) : (PyData.int i).shown.length ≤ 1921 := by
  have := int_text_length_le (a := i) (k := 1920) (by decide) h
  show (Str.ofString (toString i)).length ≤ _
  rw [PySem.ofString_length]
  exact this
theorem sh_none : (PyData.none).shown.length ≤ 1921 := by decide +kernel
theorem sh_bool (b : Bool) : (PyData.bool b).shown.length ≤ 1921 := by cases b <;> decide +kernel
theorem sh_str {x : Str} (h : Asc x) : (PyData.str x).shown.length ≤ 10 * x.length + 2 := by
  have := StrLaws.reprText_len x fun c hc => Nat.lt_of_lt_of_le (h c hc) (by decide)
  show (reprText x).length ≤ _
  omega
section
variable {σ : L2.St} {H : Hp} {Q : VK} {te tl to : TE} {t : TA} {K : PySem.W.Frag}
theorem w_slS {z : Str} {lo hi : Option Int} (hz : z.length ≤ sizeLine) (k : Q (.str (cutS z lo hi)) H) : rSlS (.str z) lo hi H Q := ⟨z, rfl, hz, k⟩
theorem w_ixS {z : Str} {i : Int} {c : Nat} (hz : z.length ≤ sizeLine) (ha : atI z.cps.toList i = some c) (k : Q (.str ⟨#[c]⟩) H) : rIxS (.str z) (.int i) H Q := ⟨z, i, c, rfl, rfl, hz, ha, k⟩
theorem w_nn {P : Prop} (k : P) : V.non = V.non ∧ P := ⟨rfl, k⟩
theorem w_bm {T : String} {r : V → List V → Hp → VK → Prop} (k : to σ H fun x H1 => tyV K T x H1 ∧ t σ H1 fun xs H2 => r x xs H2 Q) : tBM K T r to t σ H Q := k
theorem w_bm0 {T : String} {r : V → List V → Hp → VK → Prop} (k : to σ H fun x H1 => tyV K T x H1 ∧ r x [] H1 Q) : tBM0 K T r to σ H Q := k
theorem w_tyL {l : Addr} {xs : List V} {P : Prop} (h : H l = some (.lst xs)) (k : P) : tyV K "list" (.ref l) H ∧ P := ⟨Or.inl ⟨rfl, _, Or.inl (Or.inl h)⟩, k⟩
theorem w_append {l : Addr} {xs : List V} {y : V} (h : H l = some (.lst xs)) (hz : xs.length < sizeLine) (k : Q .non (upd H l (.lst (xs ++ [y])))) : rAppend (.ref l) [y] H Q := ⟨l, xs, y, rfl, rfl, h, hz, k⟩
end
end Dz

set_option Elab.async false
set_option linter.all false
set_option maxRecDepth 100000
set_option maxHeartbeats 2000000
/-! What repr can show, with bounds. -/
namespace Dz
open PySem PySem.Spec PyProof.Rows L2
/-- data that repr shows: at most B signs, at most k deep -/
structure Sh (d : PyData) (B k : Nat) : Prop where
  ok : d.showable = true
  nd : d.hasDict = false
  dp : d.depth ≤ k
  ln : d.shown.length ≤ B
theorem Sh.more {d : PyData} {B k B' k' : Nat} (h : Sh d B k) (e : B ≤ B' := by omega) (f : k ≤ k' := by omega) : Sh d B' k' := ⟨h.ok, h.nd, Nat.le_trans h.dp f, Nat.le_trans h.ln e⟩
theorem Sh.int {i : Int} (h : i.natAbs.log2 < 1920) : Sh (.int i) 1921 0 := ⟨decide_eq_true h, rfl, Nat.le_refl 0, sh_int h⟩
theorem Sh.small {i : Int} (h : i.natAbs < 2 ^ 64) : Sh (.int i) 1921 0 := .int (Nat.lt_of_lt_of_le (PySem.Flt.log2_lt_of (k := 64) (by decide) h) (by decide))
theorem Sh.non : Sh .none 1921 0 := ⟨rfl, rfl, Nat.le_refl 0, sh_none⟩
theorem Sh.bl (b : Bool) : Sh (.bool b) 1921 0 := ⟨rfl, rfl, Nat.le_refl 0, sh_bool b⟩
theorem Sh.str {x : Str} (h : Asc x) : Sh (.str x) (10 * x.length + 2) 0 := ⟨rfl, rfl, Nat.le_refl 0, sh_str h⟩
theorem sh_all {ds : List PyData} {B k : Nat} (h : ∀ d ∈ ds, Sh d B k) : PyData.showableAll ds = true ∧ PyData.hasDictAll ds = false ∧ PyData.depthAll ds ≤ k := by
  induction ds with
  | nil => exact ⟨rfl, rfl, Nat.zero_le _⟩
  | cons d ds ih =>
    have a := h d List.mem_cons_self
    obtain ⟨b1, b2, b3⟩ := ih fun e he => h e (List.mem_cons_of_mem _ he)
    refine ⟨?_, ?_, ?_⟩
    · show (d.showable && PyData.showableAll ds) = true
      rw [a.ok, b1]; rfl
    · show (d.hasDict || PyData.hasDictAll ds) = false
      rw [a.nd, b2]; rfl
    · show max d.depth (PyData.depthAll ds) ≤ k
      have := a.dp
      omega
theorem Sh.list {ds : List PyData} {B k : Nat} (h : ∀ d ∈ ds, Sh d B k) : Sh (.list ds) ((B + 2) * ds.length + 3) (k + 1) := by
  obtain ⟨b1, b2, b3⟩ := sh_all h
  exact ⟨b1, b2, Nat.succ_le_succ b3, sh_list fun d hd => (h d hd).ln⟩
theorem Sh.tup {ds : List PyData} {B k : Nat} (h : ∀ d ∈ ds, Sh d B k) : Sh (.tuple ds) ((B + 2) * ds.length + 3) (k + 1) := by
  obtain ⟨b1, b2, b3⟩ := sh_all h
  exact ⟨b1, b2, Nat.succ_le_succ b3, sh_tup fun d hd => (h d hd).ln⟩
theorem w_show {K : PySem.W.Frag} {H : Hp} {Q : VK} {v : V} {d : PyData} {B k : Nat} (dp : Dp K H v d) (s : Sh d B k) (q : Q (.str d.shown) H) (hk : k ≤ 60 := by decide) (hB : B ≤ 16777216 := by decide) : rShow K [v] H Q :=
  ⟨v, d, rfl, dp, s.ok, s.nd, Nat.le_trans s.dp hk, Nat.le_trans s.ln (Nat.le_trans hB (by decide)), q⟩
/-- lists of texts -/
theorem pickS {zs : List Str} {l : List V} {k m : Int} (e : l = zs.map V.str) (h0 : 0 ≤ k) (h1 : k < m) (hm : m ≤ zs.length) : ∃ z, z ∈ zs ∧ atI l k = some (.str z) := by
  subst e
  have hk : k.toNat < zs.length := by omega
  exact ⟨zs[k.toNat], List.getElem_mem _, atI_of h0 (by rw [List.getElem?_map, List.getElem?_eq_getElem hk]; rfl)⟩
theorem cut_len (a : Str) (lo hi : Option Int) : (cutS a lo hi).length ≤ a.length := by
  have e : (cutS a lo hi).length = ((a.cps.toList.drop (HT.sIx a.length 0 lo)).take (HT.sIx a.length a.length hi - HT.sIx a.length 0 lo)).length := by
    show Array.size _ = _
    simp [cutS]
  rw [e, List.length_take, List.length_drop]
  have : a.cps.toList.length = a.length := Array.length_toList
  omega
theorem app_len (x y : Str) : (x ++ y).length = x.length + y.length := PySem.strLen_append x y
/-- the rest, once for two ways to it (by `apply`: P is found by the first `exact rest`) -/
theorem w_both {P G : Prop} (k : P → G) (h : P) : G := k h
end Dz

set_option Elab.async false
set_option linter.all false
set_option maxRecDepth 100000
set_option maxHeartbeats 2000000
/-! Errors raised and caught; new instances; calls where what is raised is wished for at the caller's slots. -/
namespace Dz
open PySem PySem.Spec PyProof.Rows L2
/-! ### calls at slots -/
def CallRS (X : Cx) (f : Value) (r : L2.St → List V → Hp → VK → Prop) : Prop :=
  ∀ (pins : List (Addr × Obj)) (s : Shared) (σ : L2.St) (H : Hp) (vs : List V) (us : List Value) (Q : VK), Inv X pins σ H s → Vals vs us → r σ vs H Q → wpAny (model X.prog X.w) X.A (call f us) (EP X pins σ Q) X.xe s
def CallKS (X : Cx) (f : Value) (n : Nat) (ks : List Str) (r : L2.St → List V → List V → Hp → VK → Prop) : Prop :=
  ∀ (pins : List (Addr × Obj)) (s : Shared) (σ : L2.St) (H : Hp) (vs zs : List V) (us ws : List Value) (Q : VK), Inv X pins σ H s → Vals vs us → Vals zs ws → vs.length = n → zs.length = ks.length → r σ vs zs H Q →
    wpAny (model X.prog X.w) X.A (call f us (ks.zip ws)) (EP X pins σ Q) X.xe s
def tCBS (r : L2.St → List V → Hp → VK → Prop) (t : TA) : TE := fun σ H Q => t σ H fun vs H1 => r σ vs H1 Q
def tCKS (n m : Nat) (r : L2.St → List V → List V → Hp → VK → Prop) (t tk : TA) : TE := fun σ H Q => t σ H fun vs H1 => tk σ H1 fun zs H2 => vs.length = n ∧ zs.length = m ∧ r σ vs zs H2 Q
section
variable {X : Cx} {W : WX} {k n : Nat} {f C : Addr} {fd : FuncData} {ps ks : List Str} {sp : Sp} {x : Str} {p pos : Pos} {e : Expr} {es : List Expr} {kws : List Keyword} {t tk : TA}
theorem callS (F : Kp X.prog X.w X.K X.mg X.base (L2.CX X.prog X.w) k f ps [] sp) (hg : Calm X.A) (hr : Room k X.A) (tkk : Takes X W) : CallRS X (.ref f) (fun σ vs H Q => sp vs H Q (WE W σ)) := by
  intro pins s σ H vs us Q I rv h
  obtain ⟨fd, G, b⟩ := F.ex
  have hl : (us ++ []).length = ps.length := by rw [List.append_nil]; exact rv.length.symm.trans (G.ln _ _ _ _ h)
  have bb := b s us I.kIn hl
  rw [List.append_nil] at bb
  refine wpAny_call (codeAny_mono (G.go X.A X.stack s H ⟨us, []⟩ us vs Q (WE W σ) hg hr I.env0 bb rv h) ?_)
  intro rs s' hq
  match rs, hq with
  | .error e, hq => exact passAt tkk σ pins H s e s' I hq
  | .ok (.ret u), hq => exact I.after hq
theorem pe_fnS {r : L2.St → List V → Hp → VK → Prop} (hc : CallRS X (.ref f) r) (hl : Gl X x) (hm : X.mg x = some (.ref f)) (hk : PySem.W.keepIn X.K (.ref f) = true) (ha : PA X (e :: es) t) (hdb : (x == ("__debug__" : Str)) = false := by decide)
    (he : starEach (e :: es) X.env = (false, eval e X.env) :: starEach es X.env := by rfl) (hpl : (backTo pos (starEach es X.env)).any (·.1) = false := by rfl) : PE X (.Call (.Name x p) (e :: es) [] pos) (tCBS r t) := by
  constructor
  intro pins s σ H Q I h
  refine wpAny_Call_Name_kw (ld_glob I hl hm ?_ hdb)
  refine PySem.W.callWith_K (h₀ := X.base) I.ok.mod.kin hk (thn (ha.run pos pins s σ H _ I h) ?_) he hpl
  rintro us s1 ⟨vs, H1, I1, rv, q⟩
  exact ⟨I1.kIn, hc pins s1 σ H1 vs us Q I1 rv q⟩
theorem pe_fnKS {r : L2.St → List V → List V → Hp → VK → Prop} (hc : CallKS X (.ref f) n ks r) (hl : Gl X x) (hm : X.mg x = some (.ref f)) (hk : PySem.W.keepIn X.K (.ref f) = true) (ha : PA X (e :: es) t) (hkw : PK X kws tk)
    (hall : (backToKw pos (keywordEach kws X.env)).all (·.1.isSome) = true := by rfl) (hks : (backToKw pos (keywordEach kws X.env)).filterMap (·.1) = ks := by rfl) (hdb : (x == ("__debug__" : Str)) = false := by decide)
    (he : starEach (e :: es) X.env = (false, eval e X.env) :: starEach es X.env := by rfl) (hpl : ((backTo pos (starEach (e :: es) X.env)).any (·.1) || (backToKw pos (keywordEach kws X.env)).any (·.1.isNone)) = false := by rfl) :
    PE X (.Call (.Name x p) (e :: es) kws pos) (tCKS n ks.length r t tk) := by
  constructor
  intro pins s σ H Q I h
  refine wpAny_Call_Name_kw (ld_glob I hl hm ?_ hdb)
  refine PySem.W.callWith_KW (h₀ := X.base) I.ok.mod.kin hk hall (thn (ha.run pos pins s σ H _ I h) ?_) hpl he
  rintro us s1 ⟨vs, H1, I1, rv, q⟩
  refine thn (hkw.run pos pins s1 σ H1 _ I1 q) ?_
  rintro ws s2 ⟨zs, H2, I2, rz, l1, l2, q2⟩
  refine ⟨I2.kIn, ?_⟩
  rw [hks]
  exact hc pins s2 σ H2 vs zs us ws Q I2 rv rz l1 l2 q2
theorem pe_fnKS0 {r : L2.St → List V → List V → Hp → VK → Prop} (hc : CallKS X (.ref f) 0 ks r) (hl : Gl X x) (hm : X.mg x = some (.ref f)) (hk : PySem.W.keepIn X.K (.ref f) = true) (hkw : PK X kws tk)
    (hall : (backToKw pos (keywordEach kws X.env)).all (·.1.isSome) = true := by rfl) (hks : (backToKw pos (keywordEach kws X.env)).filterMap (·.1) = ks := by rfl) (hdb : (x == ("__debug__" : Str)) = false := by decide)
    (hpl : ((backTo pos (starEach [] X.env)).any (·.1) || (backToKw pos (keywordEach kws X.env)).any (·.1.isNone)) = false := by rfl) :
    PE X (.Call (.Name x p) [] kws pos) (tCKS 0 ks.length r tNil tk) := by
  constructor
  intro pins s σ H Q I h
  refine wpAny_Call_Name_kw (ld_glob I hl hm ?_ hdb)
  refine PySem.W.callWith_KW0 (h₀ := X.base) I.ok.mod.kin hk hall ?_ hpl
  refine thn (hkw.run pos pins s σ H _ I h) ?_
  rintro ws s2 ⟨zs, H2, I2, rz, l1, l2, q2⟩
  refine ⟨I2.kIn, ?_⟩
  rw [hks]
  exact hc pins s2 σ H2 [] zs [] ws Q I2 .nil rz l1 l2 q2
end
/-! ### new instances -/
/-- C(..): a new thing at x, its names at dx, then __init__ -/
def NewI (C : Addr) (sp : List V → Hp → VK → XK → Prop) (g : V → List V) (H : Hp) (Q : VK) (E : XK) : Prop := ∀ x dx, H x = none → H dx = none → dx ≠ x → sp (g (.ref x)) (upd (upd H dx (.own x)) x (.ins C dx [])) (fun v H2 => v = .non ∧ Q (.ref x) H2) E
section
variable {X : Cx} {CX : CXT} {W : WX} {k n : Nat} {f C : Addr} {fd : FuncData} {ps ks : List Str} {sp : Sp} {gV : List V → List V → List V} {E : L2.St → XK}
theorem callKS_make0 {g : List Value → List Value → List Value} (M : Mk X.K C f) (F : FnG X.prog X.w X.K X.mg X.base CX k f fd ps sp) (hg : Calm X.A) (hr : Room (k + 1) X.A) (hb : KBn X.K fd ps (n + 1) ks g gV) (hx : ∀ σ pins H s e s', Inv X pins σ H s → CX X.stack H s (E σ) e s' → X.xe e s') :
    CallKS X (.ref C) n ks (fun σ vs zs H Q => NewI C sp (fun x => gV (x :: vs) zs) H Q (E σ)) := by
  intro pins s σ H vs zs us ws Q I rv rz l1 l2 h
  have hq := h (s.heap.objs.size + 1) s.heap.objs.size (I.hok.fresh (Nat.le_succ _)) (I.hok.fresh (Nat.le_refl _)) (Nat.ne_of_lt (Nat.lt_succ_self _))
  have J := Inv.made (C := C) I
  have r1 : Vals (V.ref (s.heap.objs.size + 1) :: vs) (Value.ref (s.heap.objs.size + 1) :: us) := .cons rfl rv
  have m1 : (Value.ref (s.heap.objs.size + 1) :: us).length = n + 1 := by rw [List.length_cons, ← rv.length, l1]
  have cal : Calm (X.A.under (.builtin "type.__call__" ⟨.ref C :: us, ks.zip ws⟩)) := by
    unfold Calm at hg ⊢
    simp [Around.under, Code.guards, Code.isGuard, pushGuards, guardIds, hg]
  refine wpAny_call (make_map (f := f) I.kIn M.makes M.init (beq_iff_eq.mp M.fn) (codeAny_mono (F.go _ X.stack _ _ ⟨Value.ref (s.heap.objs.size + 1) :: us, ks.zip ws⟩ (g (Value.ref (s.heap.objs.size + 1) :: us) ws) _ _ (E σ) cal (hr.make C us (ks.zip ws))
    (J.env0.make C us (ks.zip ws)) (hb.to _ _ ws J.kIn m1 (rz.length.symm.trans l2)) (hb.rel r1 rz) hq) ?_))
  intro rs s' hq'
  match rs, hq' with
  | .error e, hq' => exact hx σ pins _ _ e s' J hq'
  | .ok (.ret u), hq' =>
    obtain ⟨v, H', I3, rv', ev, q3⟩ := J.after hq'
    subst ev
    exact ⟨rv', V.ref (s.heap.objs.size + 1), H', I3, rfl, q3⟩
end
section
variable {X : Cx} {W : WX} {k n : Nat} {f C : Addr} {x qual : Str} {st : Stmt} {dvs : List V} {kws : List (Str × V)} {ps ks : List Str} {sp : Sp} {gV : List V → List V → List V}
/-- C(..), what is raised is wished for at the caller's slots -/
theorem callKS_mk (G : Kx X.prog X.w X.K X.mg X.base (L2.CX X.prog X.w) k x qual st dvs kws f ps sp) (M : Mk X.K C f) (hg : Calm X.A) (hr : Room (k + 1) X.A) (hb : ∀ fd, FunD X.K x qual (defArgs st) (defBody st) (defScope st) dvs kws f fd → ∃ g, KBn X.K fd ps (n + 1) ks g gV) (tk : Takes X W) :
    CallKS X (.ref C) n ks (fun σ vs zs H Q => NewI C sp (fun x => gV (x :: vs) zs) H Q (WE W σ)) := by
  obtain ⟨fd, F, D⟩ := G.ex
  obtain ⟨g, b⟩ := hb fd D
  exact callKS_make0 (E := WE W) M F hg hr b fun σ pins H s e s' I c => passAt tk σ pins H s e s' I c
end
/-! ### raising -/
/-- C(e), an error of the program's own with the field f, to be raised -/
def tMkE (C : Addr) (f : Str) (t : TA) : L2.St → Hp → XK → Prop := fun σ H Q => t σ H fun vs H1 => ∃ y, vs = [y] ∧ ∀ d, H1 d = none → Q (.ref C) (some d) (upd H1 d (.xd [(f, y)]))
def tRz (W : WX) (t : L2.St → Hp → XK → Prop) : TS := fun _ σ H => t σ H fun cls d H' => W cls d σ H'
theorem pmk_err {X : Cx} {x f : Str} {C fI : Addr} {k : Nat} {e : Expr} {es : List Expr} {t : TA} {p pos : Pos} (T : Er X.K X.mg x f C fI) (G : Kp X.prog X.w X.K X.mg X.base CX0 k fI ["self", "found"] [] (spErr f C)) (hcl : Calm X.A) (hr : Room (k + 1) X.A) (hg : Gl X x) (ha : PA X (e :: es) t)
    (hdb : (x == ("__debug__" : Str)) = false := by decide) (hst : starEach (e :: es) X.env = (false, eval e X.env) :: starEach es X.env := by rfl) (hpl : (backTo pos (starEach es X.env)).any (·.1) = false := by rfl) : PMk X (.Call (.Name x p) (e :: es) [] pos) (tMkE C f t) := by
  intro pins s σ H Q I h
  obtain ⟨fd, F, b⟩ := G.ex
  obtain ⟨nm, qn, N, bs, bm, sn, sub, ab, col, dd, k0, k1, k2, k3, k5, hC, hbm⟩ := T.oex.cls
  refine wpAny_Call_Name_kw (ld_glob I hg T.mg ?_ hdb)
  refine PySem.W.callWith_K (h₀ := X.base) I.ok.mod.kin T.oex.kC (thn (ha.run pos pins s σ H _ I h) ?_) hst hpl
  rintro us s1 ⟨vs, H1, I1, r1, y, rfl, q1⟩
  refine ⟨I1.kIn, ?_⟩
  obtain ⟨hp, g, dr, tk, os⟩ := s1
  have above : hp.objs.size ≤ hp.objs.size + 1 := Nat.le_succ _
  have na : H1 (hp.objs.size + 1) = none := I1.hok.fresh above
  have kk : ∀ b o, hp.get? b = some o → ((hp.push (PySem.W.kdv_tup us)).push (PySem.HandSPX.excO C hp.objs.size)).get? b = some o := fun b o e => Heap.get?_push_of_some _ (Heap.get?_push_of_some _ e)
  have got : ((hp.push (PySem.W.kdv_tup us)).push (PySem.HandSPX.excO C hp.objs.size)).get? (hp.objs.size + 1) = some (PySem.HandSPX.excO C hp.objs.size) := by heap_get
  have I2 : Inv X pins σ (upd H1 (hp.objs.size + 1) (exo (hp.objs.size + 1) C none)) ⟨(hp.push (PySem.W.kdv_tup us)).push (PySem.HandSPX.excO C hp.objs.size), g, dr, tk, os⟩ := I1.laid (t' := tk) kk above (exo_ok got)
  have r2 : Vals [V.ref (hp.objs.size + 1), y] (Value.ref (hp.objs.size + 1) :: us) := .cons rfl r1
  have lu1 : us.length = 1 := r1.length.symm
  have ll : (Value.ref (hp.objs.size + 1) :: us ++ []).length = (["self", "found"] : List Str).length := by rw [List.append_nil, List.length_cons, lu1]; rfl
  have bnd := b ⟨(hp.push (PySem.W.kdv_tup us)).push (PySem.HandSPX.excO C hp.objs.size), g, dr, tk, os⟩ (Value.ref (hp.objs.size + 1) :: us) I2.kIn ll
  rw [List.append_nil] at bnd
  have cal : Calm (X.A.under (.builtin "type.__call__" ⟨.ref C :: us, []⟩)) := by
    unfold Calm at hcl ⊢
    simp [Around.under, Code.guards, Code.isGuard, pushGuards, guardIds, hcl]
  have hq : spErr f C [V.ref (hp.objs.size + 1), y] (upd H1 (hp.objs.size + 1) (exo (hp.objs.size + 1) C none)) (fun v H2 => v = .non ∧ ∃ d, H2 (hp.objs.size + 1) = some (exo (hp.objs.size + 1) C (some d)) ∧ H2 d = some (exd d [(f, y)]) ∧ H1 d = none ∧ upd (del H2 (hp.objs.size + 1)) d (.xd [(f, y)]) = upd H1 d (.xd [(f, y)])) E0 := by
    refine ⟨hp.objs.size + 1, y, rfl, upd_same, fun d nd hd => ⟨rfl, d, upd_same, by rw [upd_ne hd, upd_same], by rw [upd_ne hd] at nd; exact nd, ?_⟩⟩
    have nd' : H1 d = none := by rw [upd_ne hd] at nd; exact nd
    funext z
    by_cases h1 : z = d
    · rw [h1, upd_same, upd_same]
    · rw [upd_ne h1, upd_ne h1]
      by_cases h2 : z = hp.objs.size + 1
      · rw [h2, del_same, na]
      · rw [del_ne h2, upd_ne h2, upd_ne h1, upd_ne h2]
  refine wpAny_call (PySem.HandSPX.call_own PySem.F.excBase_ValueError (fun Y => PySem.HandSPX.refsVE_contains Y bm hbm) (I1.kIn _ _ hC) (PySem.W.looks_findIn I1.kIn T.ini) (fun self => PySem.W.bind_fn I1.kIn self T.ty) (by show us.length ≤ sizeLine; rw [lu1]; decide)
    (codeAny_mono (F.go _ X.stack _ _ ⟨Value.ref (hp.objs.size + 1) :: us, []⟩ (Value.ref (hp.objs.size + 1) :: us) _ _ E0 cal (hr.make C us []) (I2.env0.make C us []) bnd r2 hq) ?_))
  intro rs s' hq'
  match rs, hq' with
  | .error er, hq' => exact pass0 pins σ _ _ er s' I2 hq'
  | .ok (.ret u), hq' =>
    obtain ⟨v, H2, os2, bare2, un2, hok2, rv, ev, d, ea, ed, hd1, eH⟩ := hq'
    subst ev
    obtain ⟨h2, g2, d2, t2, os'⟩ := s'
    exact ⟨rv, mk_end (raises_own T.oex.exC T.oex.tyC) I1 above kk un2 hok2 os2 bare2 ea ed hd1 (by rw [eH]; exact q1 d hd1)⟩
theorem ps_rz {X : Cx} {W : WX} {e : Expr} {t : L2.St → Hp → XK → Prop} {pos : Pos} (hc : X.calm = true) (tk : Takes X W) (he : PMk X e t) : PS X (.Raise (some e) none pos) (tRz W t) := ps_raise hc tk he
theorem w_rz {W : WX} {t : L2.St → Hp → XK → Prop} {D : Ends} {σ : L2.St} {H : Hp} (k : t σ H fun cls d H' => W cls d σ H') : tRz W t D σ H := k
theorem w_mke {C : Addr} {f : Str} {t : TA} {σ : L2.St} {H : Hp} {Q : XK} (k : t σ H fun vs H1 => ∃ y, vs = [y] ∧ ∀ d, H1 d = none → Q (.ref C) (some d) (upd H1 d (.xd [(f, y)]))) : tMkE C f t σ H Q := k
/-! ### a try with several clauses, named or not -/
structure Cl where
  c : Value
  i : Option Nat
  ts : Addr → Value → Option Addr → TS
/-- where a suite goes on: the clause's name goes -/
def Ends.gone (D : Ends) : Option Nat → Ends
  | some i => ⟨fun σ H => D.nx (σ.set i none) H, D.rt, fun σ H => D.bk (σ.set i none) H, fun σ H => D.ct (σ.set i none) H⟩
  | none => D
def put (σ : L2.St) (a : Addr) : Option Nat → L2.St
  | some i => σ.set i (some (.ref a))
  | none => σ
/-- what the clauses wish of what the body raises -/
def wN (K : PySem.W.Frag) (Wout : WX) (D : Ends) : List (Option Cl) → WX
  | [] => Wout
  | none :: _ => fun _ _ _ _ => False
  | some q :: l => fun cls d σ H => ∃ b, PySem.W.exmOne K cls q.c = some b ∧ (b = true → ∀ a, H a = none → q.ts a cls d (Ends.gone D q.i) (put σ a q.i) H) ∧ (b = false → wN K Wout D l cls d σ H)
inductive Hds (X : Cx) : List ExceptHandler → List (Option Cl) → Prop
  | nil : Hds X [] []
  | never {hds : List ExceptHandler} : Hds X hds [none]
  | as_ {x n : Str} {c : Value} {i : Nat} {ts : Addr → Value → Option Addr → TS} {b₀ : Stmt} {suite : List Stmt} {np pos' : Pos} {hds : List ExceptHandler} {l : List (Option Cl)} (hi : X.N[i]? = some n) (hln : X.env.kindOf n = some .local) (hc : Names X x c)
      (hsu : ∀ (a : Addr) (oe : Obj) (cls : Value) (d : Option Addr) (pn : List (Addr × Obj)), Zc cls d oe → (∃ vs, oe.data = .fields vs) → PSs (X.suite a ((a, oe) :: pn)) (b₀ :: suite) (ts a cls d)) (r : Hds X hds l) :
      Hds X (.ExceptHandler (some (.Name x np)) (some n) (b₀ :: suite) pos' :: hds) (some ⟨c, some i, ts⟩ :: l)
  | plain {x : Str} {c : Value} {ts : Addr → Value → Option Addr → TS} {b₀ : Stmt} {suite : List Stmt} {np pos' : Pos} {hds : List ExceptHandler} {l : List (Option Cl)} (hc : Names X x c)
      (hsu : ∀ (a : Addr) (oe : Obj) (cls : Value) (d : Option Addr) (pn : List (Addr × Obj)), Zc cls d oe → (∃ vs, oe.data = .fields vs) → PSs (X.suite a ((a, oe) :: pn)) (b₀ :: suite) (ts a cls d)) (r : Hds X hds l) :
      Hds X (.ExceptHandler (some (.Name x np)) none (b₀ :: suite) pos' :: hds) (some ⟨c, none, ts⟩ :: l)
def tTryN (tb : WX → TS) (K : PySem.W.Frag) (Wout : WX) (l : List (Option Cl)) : TS := fun D σ H => tb (wN K Wout D l) D σ H
section
variable {X : Cx} {body : List Stmt} {h₀ : ExceptHandler} {hds : List ExceptHandler} {l : List (Option Cl)} {pos : Pos} {tb : WX → TS} {Wout : WX}
theorem ps_tryN (hs : X.stack = X.env :: X.outer) (hf : X.env.frame = some X.env.locals) (hN : X.N.Nodup) (tk : Takes X Wout)
    (hb : ∀ (W : WX) (pn : List (Addr × Obj)) (xe : Value → Shared → Prop), Takes (X.tr pn xe) W → PassesOwn (model X.prog X.w) X.A X.env xe → PSs (X.tr pn xe) body (tb W))
    (hh : Hds X (h₀ :: hds) l) : PS X (.Try body (h₀ :: hds) [] [] pos) (tTryN tb X.K Wout l) := by
  constructor
  intro pins s σ H D I h
  have ok := I.ok
  have hfr : X.A.frames = some (X.env :: X.outer) := by rw [ok.frames, hs]
  refine wpAny_Try_except ?_
  refine wpAny_mono ((hb (wN X.K Wout D l) (X.pn ++ pins) (fun e s₁ => wpAny (model X.prog X.w) X.A (noteFrame e X.env) (fun _ s₂ => wpAny (model X.prog X.w) X.A (setFlight e none) (fun _ s₃ =>
    wpAny (model X.prog X.w) X.A (handleBy e X.env (h₀ :: hds)) (SP X pins D) X.xe s₃) X.xe s₂) X.xe s₁) ?_ PassesOwn.looking).run [] s σ H D (I.toTry _) h) ?_ fun e s1 he => he
  · rintro u s' ⟨a, B, sI, pins', σ', H', cls, d, rfl, J', nb, up, sky, na, os, ag, w⟩
    have J : Inv X pins σ' H' sI := J'.ofTry ok
    show wpAny (model X.prog X.w) X.A (noteFrame (.ref a) X.env) _ _ _
    refine Sky.land Zc.steady hfr hf (by rw [← hs]; exact sky) fun h3 fl3 up3 => ?_
    have J3 : Inv X pins σ' H' { s' with heap := h3 } := J.landed nb fl3.1 (up.trans up3) os ag
    obtain ⟨oe3, vs3, he3, hz3, hd3⟩ := fl3.there
    have nfr : a ∉ frs (X.env :: X.outer) := fun hm => by
      obtain ⟨_, o', e', hnf⟩ := fl3.2.2.1.mem hm
      rw [he3] at e'
      cases e'
      exact hnf _ hd3
    have nL : a ≠ X.env.locals := fun z => nfr (List.mem_filterMap.mpr ⟨X.env, List.mem_cons_self, by rw [hf, z]⟩)
    have nF : a ∉ X.fs := fun hm => by
      obtain ⟨e, he, q⟩ := List.mem_filterMap.mp hm
      exact nfr (List.mem_filterMap.mpr ⟨e, List.mem_cons_of_mem _ he, q⟩)
    have S3 := J3.suite he3 hd3 na nL nF
    have LT : PySem.W.Looks (model X.prog X.w) h3 (typeOf (.ref a)) cls := fun A Q E s k q => wpAny_typeOf_ref (k _ _ he3) (by rw [hz3.1]; exact q)
    have test : ∀ {x : Str} {c : Value} {np : Pos} {Q : Value → Shared → Prop} {E : Value → Shared → Prop}, Names X x c → Q c { s' with heap := h3 } → wpAny (model X.prog X.w) (X.A.mark (some (.ref a))) (eval (.Name x np) X.env) Q E { s' with heap := h3 } := by
      intro x c np Q E hc q
      obtain ⟨hg, hdbg, hm | ⟨hm, hv, hnn⟩⟩ := hc
      · exact ld_glob (X := X.suite a ((a, oe3) :: (X.pn ++ pins))) S3 hg hm q hdbg
      · exact ld_blt (X := X.suite a ((a, oe3) :: (X.pn ++ pins))) S3 hg hm hv q hnn hdbg
    have go : ∀ {hds' : List ExceptHandler} {l' : List (Option Cl)}, Hds X hds' l' → wN X.K Wout D l' cls d σ' H' → wpAny (model X.prog X.w) X.A (handleBy (.ref a) X.env hds') (SP X pins D) X.xe { s' with heap := h3 } := by
      intro hds' l' hk
      induction hk with
      | never => exact fun w => w.elim
      | nil =>
        intro w
        refine wpAny_handleBy_nil ?_
        obtain ⟨k1, k2, k3, oe, vs, T, oT, ts', he, hz, hd, h1, hr⟩ := id fl3
        unfold PySem.passOn
        refine wpAny_bind (wpAny_field he hd h1 ?_)
        rw [if_neg (show ¬ ((Value.ref T == Value.none) = true) from by simp)]
        have fin : wpAny (model X.prog X.w) X.A (setFlight (.ref a) X.env.frame) (fun _ s4 => wpAny (model X.prog X.w) X.A (throw (.ref a) : Sem Flow) (SP X pins D) X.xe s4) X.xe { s' with heap := h3 } := by
          rw [hf]
          refine HandSPX.setFlight_upZ fl3 fun h4 hh4 up4 => wpAny_throw (tk _ _ ?_)
          exact ⟨a, B, sI, pins, σ', H', cls, d, rfl, J, nb, (up.trans up3).trans up4, .inr (.inr (by rw [hs]; exact hh4)), na, os, ag, w⟩
        first
          | exact wpAny_bind (wpAny_pure (wpAny_bind fin))
          | exact wpAny_bind fin
      | @as_ x n c i ts b₀ suite np pos' hds2 l2 hi hln hc hsu r ih =>
        intro w
        obtain ⟨b, hb1, hyes, hno⟩ := w
        refine wpAny_handleBy_cons (codeAny_handlers_test (test hc ((PySem.W.exm_one (M := model X.prog X.w) J3.kIn LT hb1).here ?_))) (by intro q; cases q)
        cases b with
        | false =>
          show wpAny _ X.A (handleBy (.ref a) X.env hds2) _ _ _
          exact ih (hno rfl)
        | true =>
          refine codeAny_handlers_suite_as ?_
          refine HandSPX.lands_againZ fl3 fun h4 fl4 up4 => ?_
          have J4 : Inv X pins σ' H' { s' with heap := h4 } := J.landed nb fl4.1 ((up.trans up3).trans up4) os ag
          obtain ⟨oe4, vs4, he4, hz4, hd4⟩ := fl4.there
          have S4 := J4.suite he4 hd4 na nL nF
          refine store_ok (X := X.suite a ((a, oe4) :: (X.pn ++ pins))) (v := .ref a) S4 hN hi (.inl hln) rfl (fun s5 S5 => ?_) (.inr hln)
          refine wpAny_mono ((hsu a oe4 cls d (X.pn ++ pins) hz4 ⟨_, hd4⟩).run [] s5 _ H' _ S5 (hyes rfl a na)) (fun f s6 hsp => ?_) (fun _ _ z => False.elim z)
          have end_ : ∀ {σ6 : L2.St} {H6 : Hp} {Q : Shared → Prop}, Inv (X.suite a ((a, oe4) :: (X.pn ++ pins))) [] σ6 H6 s6 → (∀ s7, Inv X pins (σ6.set i none) H6 s7 → Q s7) →
              wpAny (model X.prog X.w) X.A (do bindName X.env n .none; unbindBehindTheSuite X.env n pos') (fun _ s7 => Q s7) X.xe s6 := fun {σ6 H6 Q} S6 hq => gone_ok (S6.unsuite ok) hN hi hln hq
          cases f with
          | next =>
            obtain ⟨σ6, H6, S6, q6⟩ := hsp
            exact end_ S6 fun s7 J7 => ⟨_, _, J7, q6⟩
          | brk =>
            obtain ⟨σ6, H6, S6, q6⟩ := hsp
            exact end_ S6 fun s7 J7 => ⟨_, _, J7, q6⟩
          | cont =>
            obtain ⟨σ6, H6, S6, q6⟩ := hsp
            exact end_ S6 fun s7 J7 => ⟨_, _, J7, q6⟩
          | ret u =>
            obtain ⟨v6, σ6, H6, S6, r6, q6⟩ := hsp
            exact end_ S6 fun s7 J7 => ⟨_, _, _, J7, r6, q6⟩
      | @plain x c ts b₀ suite np pos' hds2 l2 hc hsu r ih =>
        intro w
        obtain ⟨b, hb1, hyes, hno⟩ := w
        refine wpAny_handleBy_cons (codeAny_handlers_test (test hc ((PySem.W.exm_one (M := model X.prog X.w) J3.kIn LT hb1).here ?_))) (by intro q; cases q)
        cases b with
        | false =>
          show wpAny _ X.A (handleBy (.ref a) X.env hds2) _ _ _
          exact ih (hno rfl)
        | true =>
          refine codeAny_handlers_suite ?_
          refine HandSPX.lands_againZ fl3 fun h4 fl4 up4 => ?_
          have J4 : Inv X pins σ' H' { s' with heap := h4 } := J.landed nb fl4.1 ((up.trans up3).trans up4) os ag
          obtain ⟨oe4, vs4, he4, hz4, hd4⟩ := fl4.there
          have S4 := J4.suite he4 hd4 na nL nF
          refine wpAny_mono ((hsu a oe4 cls d (X.pn ++ pins) hz4 ⟨_, hd4⟩).run [] _ _ H' _ S4 (hyes rfl a na)) (fun f s6 hsp => ?_) (fun _ _ z => False.elim z)
          cases f with
          | next =>
            obtain ⟨σ6, H6, S6, q6⟩ := hsp
            exact ⟨_, _, S6.unsuite ok, q6⟩
          | brk =>
            obtain ⟨σ6, H6, S6, q6⟩ := hsp
            exact ⟨_, _, S6.unsuite ok, q6⟩
          | cont =>
            obtain ⟨σ6, H6, S6, q6⟩ := hsp
            exact ⟨_, _, S6.unsuite ok, q6⟩
          | ret u =>
            obtain ⟨v6, σ6, H6, S6, r6, q6⟩ := hsp
            exact ⟨_, _, _, S6.unsuite ok, r6, q6⟩
    exact go hh w
  · intro f s1 hsp
    cases f with
    | next =>
      obtain ⟨σ', H', J', q⟩ := hsp
      exact wpAny_execs_nil ⟨σ', H', J'.ofTry ok, q⟩
    | brk =>
      obtain ⟨σ', H', J', q⟩ := hsp
      exact ⟨σ', H', J'.ofTry ok, q⟩
    | cont =>
      obtain ⟨σ', H', J', q⟩ := hsp
      exact ⟨σ', H', J'.ofTry ok, q⟩
    | ret u =>
      obtain ⟨v, σ', H', J', r, q⟩ := hsp
      exact ⟨v, σ', H', J'.ofTry ok, r, q⟩
end
theorem w_try {tb : WX → TS} {K : PySem.W.Frag} {Wout : WX} {l : List (Option Cl)} {D : Ends} {σ : L2.St} {H : Hp} (k : tb (wN K Wout D l) D σ H) : tTryN tb K Wout l D σ H := k
theorem w_cbs {r : L2.St → List V → Hp → VK → Prop} {t : TA} {σ : L2.St} {H : Hp} {Q : VK} (k : t σ H fun vs H1 => r σ vs H1 Q) : tCBS r t σ H Q := k
theorem w_cks {n m : Nat} {r : L2.St → List V → List V → Hp → VK → Prop} {t tk : TA} {σ : L2.St} {H : Hp} {Q : VK} (k : t σ H fun vs H1 => tk σ H1 fun zs H2 => vs.length = n ∧ zs.length = m ∧ r σ vs zs H2 Q) : tCKS n m r t tk σ H Q := k
theorem w_sfld {K : PySem.W.Frag} {ta tv : TE} {f : Str} {nx : L2.St → Hp → Prop} {rt : VK} {bk ct : L2.St → Hp → Prop} {σ : L2.St} {H : Hp} (k : tv σ H fun y H1 => ta σ H1 fun x H2 => ∃ a C dx fs, x = .ref a ∧ H2 a = some (.ins C dx fs) ∧ Cls K C ∧ NoAttr K C f ∧ fs.length < 1000 ∧ nx σ (upd H2 a (.ins C dx (putF f y fs)))) : sFld K ta tv f ⟨nx, rt, bk, ct⟩ σ H := k
theorem w_fld {K : PySem.W.Frag} {ta : TE} {f : Str} {σ : L2.St} {H : Hp} {Q : VK} (k : ta σ H fun x H1 => ∃ a C dx fs v, x = .ref a ∧ H1 a = some (.ins C dx fs) ∧ Cls K C ∧ NoAttr K C f ∧ fs.lookup f = some v ∧ Q v H1) : tFld K ta f σ H Q := k
theorem w_mth {C : Addr} {m : Str} {r : List V → Hp → VK → Prop} {ta : TE} {t : TA} {σ : L2.St} {H : Hp} {Q : VK} (k : ta σ H fun x H1 => ∃ a dx fs, x = .ref a ∧ H1 a = some (.ins C dx fs) ∧ fs.lookup m = none ∧ t σ H1 fun vs H2 => r (x :: vs) H2 Q) : tMth C m r ta t σ H Q := k
theorem w_xf {a : Addr} {cls : Value} {d : Option Addr} {C : Addr} {f : Str} {te : TE} {σ : L2.St} {H : Hp} {Q : VK} (k : te σ H fun x H1 => x = .ref a ∧ cls = .ref C ∧ ∃ (dd : Addr) (fs : List (Str × V)) (v : V), d = some dd ∧ H1 dd = some (.xd fs) ∧ fs.lookup f = some v ∧ Q v H1) : tXf a cls d C f te σ H Q := k
/-- the fields of such an error can be read -/
theorem Er.xf {K : PySem.W.Frag} {mg : Str → Option Value} {x f : Str} {C fI : Addr} (T : Er K mg x f C fI) : XfC K C := by
  obtain ⟨nm, qn, N, bs, bm, sn, sub, ab, col, dd, k0, k1, k2, k3, k5, hC, hbm⟩ := T.oex.cls
  refine ⟨T.ei.hga, T.ei.hgt, T.oex.exC, ?_⟩
  unfold PySem.W.hasDictIn PySem.W.clsIn
  rw [hC]
  rfl
/-- which clause takes it -/
theorem exm_of {K : PySem.W.Frag} {C D : Addr} {b : Bool} (hD : PySem.W.subIn K (.ref D) (.type "BaseException") = some true) (i : (PySem.W.clsIn K D).isSome = true) (ty : PySem.W.typeIn K (.ref D) = some (.type "type")) (h : PySem.W.subIn K (.ref C) (.ref D) = some b) : PySem.W.exmOne K (.ref C) (.ref D) = some b := by
  unfold PySem.W.exmOne
  rw [hD]
  show PySem.W.kitCls K (.ref C) (.ref D) = some b
  unfold PySem.W.kitCls
  show (if ((PySem.W.clsIn K D).isSome && PySem.W.typeIn K (.ref D) == some (.type "type")) = true then PySem.W.subIn K (.ref C) (.ref D) else none) = some b
  rw [i, ty, h]
  rfl
theorem Er.exm {K : PySem.W.Frag} {mg : Str → Option Value} {x f : Str} {C fI B : Addr} {b : Bool} (T : Er K mg x f C fI) (h : PySem.W.subIn K (.ref B) (.ref C) = some b) : PySem.W.exmOne K (.ref B) (.ref C) = some b := exm_of T.oex.exC T.ei.hcl T.oex.tyC h
/-! ### new lists, not where the modules' table may stand -/
def NewL4 (xs : List V) (H : Hp) (Q : VK) : Prop := ∀ p, H p = none → p ≠ sysModules → Q (.ref p) (upd H p (.lst xs))
theorem size4 {X : Cx} {pins : List (Addr × Obj)} {σ : L2.St} {H : Hp} {s : Shared} (I : Inv X pins σ H s) : s.heap.objs.size ≠ sysModules := by
  obtain ⟨o, es, ep, e, _⟩ := I.mod.glob
  have := Heap.lt_size (I.bk _ _ e)
  intro z
  rw [z] at this
  revert this
  decide
/-- an index of a list, within a try's body (the reading names no part of that context) -/
theorem ix_listT {X : Cx} {K : PySem.W.Frag} (e : X.K = K) : IxR X (rIxL K) := by
  subst e
  exact ix_list
/-- never reached -/
theorem ps_never {X : Cx} {st : Stmt} : PS X st (fun _ _ _ => False) := ⟨fun _ _ _ _ _ _ h => h.elim⟩
theorem pe_never {X : Cx} {e : Expr} : PE X e (fun _ _ _ => False) := ⟨fun _ _ _ _ _ _ h => h.elim⟩
end Dz

set_option Elab.async false
set_option linter.all false
set_option maxRecDepth 100000
set_option maxHeartbeats 2000000
/-! repr of data with empty dicts in it. -/
namespace Dz
open PySem PySem.Spec PyProof.Rows L2
mutual
inductive Dq (K : PySem.W.Frag) (H : Hp) : V → PyData → Prop
  | non : Dq K H .non .none
  | bl (b : Bool) : Dq K H (.bl b) (.bool b)
  | int (i : Int) : Dq K H (.int i) (.int i)
  | str (x : Str) : Dq K H (.str x) (.str x)
  | lst {a : Addr} {xs : List V} {ds : List PyData} : a ≠ sysModules → SqL K H a xs → DqAll K H xs ds → Dq K H (.ref a) (.list ds)
  | tup {a : Addr} {xs : List V} {ds : List PyData} : SqT K H a xs → DqAll K H xs ds → Dq K H (.ref a) (.tuple ds)
  | dct {a : Addr} : H a = some (.dK []) → Dq K H (.ref a) (.dict [])
inductive DqAll (K : PySem.W.Frag) (H : Hp) : List V → List PyData → Prop
  | nil : DqAll K H [] []
  | cons {v : V} {vs : List V} {d : PyData} {ds : List PyData} : Dq K H v d → DqAll K H vs ds → DqAll K H (v :: vs) (d :: ds)
end
section
variable {X : Cx} {pins : List (Addr × Obj)} {σ : L2.St} {H : Hp} {s : Shared}
mutual
theorem Dq.reads (I : Inv X pins σ H s) : ∀ (d : PyData) (v : V) (u : Value), Dq X.K H v d → RelV v u → ∃ as, Reads s.heap u d as ∧ sysModules ∉ as
  | .none, _, _, h, r => by cases h; cases r; exact ⟨_, Reads.none, fun z => nomatch z⟩
  | .bool b, _, _, h, r => by cases h; cases r; exact ⟨_, Reads.bool b, fun z => nomatch z⟩
  | .int i, _, _, h, r => by
    cases h
    obtain ⟨t, rfl⟩ := r
    exact ⟨_, Reads.int i t, fun z => nomatch z⟩
  | .str x, _, _, h, r => by
    cases h
    obtain ⟨t, rfl⟩ := r
    exact ⟨_, Reads.str x t, fun z => nomatch z⟩
  | .list ds, _, _, h, r => by
    cases h with
    | lst na hs ha =>
      cases r
      obtain ⟨its, rv, ⟨o, n, ho, hc, _, hd⟩, _⟩ := I.list hs
      obtain ⟨as, hr, hn⟩ := Dq.readsAll I ds _ its ha rv
      exact ⟨_, Reads.list ho hc hd hr, fun z => by
        rcases List.mem_cons.mp z with e | z
        · exact na e.symm
        · exact hn z⟩
  | .tuple ds, _, _, h, r => by
    cases h with
    | tup hs ha =>
      cases r
      obtain ⟨its, rv, ⟨o, ho, hc, n, hd⟩, _⟩ := I.tuple hs
      obtain ⟨as, hr, hn⟩ := Dq.readsAll I ds _ its ha rv
      exact ⟨_, Reads.tuple ho hc hd hr, hn⟩
  | .dict kvs, _, _, h, r => by
    cases h with
    | dct hs =>
      cases r
      obtain ⟨_, na, vs, kv, o, es, ep, ho, hx, hd, _, pr, _⟩ := dk_of I.hok hs
      cases kv
      cases pr' : es.toList with
      | nil =>
        refine ⟨_, Reads.dict (kvs := []) ho hx.1 hd (by rw [pr']; exact .nil) (by rw [pr']; exact .nil), fun z => ?_⟩
        have z' : sysModules = _ := List.mem_singleton.mp z
        rw [← z'] at na
        exact absurd na (by decide)
      | cons e l =>
        rw [pr'] at pr
        exact absurd pr.length (by simp)
theorem Dq.readsAll (I : Inv X pins σ H s) : ∀ (ds : List PyData) (vs : List V) (us : List Value), DqAll X.K H vs ds → Vals vs us → ∃ as, ReadsAll s.heap us ds as ∧ sysModules ∉ as
  | [], _, _, h, r => by cases h; cases r; exact ⟨_, ReadsAll.nil, fun z => nomatch z⟩
  | d :: ds, _, _, h, r => by
    cases h with
    | cons h1 h2 =>
      cases r with
      | cons r1 r2 =>
        obtain ⟨as, q1, n1⟩ := Dq.reads I d _ _ h1 r1
        obtain ⟨bs, q2, n2⟩ := Dq.readsAll I ds _ _ h2 r2
        exact ⟨_, ReadsAll.cons q1 q2, fun z => by
          rcases List.mem_append.mp z with z | z
          · exact n1 z
          · exact n2 z⟩
end
end
/-- repr(x) -/
def rShowQ (K : PySem.W.Frag) : List V → Hp → VK → Prop := fun xs H Q => ∃ v d, xs = [v] ∧ Dq K H v d ∧ d.showable = true ∧ d.depth ≤ 60 ∧ d.shown.length ≤ sizeLine ∧ Q (.str d.shown) H
theorem call_showQ {X : Cx} {k : Nat} (hg : Calm X.A) (hr : Room k X.A) : CallR X (.builtin "repr") (rShowQ X.K) := by
  intro pins s σ H xs us Q I r h
  obtain ⟨v, d, rfl, hd, hs, hp, hz, q⟩ := h
  cases r with
  | @cons _ u _ _ rv rn =>
  cases rn
  have hu := hr.units
  obtain ⟨as, rd, nas⟩ := Dq.reads I _ _ _ hd rv
  cases hd with
  | non => cases rv; exact PySem.P.repr_of_none ⟨.str _, H, I.tok _, ⟨_, rfl⟩, q⟩
  | bl b => cases rv; exact PySem.P.repr_of_bool ⟨.str _, H, I.tok _, ⟨_, rfl⟩, q⟩
  | int i =>
    obtain ⟨t, rfl⟩ := rv
    exact PySem.P.repr_of_int (of_decide_eq_true hs) ⟨.str _, H, I.tok _, ⟨_, rfl⟩, q⟩
  | str x =>
    obtain ⟨t, rfl⟩ := rv
    exact PySem.P.repr_of_str ⟨.str _, H, I.tok _, ⟨_, rfl⟩, q⟩ hz
  | lst h0 h1 h2 =>
    cases rv
    exact repr_of_reads' rd hs (fun _ => nas) hg (by omega) (fun _ _ e => e) (fun h' u tk hk => ⟨.str _, H, I.kept hk, ⟨_, rfl⟩, q⟩) hz
  | tup h1 h2 =>
    cases rv
    exact repr_of_reads' rd hs (fun _ => nas) hg (by omega) (fun _ _ e => e) (fun h' u tk hk => ⟨.str _, H, I.kept hk, ⟨_, rfl⟩, q⟩) hz
  | dct h1 =>
    cases rv
    exact repr_of_reads' rd hs (fun _ => nas) hg (by omega) (fun _ _ e => e) (fun h' u tk hk => ⟨.str _, H, I.kept hk, ⟨_, rfl⟩, q⟩) hz
/-- data that repr shows: at most B signs, at most k deep -/
structure Sq (d : PyData) (B k : Nat) : Prop where
  ok : d.showable = true
  dp : d.depth ≤ k
  ln : d.shown.length ≤ B
theorem Sq.more {d : PyData} {B k B' k' : Nat} (h : Sq d B k) (e : B ≤ B' := by omega) (f : k ≤ k' := by omega) : Sq d B' k' := ⟨h.ok, Nat.le_trans h.dp f, Nat.le_trans h.ln e⟩
theorem Sh.q {d : PyData} {B k : Nat} (h : Sh d B k) : Sq d B k := ⟨h.ok, h.dp, h.ln⟩
theorem Sq.dct : Sq (.dict []) 2 1 := ⟨rfl, Nat.le_refl 1, by decide +kernel⟩
theorem sq_all {ds : List PyData} {B k : Nat} (h : ∀ d ∈ ds, Sq d B k) : PyData.showableAll ds = true ∧ PyData.depthAll ds ≤ k := by
  induction ds with
  | nil => exact ⟨rfl, Nat.zero_le _⟩
  | cons d ds ih =>
    have a := h d List.mem_cons_self
    obtain ⟨b1, b3⟩ := ih fun e he => h e (List.mem_cons_of_mem _ he)
    refine ⟨?_, ?_⟩
    · show (d.showable && PyData.showableAll ds) = true
      rw [a.ok, b1]; rfl
    · show max d.depth (PyData.depthAll ds) ≤ k
      have := a.dp
      omega
theorem Sq.list {ds : List PyData} {B k : Nat} (h : ∀ d ∈ ds, Sq d B k) : Sq (.list ds) ((B + 2) * ds.length + 3) (k + 1) := by
  obtain ⟨b1, b3⟩ := sq_all h
  exact ⟨b1, Nat.succ_le_succ b3, sh_list fun d hd => (h d hd).ln⟩
theorem Sq.tup {ds : List PyData} {B k : Nat} (h : ∀ d ∈ ds, Sq d B k) : Sq (.tuple ds) ((B + 2) * ds.length + 3) (k + 1) := by
  obtain ⟨b1, b3⟩ := sq_all h
  exact ⟨b1, Nat.succ_le_succ b3, sh_tup fun d hd => (h d hd).ln⟩
theorem w_showQ {K : PySem.W.Frag} {H : Hp} {Q : VK} {v : V} {d : PyData} {B k : Nat} (dp : Dq K H v d) (s : Sq d B k) (q : Q (.str d.shown) H) (hk : k ≤ 60 := by decide) (hB : B ≤ 16777216 := by decide) : rShowQ K [v] H Q :=
  ⟨v, d, rfl, dp, s.ok, Nat.le_trans s.dp hk, Nat.le_trans s.ln (Nat.le_trans hB (by decide)), q⟩
/-! ### the lists that are shown -/
def tLst4 (t : TA) : TE := fun σ H Q => t σ H fun xs H1 => xs.length ≤ sizeLine ∧ NewL4 xs H1 Q
theorem pe_lst4 {X : Cx} {es : List Expr} {t : TA} {pos : Pos} (h : PA X es t) : PE X (.List es pos) (tLst4 t) := by
  refine ⟨fun pins s σ H Q I hq => ?_⟩
  refine wpAny_List_spliced (thn (h.run pos pins s σ H _ I hq) ?_)
  rintro us s1 ⟨xs, H1, I1, r, z, q⟩
  refine ⟨by rw [← r.length]; exact z, ?_⟩
  exact ⟨.ref s1.heap.objs.size, upd H1 s1.heap.objs.size (.lst xs), I1.laid (t' := s1.toks) (fun b u e => Heap.get?_push_of_some _ e) (Nat.le_refl _) ⟨z, us, 0, r, Heap.get?_push_size _ rfl⟩, rfl, q _ (I1.hok.fresh (Nat.le_refl _)) (size4 I1)⟩
def rCat4 : R2 := fun x y H Q => ∃ l b xs ys, x = .ref l ∧ y = .ref b ∧ H l = some (.lst xs) ∧ H b = some (.lst ys) ∧ xs.length + ys.length ≤ sizeLine ∧ NewL4 (xs ++ ys) H Q
theorem op_cat4 {X : Cx} : OpR X (binaryOp .Add) rCat4 := by
  intro pins s σ H x y v u Q I rx ry h
  obtain ⟨l, b, xs, zs, rfl, rfl, hH, hB, hz, q⟩ := h
  cases rx
  cases ry
  obtain ⟨z, its, n, r, hl, e⟩ := I.lstM hH
  obtain ⟨z2, its2, n2, r2, hl2, e2⟩ := I.lstM hB
  refine PySem.P.add_list e e2 ?_ (by rw [List.size_toArray, List.size_toArray]; omega)
  have ea : its.toArray ++ its2.toArray = (its ++ its2).toArray := by simp
  rw [ea]
  exact ⟨.ref _, _, I.lnew (t' := s.toks) (r.append r2) (by rw [List.length_append]; omega), rfl, q _ I.fresh (size4 I)⟩
section
variable {σ : L2.St} {H : Hp} {Q : VK} {t : TA} {xs ys : List V}
theorem w_lst4 (k : t σ H fun xs H1 => xs.length ≤ sizeLine ∧ NewL4 xs H1 Q) : tLst4 t σ H Q := k
theorem w_cat4 {l b : Addr} (h1 : H l = some (.lst xs)) (h2 : H b = some (.lst ys)) (hz : xs.length + ys.length ≤ sizeLine) (k : NewL4 (xs ++ ys) H Q) : rCat4 (.ref l) (.ref b) H Q := ⟨l, b, xs, ys, rfl, rfl, h1, h2, hz, k⟩
theorem newL4_mk (k : ∀ p G, H p = none → p ≠ sysModules → Same H G → G p = some (.lst xs) → Q (.ref p) G) : NewL4 xs H Q := fun p np n1 => k p _ np n1 (same_new np) upd_same
end
end Dz

set_option Elab.async false
set_option linter.all false
set_option maxRecDepth 100000
set_option maxHeartbeats 2000000
/-! A text's own ==. -/
namespace Dz
open PySem PySem.Spec PyProof.Rows L2
section
variable {X : Cx} {C f : Addr} {r : List V → Hp → VK → Prop}
/-- things whose type is known -/
inductive Ty5 (H : Hp) : V → Value → Prop
  | non : Ty5 H .non (.type "NoneType")
  | bl (x : Bool) : Ty5 H (.bl x) (.type "bool")
  | int (i : Int) : Ty5 H (.int i) (.type "int")
  | str (x : Str) : Ty5 H (.str x) (.type "str")
  | lst {a : Addr} {xs : List V} (e : H a = some (.lst xs)) : Ty5 H (.ref a) (.type "list")
  | tup {a : Addr} {xs : List V} (e : H a = some (.tup xs)) : Ty5 H (.ref a) (.type "tuple")
  | dK {a : Addr} {kvs : List (Key × V)} (e : H a = some (.dK kvs)) : Ty5 H (.ref a) (.type "dict")
  | ins {a D dx : Addr} {fs : List (Str × V)} (e : H a = some (.ins D dx fs)) : Ty5 H (.ref a) (.ref D)
theorem looks_ty {pins : List (Addr × Obj)} {σ : L2.St} {H : Hp} {s : Shared} {y : V} {u t : Value} (I : Inv X pins σ H s) (ry : RelV y u) (ty : Ty5 H y t) : PySem.W.Looks (model X.prog X.w) s.heap (typeOf u) t := by
  cases ty with
  | non => cases ry; exact PySem.W.Looks.of_pure rfl
  | bl b => cases ry; exact PySem.W.Looks.of_pure rfl
  | int i =>
    obtain ⟨t, rfl⟩ := ry
    exact PySem.W.Looks.of_pure rfl
  | str x =>
    obtain ⟨t, rfl⟩ := ry
    exact PySem.W.Looks.of_pure rfl
  | lst e =>
    cases ry
    obtain ⟨z, its, n, rr, hl, e2⟩ := I.lstM e
    exact fun A Q E s k q => wpAny_typeOf_ref (k _ _ e2) q
  | tup e =>
    cases ry
    obtain ⟨its, rr, ⟨o, ho, hc, n, hd⟩, _⟩ := I.tuple (.of e)
    exact fun A Q E s k q => wpAny_typeOf_ref (k _ _ ho) (by rw [hc]; exact q)
  | dK e =>
    cases ry
    obtain ⟨_, _, vs, kv, o, es, ep, ho, hx, _⟩ := dk_of I.hok e
    exact fun A Q E s k q => wpAny_typeOf_ref (k _ _ ho) (by rw [hx.1]; exact q)
  | ins e =>
    cases ry
    obtain ⟨mA, J, _⟩ := ins_get I.hok e
    obtain ⟨od, J, _⟩ := J.look
    exact J.type
/-- x == y, x an instance of the class at C that has its own ==, which tells a truth -/
def rEqI (K : PySem.W.Frag) (C : Addr) (r : List V → Hp → VK → Prop) : R2 := fun x y H Q => ∃ a dx fs t, x = .ref a ∧ H a = some (.ins C dx fs) ∧ Ty5 H y t ∧ PySem.W.notFirst K C t = true ∧ r [x, y] H fun v H' => (∃ b, v = .bl b) ∧ Q v H'
theorem op_eqI (hs : PySem.W.findIn X.K (.ref C) "__eq__" = some (some (.ref f))) (hf : PySem.W.isFn X.K (.ref f) = true) (hc : CallR X (.ref f) r) (hu : X.A.units < cLine) : OpR X (compareOp .Eq) (rEqI X.K C r) := by
  intro pins s σ H x y v u Q I rx ry h
  obtain ⟨a, dx, fs, t, rfl, ha, ty, nf, q⟩ := h
  obtain ⟨mA, J, _⟩ := ins_get I.hok ha
  obtain ⟨od, J, _⟩ := J.look
  obtain ⟨m, hF⟩ := I.fr
  have L := looks_ty I ry ty
  cases rx
  show wpAny (model X.prog X.w) X.A (richCompare .Eq (.ref a) u) (EP X pins σ Q) X.xe s
  refine PySem.W.cmp_K (op := .Eq) (tb := t) hu hF I.ok.mod.kin J L nf hs hf ?_
  refine wpAny_mono (hc pins s σ H [.ref a, y] [.ref a, u] _ I (.cons rfl (.cons ry .nil)) q) ?_ fun _ _ e => e
  rintro w s' ⟨z, H', I', rz, ⟨b, rfl⟩, q'⟩
  cases rz
  exact ⟨.bl b, H', I', rfl, q'⟩
end
end Dz

set_option Elab.async false
set_option linter.all false
set_option maxRecDepth 100000
set_option maxHeartbeats 2000000
namespace Dz
open PySem PySem.Spec PyProof.Rows L2 PySem.SeqAt
open AutoSeq1 (wpAny_loadPart')
open MeetsSeq MeetsSeq2 MeetsSeq3 SeqRoads2
theorem int_eq_ins (b : Int) (u : Tok) (x C dx : Addr) :
    Meets (Builtin.«int.__eq__» ⟨[.int b u, .ref x], []⟩) (fun _ R s => s.heap.get? x = some (PySem.W.instObj C dx) ∧ R (.ok (.ret .notImplemented)) s) :=
  .of_wp fun prog w A R s h => by obtain ⟨hp, g, d, tk, os⟩ := s; obtain ⟨hl, h⟩ := h; unfold PySem.W.instObj at hl; wp_walk using wpAny_loadPart' hl, wpAny_load hl; exact ⟨_, rfl, h⟩
theorem bool_eq_ins (b : Bool) (x C dx : Addr) :
    Meets (Builtin.«int.__eq__» ⟨[.bool b, .ref x], []⟩) (fun _ R s => s.heap.get? x = some (PySem.W.instObj C dx) ∧ R (.ok (.ret .notImplemented)) s) :=
  .of_wp fun prog w A R s h => by obtain ⟨hp, g, d, tk, os⟩ := s; obtain ⟨hl, h⟩ := h; unfold PySem.W.instObj at hl; wp_walk using wpAny_loadPart' hl, wpAny_load hl; exact ⟨_, rfl, h⟩
theorem str_eq_ins (b : Str) (u : Tok) (x C dx : Addr) :
    Meets (Builtin.«str.__eq__» ⟨[.str b u, .ref x], []⟩) (fun _ R s => s.heap.get? x = some (PySem.W.instObj C dx) ∧ R (.ok (.ret .notImplemented)) s) :=
  .of_wp fun prog w A R s h => by obtain ⟨hp, g, d, tk, os⟩ := s; obtain ⟨hl, h⟩ := h; unfold PySem.W.instObj at hl; wp_walk using wpAny_loadPart' hl, wpAny_load hl; exact ⟨_, rfl, h⟩
theorem list_eq_ins {K : PySem.W.Frag} (l : Addr) (items : Array Value) (n : Nat) (dd : Option Addr) (sl : Array (Option Value)) (x C dx : Addr) (hsub : PySem.W.subIn K (.ref C) (.type "list") = some false) :
    Meets (Builtin.«list.__eq__» ⟨[.ref l, .ref x], []⟩) (fun _ R s => K.In s.heap ∧ s.heap.get? l = some { cls := .type "list", dict := dd, data := .seq items n, slots := sl } ∧ s.heap.get? x = some (PySem.W.instObj C dx) ∧ R (.ok (.ret .notImplemented)) s) :=
  .of_wp fun prog w A R s h => by
    obtain ⟨hp, g, d, tk, os⟩ := s
    obtain ⟨X, hl, hx, h⟩ := h
    unfold PySem.W.instObj at hx
    have f1 := fun M => PySem.W.looks_subIn (M := M) X hsub
    wp_walk using wpAny_loadPart' hl, wpAny_load hx
    refine (f1 _).here ?_
    wp_walk
    exact ⟨_, rfl, h⟩
theorem tuple_eq_ins {K : PySem.W.Frag} (l : Addr) (items : Array Value) (n : Nat) (dd : Option Addr) (sl : Array (Option Value)) (x C dx : Addr) (hsub : PySem.W.subIn K (.ref C) (.type "tuple") = some false) :
    Meets (Builtin.«tuple.__eq__» ⟨[.ref l, .ref x], []⟩) (fun _ R s => K.In s.heap ∧ s.heap.get? l = some { cls := .type "tuple", dict := dd, data := .seq items n, slots := sl } ∧ s.heap.get? x = some (PySem.W.instObj C dx) ∧ R (.ok (.ret .notImplemented)) s) :=
  .of_wp fun prog w A R s h => by
    obtain ⟨hp, g, d, tk, os⟩ := s
    obtain ⟨X, hl, hx, h⟩ := h
    unfold PySem.W.instObj at hx
    have f1 := fun M => PySem.W.looks_subIn (M := M) X hsub
    wp_walk using wpAny_loadPart' hl, wpAny_load hx
    refine (f1 _).here ?_
    wp_walk
    exact ⟨_, rfl, h⟩
theorem dict_eq_ins {K : PySem.W.Frag} (l : Addr) (es : Array DictEntry) (ep : Nat) (x C dx : Addr) (hsub : PySem.W.subIn K (.ref C) (.type "dict") = some false) :
    Meets (Builtin.«dict.__eq__» ⟨[.ref l, .ref x], []⟩) (fun _ R s => K.In s.heap ∧ s.heap.get? l = some { cls := .type "dict", data := .dict es ep } ∧ s.heap.get? x = some (PySem.W.instObj C dx) ∧ R (.ok (.ret .notImplemented)) s) :=
  .of_wp fun prog w A R s h => by
    obtain ⟨hp, g, d, tk, os⟩ := s
    obtain ⟨X, hl, hx, h⟩ := h
    unfold PySem.W.instObj at hx
    have f1 := fun M => PySem.W.looks_subIn (M := M) X hsub
    wp_walk using wpAny_loadPart' hl, wpAny_load hx
    refine (f1 _).here ?_
    wp_walk
    exact ⟨_, rfl, h⟩
section
variable {prog : Program} {w : World} {A : Around} {E : Value → Shared → Prop} {s : Shared} {K : PySem.W.Frag}
theorem rc_refl {T id : String} {u : Value} {x C f : Addr} {ox : Obj} {od : Option Obj} {Q : Value → Shared → Prop} (hu : A.units < cLine) (X : K.In s.heap) (hT : s.TypeIs u T) (h1 : Slot T (cmpInfo .Eq).2.1 id)
    (hc : wpAny (model prog w) A (call (.builtin id) [u, .ref x]) (fun v s' => v = .notImplemented ∧ s' = s) E s) (I : PySem.W.InstAt s.heap x ox C od) (hs : PySem.W.findIn K (.ref C) "__eq__" = some (some (.ref f))) (hf : PySem.W.isFn K (.ref f) = true)
    (hsub : PySem.W.subIn K (.ref C) (.type T) = some false) (h : wpAny (model prog w) A (call (.ref f) [.ref x, u]) (PySem.W.CmpBack Q) E s) : wpAny (model prog w) A (richCompare .Eq u (.ref x)) Q E s := by
  have one : wpAny (model prog w) A (tryCompare u (cmpInfo .Eq).2.1 (.ref x)) (fun r s' => r = none ∧ s' = s) E s :=
    wpAny_tryCompare_declines hT h1 (wpAny_mono hc (fun v s' z => ⟨z.1, rfl, z.2⟩) fun _ _ e => e)
  have two : wpAny (model prog w) A (tryCompare (.ref x) (cmpInfo .Eq).2.2 u) (fun r s' => ∃ v, r = some v ∧ Q v s') E s := by
    unfold tryCompare
    refine wpAny_bind (PySem.W.ifBound_K X I hs hf (wpAny_mono h (fun v s' hv => ?_) fun _ _ e => e))
    cases v <;> first | exact hv.elim | exact wpAny_pure ⟨_, rfl, hv⟩
  rcases hi : cmpInfo .Eq with ⟨sym, n1, n2⟩
  rw [hi] at one two
  simp only [richCompare, hi, hT.oneThing_none]
  refine wpAny_holding (wpAny_bind (wpAny_cRoomFor hu ?_))
  refine wpAny_bind (wpAny_typeOf hT (wpAny_bind (I.type.here ?_)))
  have ne : (Value.type T != Value.ref C) = true := by simp
  simp only [ne, if_true]
  refine wpAny_bind ((PySem.W.looks_subIn X hsub).here ?_)
  simp only [Bool.false_eq_true, if_false, Bool.not_false, if_true]
  refine wpAny_bind (m := tryCompare u _ (.ref x)) (wpAny_mono one (fun r s1 z => ?_) fun _ _ e => e)
  obtain ⟨rfl, rfl⟩ := z
  refine wpAny_bind (m := tryCompare (.ref x) _ u) (wpAny_mono two (fun r s2 z => ?_) fun _ _ e => e)
  obtain ⟨v, rfl, q⟩ := z
  exact wpAny_pure q
end
/-- what the written part says of such a class against the built-in ones -/
structure NoSub (K : PySem.W.Frag) (C : Addr) : Prop where
  n : PySem.W.subIn K (.ref C) (.type "NoneType") = some false
  i : PySem.W.subIn K (.ref C) (.type "int") = some false
  b : PySem.W.subIn K (.ref C) (.type "bool") = some false
  s : PySem.W.subIn K (.ref C) (.type "str") = some false
  l : PySem.W.subIn K (.ref C) (.type "list") = some false
  t : PySem.W.subIn K (.ref C) (.type "tuple") = some false
  d : PySem.W.subIn K (.ref C) (.type "dict") = some false
section
variable {X : Cx} {C f : Addr} {r : List V → Hp → VK → Prop}
/-- y == x, x such an instance, y a built-in thing -/
def rEqR (K : PySem.W.Frag) (C : Addr) (r : List V → Hp → VK → Prop) : R2 := fun y x H Q => ∃ a dx fs T, x = .ref a ∧ H a = some (.ins C dx fs) ∧ Ty5 H y (.type T) ∧ r [x, y] H fun v H' => (∃ b, v = .bl b) ∧ Q v H'
theorem op_eqR (ns : NoSub X.K C) (hs : PySem.W.findIn X.K (.ref C) "__eq__" = some (some (.ref f))) (hf : PySem.W.isFn X.K (.ref f) = true) (hc : CallR X (.ref f) r) (hu : X.A.units < cLine) : OpR X (compareOp .Eq) (rEqR X.K C r) := by
  intro pins s σ H y x v u Q I ry rx h
  obtain ⟨a, dx, fs, T, rfl, ha, ty, q⟩ := h
  obtain ⟨mA, J0, _⟩ := ins_get I.hok ha
  obtain ⟨od, J, _⟩ := J0.look
  have hx : s.heap.get? a = some (PySem.W.instObj C dx) := J.1
  cases rx
  show wpAny (model X.prog X.w) X.A (richCompare .Eq v (.ref a)) (EP X pins σ Q) X.xe s
  have back : wpAny (model X.prog X.w) X.A (call (.ref f) [.ref a, v]) (PySem.W.CmpBack (EP X pins σ Q)) X.xe s := by
    refine wpAny_mono (hc pins s σ H [.ref a, y] [.ref a, v] _ I (.cons rfl (.cons ry .nil)) q) ?_ fun _ _ e => e
    rintro w s' ⟨z, H', I', rz, ⟨b, rfl⟩, q'⟩
    cases rz
    exact ⟨.bl b, H', I', rfl, q'⟩
  generalize hT : Value.type T = t at ty
  cases ty with
  | non =>
    cases ry
    cases hT
    exact rc_refl hu I.kIn (show s.TypeIs .none "NoneType" from rfl) PySem.F.slot_NoneType_eq (call_gives PySem.F.slot_NoneType_eq rfl PySem.F.entry_NoneType_eq (PySem.F.args_NoneType_eq_2 _ _) (NoneType___eq___none_ref_0 a) ⟨rfl, rfl⟩) J hs hf ns.n back
  | bl b =>
    cases ry
    cases hT
    exact rc_refl hu I.kIn (show s.TypeIs (.bool b) "bool" from rfl) PySem.F.slot_bool_eq (call_meets PySem.F.slot_bool_eq rfl PySem.F.entry_int_eq (PySem.F.args_int_eq_2 _ _) (bool_eq_ins b a C dx) ⟨hx, rfl, rfl⟩) J hs hf ns.b back
  | int i =>
    obtain ⟨tk, rfl⟩ := ry
    cases hT
    exact rc_refl hu I.kIn (show s.TypeIs (.int i tk) "int" from rfl) PySem.F.slot_int_eq (call_meets PySem.F.slot_int_eq rfl PySem.F.entry_int_eq (PySem.F.args_int_eq_2 _ _) (int_eq_ins i tk a C dx) ⟨hx, rfl, rfl⟩) J hs hf ns.i back
  | str z =>
    obtain ⟨tk, rfl⟩ := ry
    cases hT
    exact rc_refl hu I.kIn (show s.TypeIs (.str z tk) "str" from rfl) PySem.F.slot_str_eq (call_meets PySem.F.slot_str_eq rfl PySem.F.entry_str_eq (PySem.F.args_str_eq_2 _ _) (str_eq_ins z tk a C dx) ⟨hx, rfl, rfl⟩) J hs hf ns.s back
  | lst e =>
    cases ry
    cases hT
    obtain ⟨z, its, n, rr, hl, e2⟩ := I.lstM e
    have ti : s.TypeIs (.ref _) "list" := ⟨_, e2, rfl⟩
    exact rc_refl hu I.kIn ti PySem.F.slot_list_eq (call_meets PySem.F.slot_list_eq ti PySem.F.entry_list_eq (PySem.F.args_list_eq_2 _ _) (list_eq_ins _ _ _ _ _ a C dx ns.l) ⟨I.kIn, e2, hx, rfl, rfl⟩) J hs hf ns.l back
  | tup e =>
    cases ry
    cases hT
    obtain ⟨its, rr, ⟨o, ho, hcl, n, hd⟩, _⟩ := I.tuple (.of e)
    obtain ⟨oc, odd, odt, osl⟩ := o
    cases hcl
    cases hd
    have ti : s.TypeIs (.ref _) "tuple" := ⟨_, ho, rfl⟩
    exact rc_refl hu I.kIn ti PySem.F.slot_tuple_eq (call_meets PySem.F.slot_tuple_eq ti PySem.F.entry_tuple_eq (PySem.F.args_tuple_eq_2 _ _) (tuple_eq_ins _ _ _ _ _ a C dx ns.t) ⟨I.kIn, ho, hx, rfl, rfl⟩) J hs hf ns.t back
  | dK e =>
    cases ry
    cases hT
    obtain ⟨_, _, vs, kv, o, es, ep, ho, hxd, hd, _⟩ := dk_of I.hok e
    obtain ⟨oc, odd, odt, osl⟩ := o
    obtain ⟨h1, h2, h3⟩ := hxd
    cases h1
    cases h2
    cases h3
    cases hd
    have ti : s.TypeIs (.ref _) "dict" := ⟨_, ho, rfl⟩
    exact rc_refl hu I.kIn ti PySem.F.slot_dict_eq (call_meets PySem.F.slot_dict_eq ti PySem.F.entry_dict_eq (PySem.F.args_dict_eq_2 _ _) (dict_eq_ins _ _ _ a C dx ns.d) ⟨I.kIn, ho, hx, rfl, rfl⟩) J hs hf ns.d back
  | ins e => cases hT
end
end Dz

set_option Elab.async false
set_option linter.all false
set_option maxRecDepth 100000
set_option maxHeartbeats 2000000
/-! str(o) of a text's own class. -/
namespace Dz
open PySem PySem.Spec PyProof.Rows L2
theorem Calm.in1 {A : Around} (h : Calm A) : Calm A.in1 := h
/-- str(o), o an instance of the class at C whose own __str__ stands at f -/
theorem call_strO {X : Cx} {C f : Addr} {k : Nat} {sp : Sp} (hs : PySem.W.findIn X.K (.ref C) "__str__" = some (some (.ref f))) (hf : PySem.W.isFn X.K (.ref f) = true) (F : Kp X.prog X.w X.K X.mg X.base CX0 k f ["self"] [] sp) (hcl : Calm X.A) (hr : Room (k + 2) X.A) :
    CallR X (.type "str") (fun xs H Q => ∃ a dx fs, xs = [.ref a] ∧ H a = some (.ins C dx fs) ∧ sp [.ref a] H (fun v H' => (∃ z, v = .str z) ∧ Q v H') E0) := by
  intro pins s σ H xs us Q I r h
  obtain ⟨a, dx, fs, rfl, ha, q⟩ := h
  cases r with
  | @cons _ u _ _ rv rn =>
  cases rn
  cases (show u = Value.ref a from rv)
  obtain ⟨mA, J, _⟩ := ins_get I.hok ha
  obtain ⟨od, J, _⟩ := J.look
  obtain ⟨fd, G, b⟩ := F.ex
  have r2 := hr.in1.in1
  refine PySem.W.kso_call r2.units0 I.kIn J hs hf ?_
  have bb := b s [.ref a] I.kIn rfl
  refine wpAny_call (codeAny_mono (G.go X.A.in1.in1 X.stack s H ⟨[.ref a], []⟩ [.ref a] [.ref a] _ E0 hcl.in1.in1 r2 I.env0.in1.in1 bb (.cons rfl .nil) q) ?_)
  intro rs s' hq
  match rs, hq with
  | .error e, hq => exact pass0 pins σ H s e s' I hq
  | .ok (.ret u), hq =>
    obtain ⟨v, H', I', rw', ⟨z, rfl⟩, q'⟩ := I.after hq
    obtain ⟨t, rfl⟩ := rw'
    exact ⟨.str z, H', I', ⟨t, rfl⟩, q'⟩
end Dz

set_option Elab.async false
set_option linter.all false
set_option maxRecDepth 100000
set_option maxHeartbeats 2000000
/-! Data: what a value shows, cells that may change, and the state of both. -/
namespace Ed
open PySem PySem.Spec PyProof.Rows L2 Dz
/-- data, as the proofs speak of it; ref: a cell, or whatever stands there -/
inductive D where
  | non | bl (b : Bool) | int (i : Int) | str (x : Str) | ty (n : String)
  | lst (ds : List D) | tup (ds : List D) | dK (kvs : List (Key × D)) | dT (kvs : List (List Key × D))
  | ins (C : Addr) (fs : List (Str × D)) | err (C : Addr) (fs : List (Str × D)) | exo (a dd C : Addr) (fs : List (Str × D))
  | ctup (ds : List D) | scr (ns : List Int) | ref (a : Addr)
inductive Cell where
  | lst (ds : List D) | dK (kvs : List (Key × D)) | dT (kvs : List (List Key × D)) | ins (C : Addr) (fs : List (Str × D))
abbrev Lc := Addr → Option Cell
def updL (L : Lc) (a : Addr) (c : Cell) : Lc := fun b => if b = a then some c else L b
def delL (L : Lc) (a : Addr) : Lc := fun b => if b = a then none else L b
theorem updL_same {L : Lc} {a : Addr} {c : Cell} : updL L a c a = some c := by unfold updL; rw [if_pos rfl]
theorem updL_ne {L : Lc} {a b : Addr} {c : Cell} (h : b ≠ a) : updL L a c b = L b := by unfold updL; rw [if_neg h]
theorem delL_same {L : Lc} {a : Addr} : delL L a a = none := by unfold delL; rw [if_pos rfl]
theorem delL_ne {L : Lc} {a b : Addr} (h : b ≠ a) : delL L a b = L b := by unfold delL; rw [if_neg h]
theorem updL_updL {L : Lc} {a : Addr} {c d : Cell} : updL (updL L a c) a d = updL L a d := by
  funext b; unfold updL; split <;> rfl
theorem updL_swap {L : Lc} {a b : Addr} {c d : Cell} (h : a ≠ b) : updL (updL L a c) b d = updL (updL L b d) a c := by
  funext z; unfold updL
  by_cases h1 : z = b
  · subst h1; rw [if_pos rfl, if_neg (fun e => h e.symm), if_pos rfl]
  · rw [if_neg h1]
    by_cases h2 : z = a
    · rw [if_pos h2, if_pos h2]
    · rw [if_neg h2, if_neg h2, if_neg h1]
theorem delL_updL {L : Lc} {a : Addr} {c : Cell} (h : L a = none) : delL (updL L a c) a = L := by
  funext b; unfold delL updL
  by_cases e : b = a
  · rw [if_pos e, e, h]
  · rw [if_neg e, if_neg e]
/-- a tuple of the written part -/
def KTup (K : PySem.W.Frag) (a : Addr) (xs : List V) : Prop :=
  ∃ (o : Obj) (its : Array Value) (n : Nat), K.lookup a = some o ∧ o.cls = .type "tuple" ∧ o.data = .seq its n ∧ its.size ≤ sizeLine ∧ Vals xs its.toList
theorem KTup.sq {K : PySem.W.Frag} {H : Hp} {a : Addr} {xs : List V} (h : KTup K a xs) : SqT K H a xs := .inr h
def ScrOk (K : PySem.W.Frag) (H : Hp) (Λ : Addr → Prop) (a : Addr) (xs : List V) : Prop := (¬ Λ a ∧ Rd H a (.lst xs)) ∨
  ∃ (o : Obj) (its : Array Value) (n : Nat), K.lookup a = some o ∧ o.cls = .type "list" ∧ o.dict = none ∧ o.data = .seq its n ∧ its.size ≤ sizeLine ∧ Vals xs its.toList
theorem ScrOk.sq {K : PySem.W.Frag} {H : Hp} {Λ : Addr → Prop} {a : Addr} {xs : List V} (h : ScrOk K H Λ a xs) : SqL K H a xs := by
  rcases h with h | h
  · exact .inl h.2
  · exact .inr h
mutual
/-- what a value shows; nothing of it stands in Λ -/
inductive Rp (K : PySem.W.Frag) (H : Hp) (Λ : Addr → Prop) : V → D → Prop
  | non : Rp K H Λ .non .non
  | bl (b : Bool) : Rp K H Λ (.bl b) (.bl b)
  | int (i : Int) : Rp K H Λ (.int i) (.int i)
  | str (x : Str) : Rp K H Λ (.str x) (.str x)
  | ty (n : String) : Rp K H Λ (.ty n) (.ty n)
  | lst {a : Addr} {xs : List V} {ds : List D} : ¬ Λ a → H a = some (.lst xs) → RpL K H Λ xs ds → Rp K H Λ (.ref a) (.lst ds)
  | tup {a : Addr} {xs : List V} {ds : List D} : ¬ Λ a → H a = some (.tup xs) → RpL K H Λ xs ds → Rp K H Λ (.ref a) (.tup ds)
  | ctup {a : Addr} {xs : List V} {ds : List D} : KTup K a xs → RpL K H Λ xs ds → Rp K H Λ (.ref a) (.ctup ds)
  | dK {a : Addr} {ks : List (Key × V)} {es : List (Key × D)} : ¬ Λ a → Rd H a (.dK ks) → ks.map (·.1) = es.map (·.1) → RpL K H Λ (ks.map (·.2)) (es.map (·.2)) → Rp K H Λ (.ref a) (.dK es)
  | dT {a : Addr} {ks : List (List Key × V)} {es : List (List Key × D)} : ¬ Λ a → Rd H a (.dT ks) → ks.map (·.1) = es.map (·.1) → RpL K H Λ (ks.map (·.2)) (es.map (·.2)) → Rp K H Λ (.ref a) (.dT es)
  | ins {a C dx : Addr} {ks : List (Str × V)} {es : List (Str × D)} : ¬ Λ a → H a = some (.ins C dx ks) → ks.map (·.1) = es.map (·.1) → RpL K H Λ (ks.map (·.2)) (es.map (·.2)) → Rp K H Λ (.ref a) (.ins C es)
  | err {a C d : Addr} {ks : List (Str × V)} {es : List (Str × D)} : ¬ Λ a → ¬ Λ d → Rd H a (exo a C (some d)) → Rd H d (exd d ks) → ks.map (·.1) = es.map (·.1) → RpL K H Λ (ks.map (·.2)) (es.map (·.2)) → Rp K H Λ (.ref a) (.err C es)
  | exo {a d C : Addr} {ks : List (Str × V)} {es : List (Str × D)} : ¬ Λ d → H d = some (.xd ks) → ks.map (·.1) = es.map (·.1) → RpL K H Λ (ks.map (·.2)) (es.map (·.2)) → Rp K H Λ (.ref a) (.exo a d C es)
  | scr {a : Addr} {ns : List Int} : ScrOk K H Λ a (ns.map V.int) → ns.length ≤ 63 → Rp K H Λ (.ref a) (.scr ns)
  | ref (a : Addr) : Rp K H Λ (.ref a) (.ref a)
inductive RpL (K : PySem.W.Frag) (H : Hp) (Λ : Addr → Prop) : List V → List D → Prop
  | nil : RpL K H Λ [] []
  | cons {v : V} {vs : List V} {d : D} {ds : List D} : Rp K H Λ v d → RpL K H Λ vs ds → RpL K H Λ (v :: vs) (d :: ds)
end
/-- a dict -/
def Dct : HO → Prop
  | .dK _ => True
  | .dT _ => True
  | _ => False
/-- the same thing, but that a dict may be locked by then -/
def Go (u u' : HO) : Prop := u' = u ∨ ∃ o, Dct u ∧ u' = .frz o u
theorem Go.refl (u : HO) : Go u u := .inl rfl
theorem Go.trans {u v w : HO} (a : Go u v) (b : Go v w) : Go u w := by
  rcases a with rfl | ⟨o, du, rfl⟩
  · exact b
  · rcases b with rfl | ⟨p, dv, _⟩
    · exact .inr ⟨o, du, rfl⟩
    · exact dv.elim
/-- a state: the heap, the cells that are known, all cells -/
structure Sta where
  H : Hp
  L : Lc
  Λ : Addr → Prop
/-- how it goes on: what is no cell stays; a cell that isn't known stays -/
structure Ev (S S' : Sta) : Prop where
  stay : ∀ a u, S.H a = some u → ¬ S.Λ a → ¬ S'.Λ a ∧ ∃ u', S'.H a = some u' ∧ Go u u'
  hid : ∀ a, S.Λ a → S.L a = none → S'.H a = S.H a ∧ S'.Λ a ∧ S'.L a = none
theorem Ev.refl (S : Sta) : Ev S S := ⟨fun _ u h n => ⟨n, u, h, .refl u⟩, fun _ h n => ⟨rfl, h, n⟩⟩
theorem Ev.trans {S T U : Sta} (a : Ev S T) (b : Ev T U) : Ev S U := by
  refine ⟨fun x u h n => ?_, fun x h n => ?_⟩
  · obtain ⟨n1, v, h1, g1⟩ := a.stay x u h n
    obtain ⟨n2, w, h2, g2⟩ := b.stay x v h1 n1
    exact ⟨n2, w, h2, g1.trans g2⟩
  · obtain ⟨e1, h1, n1⟩ := a.hid x h n
    obtain ⟨e2, h2, n2⟩ := b.hid x h1 n1
    exact ⟨e2.trans e1, h2, n2⟩
/-- the same thing, but that a dict may be locked or not -/
def Gw (u u' : HO) : Prop := u' = u ∨ ∃ w, Dct w ∧ (u = w ∨ ∃ o, u = .frz o w) ∧ (u' = w ∨ ∃ o, u' = .frz o w)
/-- what is no cell stays, locked or not -/
def Ew (S S' : Sta) : Prop := ∀ a u, S.H a = some u → ¬ S.Λ a → ¬ S'.Λ a ∧ ∃ u', S'.H a = some u' ∧ Gw u u'
theorem Ev.w {S S' : Sta} (e : Ev S S') : Ew S S' := fun a u h n => by
  obtain ⟨n1, v, h1, g⟩ := e.stay a u h n
  refine ⟨n1, v, h1, ?_⟩
  rcases g with rfl | ⟨o, du, rfl⟩
  · exact .inl rfl
  · exact .inr ⟨u, du, .inl rfl, .inr ⟨o, rfl⟩⟩
section
variable {K : PySem.W.Frag} {S S' : Sta} {a : Addr} {xs : List V}
theorem Ev.one {u : HO} (e : Ev S S') (h : S.H a = some u) (n : ¬ S.Λ a) (nd : ¬ Dct u) (nf : ∀ o w, u ≠ .frz o w) : ¬ S'.Λ a ∧ S'.H a = some u := by
  obtain ⟨n1, v, h1, g⟩ := e.stay a u h n
  rcases g with rfl | ⟨o, dw, _⟩
  · exact ⟨n1, h1⟩
  · exact absurd dw nd
theorem Ev.lk {o : Obj} {u : HO} (e : Ev S S') (h : S.H a = some (.frz o u)) (n : ¬ S.Λ a) : ¬ S'.Λ a ∧ S'.H a = some (.frz o u) := by
  obtain ⟨n1, v, h1, g⟩ := e.stay a _ h n
  rcases g with rfl | ⟨o, dw, _⟩
  · exact ⟨n1, h1⟩
  · exact dw.elim
theorem Ev.rd {u : HO} (e : Ev S S') (h : Rd S.H a u) (n : ¬ S.Λ a) (nf : ∀ o w, u ≠ .frz o w) : ¬ S'.Λ a ∧ Rd S'.H a u := by
  rcases h with h | ⟨o, h⟩
  · obtain ⟨n1, v, h1, g⟩ := e.stay a u h n
    refine ⟨n1, ?_⟩
    rcases g with rfl | ⟨o, _, rfl⟩
    · exact .inl h1
    · exact .inr ⟨o, h1⟩
  · obtain ⟨n1, h1⟩ := e.lk h n
    exact ⟨n1, .inr ⟨o, h1⟩⟩
theorem Ew.one {u : HO} (e : Ew S S') (h : S.H a = some u) (n : ¬ S.Λ a) (nd : ¬ Dct u) (nf : ∀ o w, u ≠ .frz o w) : ¬ S'.Λ a ∧ S'.H a = some u := by
  obtain ⟨n1, v, h1, g⟩ := e a u h n
  rcases g with rfl | ⟨w, dw, g1, _⟩
  · exact ⟨n1, h1⟩
  · rcases g1 with rfl | ⟨o, rfl⟩
    · exact absurd dw nd
    · exact absurd rfl (nf o w)
theorem Ew.rd {u : HO} (e : Ew S S') (h : Rd S.H a u) (n : ¬ S.Λ a) (nf : ∀ o w, u ≠ .frz o w) : ¬ S'.Λ a ∧ Rd S'.H a u := by
  rcases h with h | ⟨o, h⟩
  · obtain ⟨n1, v, h1, g⟩ := e a u h n
    refine ⟨n1, ?_⟩
    rcases g with rfl | ⟨w, dw, g1, g2⟩
    · exact .inl h1
    · rcases g1 with rfl | ⟨o, rfl⟩
      · rcases g2 with rfl | ⟨o, rfl⟩
        · exact .inl h1
        · exact .inr ⟨o, h1⟩
      · exact absurd rfl (nf o w)
  · obtain ⟨n1, v, h1, g⟩ := e a _ h n
    refine ⟨n1, ?_⟩
    rcases g with rfl | ⟨w, dw, g1, g2⟩
    · exact .inr ⟨o, h1⟩
    · rcases g1 with rfl | ⟨o', e1⟩
      · exact dw.elim
      · injection e1 with _ e2
        subst e2
        rcases g2 with rfl | ⟨o, rfl⟩
        · exact .inl h1
        · exact .inr ⟨o, h1⟩
theorem ScrOk.ew (h : ScrOk K S.H S.Λ a xs) (e : Ew S S') : ScrOk K S'.H S'.Λ a xs := by
  rcases h with ⟨n, r⟩ | h
  · exact .inl (e.rd r n (by intro o w z; cases z))
  · exact .inr h
mutual
theorem Rp.ew (e : Ew S S') : ∀ {v : V} {d : D}, Rp K S.H S.Λ v d → Rp K S'.H S'.Λ v d
  | _, _, .non => .non
  | _, _, .bl b => .bl b
  | _, _, .int i => .int i
  | _, _, .str x => .str x
  | _, _, .ty n => .ty n
  | _, _, .ref a => .ref a
  | _, _, .lst n h r =>
    have z := e.one h n (fun z => z) (by intro o w z; cases z)
    .lst z.1 z.2 (RpL.ew e r)
  | _, _, .tup n h r =>
    have z := e.one h n (fun z => z) (by intro o w z; cases z)
    .tup z.1 z.2 (RpL.ew e r)
  | _, _, .ctup h r => .ctup h (RpL.ew e r)
  | _, _, .dK n h k r =>
    have z := e.rd h n (by intro o w z; cases z)
    .dK z.1 z.2 k (RpL.ew e r)
  | _, _, .dT n h k r =>
    have z := e.rd h n (by intro o w z; cases z)
    .dT z.1 z.2 k (RpL.ew e r)
  | _, _, .ins n h k r =>
    have z := e.one h n (fun z => z) (by intro o w z; cases z)
    .ins z.1 z.2 k (RpL.ew e r)
  | _, _, .err n m h g k r =>
    have z := e.rd h n (by intro o w z; cases z)
    have y := e.rd g m (by intro o w z; cases z)
    .err z.1 y.1 z.2 y.2 k (RpL.ew e r)
  | _, _, .exo n h k r =>
    have z := e.one h n (fun z => z) (by intro o w z; cases z)
    .exo z.1 z.2 k (RpL.ew e r)
  | _, _, .scr h l => .scr (h.ew e) l
theorem RpL.ew (e : Ew S S') : ∀ {vs : List V} {ds : List D}, RpL K S.H S.Λ vs ds → RpL K S'.H S'.Λ vs ds
  | _, _, .nil => .nil
  | _, _, .cons h r => .cons (Rp.ew e h) (RpL.ew e r)
end
theorem ScrOk.ev (h : ScrOk K S.H S.Λ a xs) (e : Ev S S') : ScrOk K S'.H S'.Λ a xs := h.ew e.w
theorem Rp.ev (e : Ev S S') {v : V} {d : D} (h : Rp K S.H S.Λ v d) : Rp K S'.H S'.Λ v d := Rp.ew e.w h
theorem RpL.ev (e : Ev S S') {v : List V} {d : List D} (h : RpL K S.H S.Λ v d) : RpL K S'.H S'.Λ v d := RpL.ew e.w h
theorem RpL.length : ∀ {vs : List V} {ds : List D}, RpL K S.H S.Λ vs ds → vs.length = ds.length
  | _, _, .nil => rfl
  | _, _, .cons _ r => by rw [List.length_cons, List.length_cons, RpL.length r]
theorem RpL.get : ∀ {vs : List V} {ds : List D} {i : Nat} {d : D}, RpL K S.H S.Λ vs ds → ds[i]? = some d → ∃ v, vs[i]? = some v ∧ Rp K S.H S.Λ v d
  | _, _, _, _, .nil, h => by simp at h
  | _, _, 0, _, .cons h _, e => by simp at e; subst e; exact ⟨_, rfl, h⟩
  | _, _, i + 1, _, .cons _ r, e => by
    obtain ⟨v, h1, h2⟩ := RpL.get (i := i) r (by simpa using e)
    exact ⟨v, by simpa using h1, h2⟩
theorem RpL.append : ∀ {vs ws : List V} {ds es : List D}, RpL K S.H S.Λ vs ds → RpL K S.H S.Λ ws es → RpL K S.H S.Λ (vs ++ ws) (ds ++ es)
  | _, _, _, _, .nil, s => s
  | _, _, _, _, .cons h r, s => .cons h (RpL.append r s)
theorem RpL.take : ∀ {vs : List V} {ds : List D} (n : Nat), RpL K S.H S.Λ vs ds → RpL K S.H S.Λ (vs.take n) (ds.take n)
  | _, _, 0, _ => .nil
  | _, _, _ + 1, .nil => .nil
  | _, _, n + 1, .cons h r => .cons h (RpL.take n r)
theorem RpL.drop : ∀ {vs : List V} {ds : List D} (n : Nat), RpL K S.H S.Λ vs ds → RpL K S.H S.Λ (vs.drop n) (ds.drop n)
  | _, _, 0, r => r
  | _, _, _ + 1, .nil => .nil
  | _, _, n + 1, .cons _ r => RpL.drop n r
theorem RpL.set {v : V} {d : D} (h : Rp K S.H S.Λ v d) : ∀ {vs : List V} {ds : List D} (n : Nat), RpL K S.H S.Λ vs ds → RpL K S.H S.Λ (vs.set n v) (ds.set n d)
  | _, _, _, .nil => .nil
  | _, _, 0, .cons _ r => .cons h r
  | _, _, n + 1, .cons g r => .cons g (RpL.set h n r)
theorem RpL.reverse : ∀ {vs : List V} {ds : List D}, RpL K S.H S.Λ vs ds → RpL K S.H S.Λ vs.reverse ds.reverse
  | _, _, .nil => .nil
  | _, _, .cons h r => by rw [List.reverse_cons, List.reverse_cons]; exact RpL.append (RpL.reverse r) (.cons h .nil)
theorem RpL.eraseIdx : ∀ {vs : List V} {ds : List D} (n : Nat), RpL K S.H S.Λ vs ds → RpL K S.H S.Λ (vs.eraseIdx n) (ds.eraseIdx n)
  | _, _, _, .nil => .nil
  | _, _, 0, .cons _ r => r
  | _, _, n + 1, .cons h r => .cons h (RpL.eraseIdx n r)
theorem RpL.ints : ∀ ns : List Int, RpL K S.H S.Λ (ns.map V.int) (ns.map D.int)
  | [] => .nil
  | n :: ns => .cons (.int n) (RpL.ints ns)
theorem RpL.strs : ∀ ns : List Str, RpL K S.H S.Λ (ns.map V.str) (ns.map D.str)
  | [] => .nil
  | n :: ns => .cons (.str n) (RpL.strs ns)
theorem RpL.int_of : ∀ {vs : List V} {ns : List Int}, RpL K S.H S.Λ vs (ns.map D.int) → vs = ns.map V.int
  | _, [], h => by cases h; rfl
  | _, n :: ns, h => by
    cases h with
    | cons h r => cases h; rw [List.map_cons, RpL.int_of r]
theorem RpL.str_of : ∀ {vs : List V} {ns : List Str}, RpL K S.H S.Λ vs (ns.map D.str) → vs = ns.map V.str
  | _, [], h => by cases h; rfl
  | _, n :: ns, h => by
    cases h with
    | cons h r => cases h; rw [List.map_cons, RpL.str_of r]
theorem RpL.bl_of : ∀ {vs : List V} {ns : List Bool}, RpL K S.H S.Λ vs (ns.map D.bl) → vs = ns.map V.bl
  | _, [], h => by cases h; rfl
  | _, n :: ns, h => by
    cases h with
    | cons h r => cases h; rw [List.map_cons, RpL.bl_of r]
end
/-- what stands in a cell -/
def CellOk (K : PySem.W.Frag) (H : Hp) (Λ : Addr → Prop) (a : Addr) : Cell → Prop
  | .lst ds => ∃ xs, H a = some (.lst xs) ∧ RpL K H Λ xs ds
  | .dK es => ∃ ks : List (Key × V), H a = some (.dK ks) ∧ ks.map (·.1) = es.map (·.1) ∧ RpL K H Λ (ks.map (·.2)) (es.map (·.2))
  | .dT es => ∃ ks : List (List Key × V), H a = some (.dT ks) ∧ ks.map (·.1) = es.map (·.1) ∧ RpL K H Λ (ks.map (·.2)) (es.map (·.2))
  | .ins C es => ∃ (dx : Addr) (ks : List (Str × V)), H a = some (.ins C dx ks) ∧ ks.map (·.1) = es.map (·.1) ∧ RpL K H Λ (ks.map (·.2)) (es.map (·.2))
/-- no tuple -/
def NT (u : HO) : Prop := ∀ xs, u ≠ .tup xs
structure Ok (K : PySem.W.Frag) (S : Sta) : Prop where
  cell : ∀ a c, S.L a = some c → S.Λ a ∧ CellOk K S.H S.Λ a c
  there : ∀ a, S.Λ a → ∃ u, S.H a = some u ∧ NT u
section
variable {K : PySem.W.Frag} {S S' : Sta} {a p : Addr} {c : Cell} {o : HO}
theorem CellOk.ev (h : CellOk K S.H S.Λ a c) (e : Ev S S') (q : S'.H a = S.H a) : CellOk K S'.H S'.Λ a c := by
  cases c with
  | lst ds =>
    obtain ⟨xs, h1, r⟩ := h
    exact ⟨xs, q.trans h1, r.ev e⟩
  | dK es =>
    obtain ⟨ks, h1, k, r⟩ := h
    exact ⟨ks, q.trans h1, k, r.ev e⟩
  | dT es =>
    obtain ⟨ks, h1, k, r⟩ := h
    exact ⟨ks, q.trans h1, k, r.ev e⟩
  | ins C es =>
    obtain ⟨dx, ks, h1, k, r⟩ := h
    exact ⟨dx, ks, q.trans h1, k, r.ev e⟩
theorem CellOk.nt {H : Hp} {Λ : Addr → Prop} {u : HO} (h : CellOk K H Λ a c) (e : H a = some u) : NT u := by
  intro xs z
  subst z
  cases c with
  | lst ds => obtain ⟨_, h1, _⟩ := h; rw [e] at h1; cases h1
  | dK es => obtain ⟨_, h1, _⟩ := h; rw [e] at h1; cases h1
  | dT es => obtain ⟨_, h1, _⟩ := h; rw [e] at h1; cases h1
  | ins C es => obtain ⟨_, _, h1, _⟩ := h; rw [e] at h1; cases h1
theorem Ok.lam (h : Ok K S) (n : S.H p = none) : ¬ S.Λ p := fun z => by
  obtain ⟨u, h1, _⟩ := h.there p z
  rw [n] at h1; cases h1
theorem Ok.ntup {xs : List V} (h : Ok K S) (e : S.H p = some (.tup xs)) : ¬ S.Λ p := fun z => by
  obtain ⟨u, h1, h2⟩ := h.there p z
  rw [e] at h1; cases h1; exact h2 xs rfl
theorem Ok.lno (h : Ok K S) (n : S.H p = none) : S.L p = none := by
  cases e : S.L p with
  | none => rfl
  | some c => exact absurd (h.cell p c e).1 (h.lam n)
/-! what a step does -/
/-- a new thing that is no cell -/
def Sta.new (S : Sta) (p : Addr) (o : HO) : Sta := ⟨upd S.H p o, S.L, S.Λ⟩
theorem ev_new (n : S.H p = none) (_ : Ok K S) : Ev S (S.new p o) :=
  ⟨fun b u h m => ⟨m, u, (by show upd S.H p o b = some u; rw [upd_ne (ne_of_none h n)]; exact h), .refl u⟩, fun b h m => ⟨upd_ne (fun z => by rw [z] at h; exact (‹Ok K S›).lam n h), h, m⟩⟩
theorem ok_new (n : S.H p = none) (k : Ok K S) : Ok K (S.new p o) := by
  refine ⟨fun b c h => ?_, fun b h => ?_⟩
  · obtain ⟨h1, h2⟩ := k.cell b c h
    exact ⟨h1, h2.ev (S := S) (S' := S.new p o) (ev_new n k) (upd_ne fun z => by rw [z] at h1; exact k.lam n h1)⟩
  · show ∃ u, upd S.H p o b = some u ∧ NT u
    rw [upd_ne (fun z => by rw [z] at h; exact k.lam n h)]
    exact k.there b h
/-- a new cell -/
def Sta.newc (S : Sta) (p : Addr) (o : HO) (c : Cell) : Sta := ⟨upd S.H p o, updL S.L p c, fun b => b = p ∨ S.Λ b⟩
theorem ev_newc (n : S.H p = none) (k : Ok K S) : Ev S (S.newc p o c) :=
  ⟨fun b u h m => have ne := ne_of_none h n; ⟨(fun z => z.elim ne m), u, (by show upd S.H p o b = some u; rw [upd_ne ne]; exact h), .refl u⟩,
    fun b h m => have ne : b ≠ p := fun z => by rw [z] at h; exact k.lam n h
      ⟨upd_ne ne, .inr h, (updL_ne ne).trans m⟩⟩
theorem ok_newc (n : S.H p = none) (k : Ok K S) (h : CellOk K (S.newc p o c).H (S.newc p o c).Λ p c) : Ok K (S.newc p o c) := by
  refine ⟨fun b d hb => ?_, fun b hb => ?_⟩
  · by_cases e : b = p
    · subst e
      rw [show (S.newc b o c).L b = some c from updL_same] at hb
      cases hb
      exact ⟨.inl rfl, h⟩
    · rw [show (S.newc p o c).L b = S.L b from updL_ne e] at hb
      obtain ⟨h1, h2⟩ := k.cell b d hb
      exact ⟨.inr h1, h2.ev (S := S) (S' := S.newc p o c) (ev_newc n k) (upd_ne e)⟩
  · show ∃ u, upd S.H p o b = some u ∧ NT u
    by_cases e : b = p
    · rw [e, upd_same]; exact ⟨_, rfl, h.nt upd_same⟩
    · rw [upd_ne e]
      exact k.there b (hb.elim (fun z => absurd z e) id)
/-- a cell is changed -/
def Sta.put (S : Sta) (p : Addr) (o : HO) (c : Cell) : Sta := ⟨upd S.H p o, updL S.L p c, S.Λ⟩
theorem ev_put {c₀ : Cell} (h0 : S.L p = some c₀) (k : Ok K S) : Ev S (S.put p o c) :=
  ⟨fun b u h m => have ne : b ≠ p := fun z => by rw [z] at m; exact m (k.cell p _ h0).1
    ⟨m, u, (upd_ne ne).trans h, .refl u⟩,
    fun b h m => have ne : b ≠ p := fun z => by rw [z, h0] at m; cases m
      ⟨upd_ne ne, h, (updL_ne ne).trans m⟩⟩
theorem ok_put {c₀ : Cell} (h0 : S.L p = some c₀) (k : Ok K S) (h : CellOk K (S.put p o c).H (S.put p o c).Λ p c) : Ok K (S.put p o c) := by
  refine ⟨fun b d hb => ?_, fun b hb => ?_⟩
  · by_cases e : b = p
    · subst e
      rw [show (S.put b o c).L b = some c from updL_same] at hb
      cases hb
      exact ⟨(k.cell b _ h0).1, h⟩
    · rw [show (S.put p o c).L b = S.L b from updL_ne e] at hb
      obtain ⟨h1, h2⟩ := k.cell b d hb
      exact ⟨h1, h2.ev (S := S) (S' := S.put p o c) (ev_put h0 k) (upd_ne e)⟩
  · show ∃ u, upd S.H p o b = some u ∧ NT u
    by_cases e : b = p
    · rw [e, upd_same]; exact ⟨_, rfl, h.nt upd_same⟩
    · rw [upd_ne e]
      exact k.there b hb
/-- a cell becomes data that stays -/
def Sta.fz (S : Sta) (p : Addr) : Sta := ⟨S.H, delL S.L p, fun b => S.Λ b ∧ b ≠ p⟩
theorem ev_fz {c₀ : Cell} (h0 : S.L p = some c₀) : Ev S (S.fz p) :=
  ⟨fun b u h m => ⟨fun z => m z.1, u, h, .refl u⟩, fun b h m => have ne : b ≠ p := fun z => by rw [z, h0] at m; cases m
    ⟨rfl, ⟨h, ne⟩, (delL_ne ne).trans m⟩⟩
theorem ok_fz {c₀ : Cell} (h0 : S.L p = some c₀) (k : Ok K S) : Ok K (S.fz p) := by
  refine ⟨fun b d hb => ?_, fun b hb => k.there b hb.1⟩
  by_cases e : b = p
  · subst e
    rw [show (S.fz b).L b = none from delL_same] at hb
    cases hb
  · rw [show (S.fz p).L b = S.L b from delL_ne e] at hb
    obtain ⟨h1, h2⟩ := k.cell b d hb
    exact ⟨⟨h1, e⟩, h2.ev (S := S) (S' := S.fz p) (ev_fz h0) rfl⟩
/-- a cell is known no more -/
def Sta.gone (S : Sta) (L' : Lc) : Sta := ⟨S.H, L', S.Λ⟩
theorem ev_gone {L' : Lc} (h : ∀ a c, L' a = some c → S.L a = some c) : Ev S (S.gone L') :=
  ⟨fun b u h m => ⟨m, u, h, .refl u⟩, fun b h1 m => ⟨rfl, h1, by
    cases e : L' b with
    | none => exact e
    | some c => rw [h b c e] at m; cases m⟩⟩
theorem ok_gone {L' : Lc} (h : ∀ a c, L' a = some c → S.L a = some c) (k : Ok K S) : Ok K (S.gone L') := by
  refine ⟨fun b d hb => ?_, k.there⟩
  obtain ⟨h1, h2⟩ := k.cell b d (h b d hb)
  exact ⟨h1, h2.ev (S := S) (S' := S.gone L') (ev_gone h) rfl⟩
end
end Ed

set_option Elab.async false
set_option linter.all false
set_option maxRecDepth 100000
set_option maxHeartbeats 2000000
/-! Judgements at the level of data; expressions. -/
namespace Ed
open PySem PySem.Spec PyProof.Rows L2 Dz
abbrev Dv := List (Option D)
abbrev DQ := D → Lc → Prop
/-- an error that leaves: its class, its fields -/
abbrev EW := Addr → List (Str × D) → Dv → Lc → Prop
abbrev DTE := EW → Dv → Lc → DQ → Prop
abbrev DTA := EW → Dv → Lc → (List D → Lc → Prop) → Prop
abbrev DTT := EW → Dv → Lc → (Bool → Lc → Prop) → Prop
structure DEnds where
  nx : Dv → Lc → Prop
  rt : DQ
  bk : Dv → Lc → Prop := fun _ _ => False
  ct : Dv → Lc → Prop := fun _ _ => False
abbrev DTS := EW → DEnds → Dv → Lc → Prop
abbrev DTG := EW → D → Dv → Lc → (Dv → Lc → Prop) → Prop
/-- the slots -/
structure RelS (K : PySem.W.Frag) (S : Sta) (σ : L2.St) (ρ : Dv) : Prop where
  len : σ.length = ρ.length
  at_ : ∀ (i : Nat) (d : D), ρ[i]? = some (some d) → ∃ v, σ[i]? = some (some v) ∧ Rp K S.H S.Λ v d
def RelQ (K : PySem.W.Frag) (S : Sta) (Q : VK) (q : DQ) : Prop := ∀ S' v d, Ev S S' → Ok K S' → Rp K S'.H S'.Λ v d → q d S'.L → Q v S'.H
def RelA (K : PySem.W.Frag) (S : Sta) (Q : List V → Hp → Prop) (q : List D → Lc → Prop) : Prop := ∀ S' vs ds, Ev S S' → Ok K S' → RpL K S'.H S'.Λ vs ds → q ds S'.L → Q vs S'.H
def RelT (K : PySem.W.Frag) (S : Sta) (Q : Bool → Hp → Prop) (q : Bool → Lc → Prop) : Prop := ∀ S' b, Ev S S' → Ok K S' → q b S'.L → Q b S'.H
def RelN (K : PySem.W.Frag) (S : Sta) (N : L2.St → Hp → Prop) (n : Dv → Lc → Prop) : Prop := ∀ S' σ ρ, Ev S S' → Ok K S' → RelS K S' σ ρ → n ρ S'.L → N σ S'.H
def RelW (K : PySem.W.Frag) (S : Sta) (W : WX) (ew : EW) : Prop := ∀ S' C dd (fs : List (Str × V)) (gs : List (Str × D)) σ ρ, Ev S S' → Ok K S' → RelS K S' σ ρ → ¬ S'.Λ dd → S'.H dd = some (.xd fs) → fs.map (·.1) = gs.map (·.1) → RpL K S'.H S'.Λ (fs.map (·.2)) (gs.map (·.2)) →
  ew C gs ρ S'.L → W (.ref C) (some dd) σ S'.H
structure RelD (K : PySem.W.Frag) (S : Sta) (D : Ends) (d : DEnds) : Prop where
  nx : RelN K S D.nx d.nx
  rt : RelQ K S D.rt d.rt
  bk : RelN K S D.bk d.bk
  ct : RelN K S D.ct d.ct
/-- slots forgotten -/
def dwipe (ρ : Dv) : List Nat → Dv
  | [] => ρ
  | v :: vs => (dwipe ρ vs).set v none
/-- where one stands -/
structure In (K : PySem.W.Frag) (W : WX) (ew : EW) (S : Sta) (σ : L2.St) (ρ : Dv) : Prop where
  ok : Ok K S
  sl : RelS K S σ ρ
  wi : RelW K S W ew
section
variable {K : PySem.W.Frag} {S S' : Sta} {σ : L2.St} {ρ : Dv} {W : WX} {ew : EW}
theorem RelS.ev (h : RelS K S σ ρ) (e : Ev S S') : RelS K S' σ ρ := ⟨h.len, fun i d q => let ⟨v, h1, h2⟩ := h.at_ i d q; ⟨v, h1, h2.ev e⟩⟩
theorem RelS.set {i : Nat} {v : V} {d : D} (h : RelS K S σ ρ) (r : Rp K S.H S.Λ v d) : RelS K S (σ.set i (some v)) (ρ.set i (some d)) := by
  refine ⟨by rw [List.length_set, List.length_set]; exact h.len, fun j e q => ?_⟩
  by_cases hj : j = i
  · subst hj
    by_cases hl : j < ρ.length
    · rw [List.getElem?_set_self hl] at q
      cases q
      exact ⟨v, by rw [List.getElem?_set_self (by rw [h.len]; exact hl)], r⟩
    · rw [List.getElem?_eq_none (by rw [List.length_set]; omega)] at q
      cases q
  · rw [List.getElem?_set_ne (Ne.symm hj)] at q
    obtain ⟨w, h1, h2⟩ := h.at_ j e q
    exact ⟨w, by rw [List.getElem?_set_ne (Ne.symm hj)]; exact h1, h2⟩
theorem RelS.unset {i : Nat} {x : Option V} (h : RelS K S σ ρ) : RelS K S (σ.set i x) (ρ.set i none) := by
  refine ⟨by rw [List.length_set, List.length_set]; exact h.len, fun j e q => ?_⟩
  by_cases hj : j = i
  · subst hj
    by_cases hl : j < ρ.length
    · rw [List.getElem?_set_self hl] at q; cases q
    · rw [List.getElem?_eq_none (by rw [List.length_set]; omega)] at q; cases q
  · rw [List.getElem?_set_ne (Ne.symm hj)] at q
    obtain ⟨w, h1, h2⟩ := h.at_ j e q
    exact ⟨w, by rw [List.getElem?_set_ne (Ne.symm hj)]; exact h1, h2⟩
theorem RelS.wipe : ∀ {vs : List Nat} {σ : L2.St} {ρ : Dv}, RelS K S σ ρ → RelS K S (L2.wipe σ vs) (dwipe ρ vs)
  | [], _, _, h => h
  | i :: vs, _, _, h => (RelS.wipe (vs := vs) h).unset
theorem RelQ.ev {Q : VK} {q : DQ} (h : RelQ K S Q q) (e : Ev S S') : RelQ K S' Q q := fun T v d f => h T v d (e.trans f)
theorem RelN.ev {N : L2.St → Hp → Prop} {n : Dv → Lc → Prop} (h : RelN K S N n) (e : Ev S S') : RelN K S' N n := fun T v d f => h T v d (e.trans f)
theorem RelW.ev (h : RelW K S W ew) (e : Ev S S') : RelW K S' W ew := fun T C dd fs gs σ ρ f => h T C dd fs gs σ ρ (e.trans f)
theorem RelD.ev {D : Ends} {d : DEnds} (h : RelD K S D d) (e : Ev S S') : RelD K S' D d := ⟨h.nx.ev e, h.rt.ev e, h.bk.ev e, h.ct.ev e⟩
theorem In.ev (h : In K W ew S σ ρ) (e : Ev S S') (k : Ok K S') : In K W ew S' σ ρ := ⟨k, h.sl.ev e, h.wi.ev e⟩
end
def SimE (K : PySem.W.Frag) (te : WX → TE) (de : DTE) : Prop := ∀ (W : WX) (ew : EW) (S : Sta) (σ : L2.St) (ρ : Dv) (Q : VK) (q : DQ), In K W ew S σ ρ → RelQ K S Q q → de ew ρ S.L q → te W σ S.H Q
def SimA (K : PySem.W.Frag) (ta : WX → TA) (da : DTA) : Prop := ∀ (W : WX) (ew : EW) (S : Sta) (σ : L2.St) (ρ : Dv) (Q : List V → Hp → Prop) (q : List D → Lc → Prop), In K W ew S σ ρ → RelA K S Q q → da ew ρ S.L q → ta W σ S.H Q
def SimT (K : PySem.W.Frag) (tt : WX → TT) (dt : DTT) : Prop := ∀ (W : WX) (ew : EW) (S : Sta) (σ : L2.St) (ρ : Dv) (Q : Bool → Hp → Prop) (q : Bool → Lc → Prop), In K W ew S σ ρ → RelT K S Q q → dt ew ρ S.L q → tt W σ S.H Q
def SimS (K : PySem.W.Frag) (ts : WX → TS) (ds : DTS) : Prop := ∀ (W : WX) (ew : EW) (S : Sta) (σ : L2.St) (ρ : Dv) (D : Ends) (d : DEnds), In K W ew S σ ρ → RelD K S D d → ds ew d ρ S.L → ts W D σ S.H
def SimG (K : PySem.W.Frag) (tg : WX → TG) (dg : DTG) : Prop := ∀ (W : WX) (ew : EW) (S : Sta) (σ : L2.St) (ρ : Dv) (v : V) (x : D) (N : L2.St → Hp → Prop) (n : Dv → Lc → Prop), In K W ew S σ ρ → Rp K S.H S.Λ v x → RelN K S N n → dg ew x ρ S.L n → tg W v σ S.H N
/-- an expression, its reading, what it comes to at the level of data -/
structure DE (X : Cx) (K : PySem.W.Frag) (te : WX → TE) (e : Expr) (de : DTE) : Prop where
  pe : ∀ W, Takes X W → PE X e (te W)
  sim : SimE K te de
structure DA (X : Cx) (K : PySem.W.Frag) (ta : WX → TA) (es : List Expr) (da : DTA) : Prop where
  pa : ∀ W, Takes X W → PA X es (ta W)
  sim : SimA K ta da
structure DT (X : Cx) (K : PySem.W.Frag) (tt : WX → TT) (e : Expr) (dt : DTT) : Prop where
  pt : ∀ W, Takes X W → PT X e (tt W)
  sim : SimT K tt dt
structure DS (X : Cx) (K : PySem.W.Frag) (ts : WX → TS) (st : Stmt) (ds : DTS) : Prop where
  ps : ∀ W, Takes X W → PS X st (ts W)
  sim : SimS K ts ds
structure DSs (X : Cx) (K : PySem.W.Frag) (ts : WX → TS) (st : List Stmt) (ds : DTS) : Prop where
  ps : ∀ W, Takes X W → PSs X st (ts W)
  sim : SimS K ts ds
structure DG (X : Cx) (K : PySem.W.Frag) (tg : WX → TG) (e : Expr) (dg : DTG) : Prop where
  pg : ∀ W, Takes X W → PG X e (tg W)
  sim : SimG K tg dg
/-! ### by values -/
abbrev DR1 := D → Lc → DQ → Prop
abbrev DR2 := D → D → Lc → DQ → Prop
abbrev DRL := List D → Lc → DQ → Prop
def SimR2 (K : PySem.W.Frag) (r : R2) (f : DR2) : Prop := ∀ (S : Sta) (x y : V) (a b : D) (Q : VK) (q : DQ), Ok K S → Rp K S.H S.Λ x a → Rp K S.H S.Λ y b → RelQ K S Q q → f a b S.L q → r x y S.H Q
def SimR1 (K : PySem.W.Frag) (r : V → Hp → VK → Prop) (f : DR1) : Prop := ∀ (S : Sta) (x : V) (a : D) (Q : VK) (q : DQ), Ok K S → Rp K S.H S.Λ x a → RelQ K S Q q → f a S.L q → r x S.H Q
def SimRL (K : PySem.W.Frag) (r : List V → Hp → VK → Prop) (f : DRL) : Prop := ∀ (S : Sta) (xs : List V) (as : List D) (Q : VK) (q : DQ), Ok K S → RpL K S.H S.Λ xs as → RelQ K S Q q → f as S.L q → r xs S.H Q
/-! ### expressions -/
def dVar (i : Nat) : DTE := fun _ ρ L q => ∃ d, ρ[i]? = some (some d) ∧ q d L
def dC (d : D) : DTE := fun _ _ L q => q d L
def dOp (f : DR2) (a b : DTE) : DTE := fun w ρ L q => a w ρ L fun x L1 => b w ρ L1 fun y L2 => f x y L2 q
def dUn (f : DR1) (a : DTE) : DTE := fun w ρ L q => a w ρ L fun x L1 => f x L1 q
def dNil : DTA := fun _ _ L q => q [] L
def dCons (a : DTE) (r : DTA) : DTA := fun w ρ L q => a w ρ L fun x L1 => r w ρ L1 fun xs L2 => q (x :: xs) L2
def dCB (f : DRL) (a : DTA) : DTE := fun w ρ L q => a w ρ L fun xs L1 => f xs L1 q
def dNot (a : DTE) : DTE := fun w ρ L q => a w ρ L fun x L1 => ∃ c, x = .bl c ∧ q (.bl (!c)) L1
def dAnd (a b : DTE) : DTE := fun w ρ L q => a w ρ L fun x L1 => ∃ c, x = .bl c ∧ if c = true then b w ρ L1 q else q (.bl false) L1
def dOr (a b : DTE) : DTE := fun w ρ L q => a w ρ L fun x L1 => ∃ c, x = .bl c ∧ if c = true then q (.bl true) L1 else b w ρ L1 q
def dTest (a : DTE) : DTT := fun w ρ L q => a w ρ L fun x L1 => ∃ c, x = .bl c ∧ q c L1
def dtNot (t : DTT) : DTT := fun w ρ L q => t w ρ L fun c L1 => q (!c) L1
def dtAnd (t u : DTT) : DTT := fun w ρ L q => t w ρ L fun c L1 => if c = true then u w ρ L1 q else q false L1
def dtOr (t u : DTT) : DTT := fun w ρ L q => t w ρ L fun c L1 => if c = true then q true L1 else u w ρ L1 q
def dIfE (c : DTT) (a b : DTE) : DTE := fun w ρ L q => c w ρ L fun k L1 => if k = true then a w ρ L1 q else b w ρ L1 q
def dChain (f g : DR2) (a b c : DTE) : DTE := fun w ρ L q => a w ρ L fun x L1 => b w ρ L1 fun y L2 => f x y L2 fun z L3 => ∃ k, z = .bl k ∧ if k = true then c w ρ L3 fun u L4 => g y u L4 q else q (.bl false) L3
def dTup (a : DTA) : DTE := fun w ρ L q => a w ρ L fun xs L1 => xs.length ≤ sizeLine ∧ q (.tup xs) L1
def dLst (a : DTA) : DTE := fun w ρ L q => a w ρ L fun xs L1 => xs.length ≤ sizeLine ∧ q (.lst xs) L1
/-- a new list that may change -/
def dLstC (a : DTA) : DTE := fun w ρ L q => a w ρ L fun xs L1 => xs.length ≤ sizeLine ∧ ∀ p, L1 p = none → q (.ref p) (updL L1 p (.lst xs))
section
variable {X : Cx} {K : PySem.W.Frag} {e a b c : Expr} {es : List Expr} {te ta tb tc : WX → TE} {tr : WX → TA} {de da db dc : DTE} {dr : DTA} {pos p : Pos}
theorem d_var {i : Nat} {x : Str} (hN : X.N[i]? = some x) (hv : Vis X.env.scope x) (hd : (x == ("__debug__" : Str)) = false := by decide) (hcd : (x == ("__classdict__" : Str)) = false := by decide) : DE X K (fun _ => tVar i) (.Name x pos) (dVar i) := by
  refine ⟨fun W _ => pe_var hN hv hd hcd, fun W ew S σ ρ Q q I R h => ?_⟩
  obtain ⟨d, h1, h2⟩ := h
  obtain ⟨v, h3, h4⟩ := I.sl.at_ i d h1
  exact ⟨v, h3, R S v d (.refl S) I.ok h4 h2⟩
/-- a constant, whatever it is -/
theorem d_c {v : V} {d : D} (he : PE X e (tC v)) (r : ∀ H Λ, Rp K H Λ v d) : DE X K (fun _ => tC v) e (dC d) :=
  ⟨fun _ _ => he, fun W ew S σ ρ Q q I R h => R S v d (.refl S) I.ok (r _ _) h⟩
theorem d_int {i j} : DE X K (fun _ => tC (.int i)) (.Constant (.int i) j pos) (dC (.int i)) := d_c pe_int fun _ _ => .int i
theorem d_bl {b j} : DE X K (fun _ => tC (.bl b)) (.Constant (.bool b) j pos) (dC (.bl b)) := d_c pe_bl fun _ _ => .bl b
theorem d_non {j} : DE X K (fun _ => tC .non) (.Constant .none j pos) (dC .non) := d_c pe_non fun _ _ => .non
theorem d_str {x j} : DE X K (fun _ => tC (.str x)) (.Constant (.str x) j pos) (dC (.str x)) := d_c pe_str fun _ _ => .str x
theorem d_op {op : Operator} {r : R2} {f : DR2} (ho : OpR X (binaryOp op) r) (hs : SimR2 K r f) (ha : DE X K ta a da) (hb : DE X K tb b db) : DE X K (fun W => tOp r (ta W) (tb W)) (.BinOp a op b pos) (dOp f da db) := by
  refine ⟨fun W t => pe_op ho (ha.pe W t) (hb.pe W t), fun W ew S σ ρ Q q I R h => ?_⟩
  refine ha.sim W ew S σ ρ _ _ I (fun S1 v x e1 k1 r1 h1 => ?_) h
  refine hb.sim W ew S1 σ ρ _ _ (I.ev e1 k1) (fun S2 u y e2 k2 r2 h2 => ?_) h1
  exact hs S2 v u x y Q q k2 (r1.ev e2) r2 (R.ev (e1.trans e2)) h2
theorem d_cmp {op : CmpOp} {r : R2} {f : DR2} (ho : OpR X (compareOp op) r) (hs : SimR2 K r f) (ha : DE X K ta a da) (hb : DE X K tb b db) (hm : behindInMarks op b = false) : DE X K (fun W => tOp r (ta W) (tb W)) (.Compare a [op] [b] pos) (dOp f da db) := by
  refine ⟨fun W t => pe_cmpR ho (ha.pe W t) (hb.pe W t) hm, fun W ew S σ ρ Q q I R h => ?_⟩
  refine ha.sim W ew S σ ρ _ _ I (fun S1 v x e1 k1 r1 h1 => ?_) h
  refine hb.sim W ew S1 σ ρ _ _ (I.ev e1 k1) (fun S2 u y e2 k2 r2 h2 => ?_) h1
  exact hs S2 v u x y Q q k2 (r1.ev e2) r2 (R.ev (e1.trans e2)) h2
theorem d_un {op : UnaryOp} {r : V → Hp → VK → Prop} {f : DR1} (ho : UnR X (unaryOp op) r) (hs : SimR1 K r f) (ha : DE X K ta a da) : DE X K (fun W => tUn r (ta W)) (.UnaryOp op a pos) (dUn f da) := by
  refine ⟨fun W t => pe_un ho (ha.pe W t), fun W ew S σ ρ Q q I R h => ?_⟩
  refine ha.sim W ew S σ ρ _ _ I (fun S1 v x e1 k1 r1 h1 => ?_) h
  exact hs S1 v x Q q k1 r1 (R.ev e1) h1
theorem d_ix {r : R2} {f : DR2} (ho : IxR X r) (hs : SimR2 K r f) (ha : DE X K ta a da) (hb : DE X K tb b db) (hm : PlainIx b) : DE X K (fun W => tOp r (ta W) (tb W)) (.Subscript a b pos) (dOp f da db) := by
  refine ⟨fun W t => pe_ix ho (ha.pe W t) (hb.pe W t) hm, fun W ew S σ ρ Q q I R h => ?_⟩
  refine ha.sim W ew S σ ρ _ _ I (fun S1 v x e1 k1 r1 h1 => ?_) h
  refine hb.sim W ew S1 σ ρ _ _ (I.ev e1 k1) (fun S2 u y e2 k2 r2 h2 => ?_) h1
  exact hs S2 v u x y Q q k2 (r1.ev e2) r2 (R.ev (e1.trans e2)) h2
theorem d_not (ha : DE X K ta a da) : DE X K (fun W => tNotV (ta W)) (.UnaryOp .Not a pos) (dNot da) := by
  refine ⟨fun W t => pe_not (ha.pe W t), fun W ew S σ ρ Q q I R h => ?_⟩
  refine ha.sim W ew S σ ρ _ _ I (fun S1 v x e1 k1 r1 h1 => ?_) h
  obtain ⟨c, rfl, h1⟩ := h1
  cases r1
  exact ⟨c, rfl, R S1 _ _ e1 k1 (.bl _) h1⟩
theorem d_and {rest : List Expr} (ha : DE X K ta a da) (hb : DE X K tb (.BoolOp .And (b :: rest) pos) db) : DE X K (fun W => tAndV (ta W) (tb W)) (.BoolOp .And (a :: b :: rest) pos) (dAnd da db) := by
  refine ⟨fun W t => pe_and (ha.pe W t) (hb.pe W t), fun W ew S σ ρ Q q I R h => ?_⟩
  refine ha.sim W ew S σ ρ _ _ I (fun S1 v x e1 k1 r1 h1 => ?_) h
  obtain ⟨c, rfl, h1⟩ := h1
  cases r1
  refine ⟨c, rfl, ?_⟩
  cases c with
  | true => exact hb.sim W ew S1 σ ρ Q q (I.ev e1 k1) (R.ev e1) h1
  | false => exact R S1 _ _ e1 k1 (.bl _) h1
theorem d_or {rest : List Expr} (ha : DE X K ta a da) (hb : DE X K tb (.BoolOp .Or (b :: rest) pos) db) : DE X K (fun W => tOrV (ta W) (tb W)) (.BoolOp .Or (a :: b :: rest) pos) (dOr da db) := by
  refine ⟨fun W t => pe_or (ha.pe W t) (hb.pe W t), fun W ew S σ ρ Q q I R h => ?_⟩
  refine ha.sim W ew S σ ρ _ _ I (fun S1 v x e1 k1 r1 h1 => ?_) h
  obtain ⟨c, rfl, h1⟩ := h1
  cases r1
  refine ⟨c, rfl, ?_⟩
  cases c with
  | true => exact R S1 _ _ e1 k1 (.bl _) h1
  | false => exact hb.sim W ew S1 σ ρ Q q (I.ev e1 k1) (R.ev e1) h1
theorem d_one {op : BoolOp} (ha : DE X K ta a da) : DE X K ta (.BoolOp op [a] pos) da := ⟨fun W t => pe_one (ha.pe W t), ha.sim⟩
theorem d_test (ha : DE X K ta a da) (he : ∀ whole, isTrue a X.env whole = (do let v ← whole; standAt a.pos; holding [v] (truthy v)) := by intro _; rfl) : DT X K (fun W => L2.tB (ta W)) a (dTest da) := by
  refine ⟨fun W t => pt_val (ha.pe W t) he, fun W ew S σ ρ Q q I R h => ?_⟩
  refine ha.sim W ew S σ ρ _ _ I (fun S1 v x e1 k1 r1 h1 => ?_) h
  obtain ⟨c, rfl, h1⟩ := h1
  cases r1
  exact ⟨c, rfl, R S1 c e1 k1 h1⟩
theorem d_tcmp {op : CmpOp} {r : R2} {f : DR2} (ho : OpR X (compareOp op) r) (hs : SimR2 K r f) (ha : DE X K ta a da) (hb : DE X K tb b db) (hm : behindInMarks op b = false) : DT X K (fun W => tTest (tOp r (ta W) (tb W))) (.Compare a [op] [b] pos) (dTest (dOp f da db)) := by
  refine ⟨fun W t => pt_cmpR ho (ha.pe W t) (hb.pe W t) hm, fun W ew S σ ρ Q q I R h => ?_⟩
  refine (d_cmp ho hs ha hb hm (pos := pos)).sim W ew S σ ρ _ _ I (fun S1 v x e1 k1 r1 h1 => ?_) h
  obtain ⟨c, rfl, h1⟩ := h1
  cases r1
  exact ⟨c, rfl, R S1 c e1 k1 h1⟩
theorem d_tnot {tt : WX → TT} {dt : DTT} (ha : DT X K tt a dt) : DT X K (fun W => tNot (tt W)) (.UnaryOp .Not a pos) (dtNot dt) := by
  refine ⟨fun W t => pt_not (ha.pt W t), fun W ew S σ ρ Q q I R h => ?_⟩
  exact ha.sim W ew S σ ρ _ _ I (fun S1 c e1 k1 h1 => R S1 (!c) e1 k1 h1) h
/-- a test whatever its whole is -/
structure DW (X : Cx) (K : PySem.W.Frag) (tt : WX → TT) (e : Expr) (dt : DTT) : Prop where
  pw : ∀ W, Takes X W → PW X e (tt W)
  sim : SimT K tt dt
theorem DW.dt {tt : WX → TT} {dt : DTT} (h : DW X K tt e dt) : DT X K tt e dt := ⟨fun W t => (h.pw W t).pt, h.sim⟩
theorem dw_and1 {tt : WX → TT} {dt : DTT} (ha : DT X K tt a dt) : DW X K tt (.BoolOp .And [a] pos) dt := ⟨fun W t => pw_and1 (ha.pt W t), ha.sim⟩
theorem dw_or1 {tt : WX → TT} {dt : DTT} (ha : DT X K tt a dt) : DW X K tt (.BoolOp .Or [a] pos) dt := ⟨fun W t => pw_or1 (ha.pt W t), ha.sim⟩
theorem dw_and {tt tu : WX → TT} {dt du : DTT} {rest : List Expr} (ha : DT X K tt a dt) (hb : DW X K tu (.BoolOp .And (b :: rest) pos) du) : DW X K (fun W => tAnd (tt W) (tu W)) (.BoolOp .And (a :: b :: rest) pos) (dtAnd dt du) := by
  refine ⟨fun W t => pw_and (ha.pt W t) (hb.pw W t), fun W ew S σ ρ Q q I R h => ?_⟩
  refine ha.sim W ew S σ ρ _ _ I (fun S1 c e1 k1 h1 => ?_) h
  cases c with
  | true => exact hb.sim W ew S1 σ ρ Q q (I.ev e1 k1) (fun T b f => R T b (e1.trans f)) h1
  | false => exact R S1 false e1 k1 h1
theorem dw_or {tt tu : WX → TT} {dt du : DTT} {rest : List Expr} (ha : DT X K tt a dt) (hb : DW X K tu (.BoolOp .Or (b :: rest) pos) du) : DW X K (fun W => tOr (tt W) (tu W)) (.BoolOp .Or (a :: b :: rest) pos) (dtOr dt du) := by
  refine ⟨fun W t => pw_or (ha.pt W t) (hb.pw W t), fun W ew S σ ρ Q q I R h => ?_⟩
  refine ha.sim W ew S σ ρ _ _ I (fun S1 c e1 k1 h1 => ?_) h
  cases c with
  | true => exact R S1 true e1 k1 h1
  | false => exact hb.sim W ew S1 σ ρ Q q (I.ev e1 k1) (fun T b f => R T b (e1.trans f)) h1
theorem d_ifE {tt : WX → TT} {dt : DTT} (hc : DT X K tt c dt) (ha : DE X K ta a da) (hb : DE X K tb b db) : DE X K (fun W => tIf (tt W) (ta W) (tb W)) (.IfExp c a b pos) (dIfE dt da db) := by
  refine ⟨fun W t => pe_ifExp (hc.pt W t) (ha.pe W t) (hb.pe W t), fun W ew S σ ρ Q q I R h => ?_⟩
  refine hc.sim W ew S σ ρ _ _ I (fun S1 k e1 k1 h1 => ?_) h
  cases k with
  | true => exact ha.sim W ew S1 σ ρ Q q (I.ev e1 k1) (R.ev e1) h1
  | false => exact hb.sim W ew S1 σ ρ Q q (I.ev e1 k1) (R.ev e1) h1
theorem d_chain {op op' : CmpOp} {r r' : R2} {f g : DR2} (ho : OpR X (compareOp op) r) (hs : SimR2 K r f) (ho' : OpR X (compareOp op') r') (hs' : SimR2 K r' g) (ha : DE X K ta a da) (hb : DE X K tb b db) (hc : DE X K tc c dc)
    (hm : lastMarks [op, op'] [b, c] = false := by with_unfolding_all rfl) : DE X K (fun W => tChain r r' (ta W) (tb W) (tc W)) (.Compare a [op, op'] [b, c] pos) (dChain f g da db dc) := by
  refine ⟨fun W t => pe_chain ho ho' (ha.pe W t) (hb.pe W t) (hc.pe W t) hm, fun W ew S σ ρ Q q I R h => ?_⟩
  refine ha.sim W ew S σ ρ _ _ I (fun S1 v x e1 k1 r1 h1 => ?_) h
  refine hb.sim W ew S1 σ ρ _ _ (I.ev e1 k1) (fun S2 u y e2 k2 r2 h2 => ?_) h1
  refine hs S2 v u x y _ _ k2 (r1.ev e2) r2 (fun S3 z z' e3 k3 r3 h3 => ?_) h2
  obtain ⟨k, rfl, h3⟩ := h3
  cases r3
  refine ⟨k, rfl, ?_⟩
  have e23 := (e1.trans e2).trans e3
  cases k with
  | false => exact R S3 _ _ e23 k3 (.bl _) h3
  | true =>
    refine hc.sim W ew S3 σ ρ _ _ (I.ev e23 k3) (fun S4 t t' e4 k4 r4 h4 => ?_) h3
    exact hs' S4 u t y t' Q q k4 ((r2.ev e3).ev e4) r4 (R.ev (e23.trans e4)) h4
/-! arguments -/
theorem da_nil : DA X K (fun _ => tNil) [] dNil := ⟨fun _ _ => pa_nil, fun W ew S σ ρ Q q I R h => R S [] [] (.refl S) I.ok .nil h⟩
theorem da_cons (ha : DE X K ta a da) (hr : DA X K tr es dr) (hst : starEach (a :: es) X.env = (false, eval a X.env) :: starEach es X.env := by rfl) : DA X K (fun W => tCons (ta W) (tr W)) (a :: es) (dCons da dr) := by
  refine ⟨fun W t => pa_cons (ha.pe W t) (hr.pa W t) hst, fun W ew S σ ρ Q q I R h => ?_⟩
  refine ha.sim W ew S σ ρ _ _ I (fun S1 v x e1 k1 r1 h1 => ?_) h
  refine hr.sim W ew S1 σ ρ _ _ (I.ev e1 k1) (fun S2 vs xs e2 k2 r2 h2 => ?_) h1
  exact R S2 _ _ (e1.trans e2) k2 (.cons (r1.ev e2) r2) h2
/-! tuples and lists -/
theorem d_tup {k : Nat} (h : DA X K tr es dr) : DE X K (fun W => tTup (tr W)) (.Tuple es k pos) (dTup dr) := by
  refine ⟨fun W t => pe_tup (h.pa W t), fun W ew S σ ρ Q q I R hh => ?_⟩
  refine h.sim W ew S σ ρ _ _ I (fun S1 vs xs e1 k1 r1 h1 => ?_) hh
  refine ⟨by rw [r1.length]; exact h1.1, fun p np => ?_⟩
  have e2 := ev_new (o := .tup vs) np k1
  exact R (S1.new p (.tup vs)) _ _ (e1.trans e2) (ok_new np k1) (.tup (k1.lam np) upd_same (r1.ev e2)) h1.2
theorem d_lst (h : DA X K tr es dr) : DE X K (fun W => tLst (tr W)) (.List es pos) (dLst dr) := by
  refine ⟨fun W t => pe_lst (h.pa W t), fun W ew S σ ρ Q q I R hh => ?_⟩
  refine h.sim W ew S σ ρ _ _ I (fun S1 vs xs e1 k1 r1 h1 => ?_) hh
  refine ⟨by rw [r1.length]; exact h1.1, fun p np => ?_⟩
  have e2 := ev_new (o := .lst vs) np k1
  exact R (S1.new p (.lst vs)) _ _ (e1.trans e2) (ok_new np k1) (.lst (k1.lam np) upd_same (r1.ev e2)) h1.2
theorem d_lstC (h : DA X K tr es dr) : DE X K (fun W => tLst (tr W)) (.List es pos) (dLstC dr) := by
  refine ⟨fun W t => pe_lst (h.pa W t), fun W ew S σ ρ Q q I R hh => ?_⟩
  refine h.sim W ew S σ ρ _ _ I (fun S1 vs xs e1 k1 r1 h1 => ?_) hh
  refine ⟨by rw [r1.length]; exact h1.1, fun p np => ?_⟩
  have e2 := ev_newc (o := .lst vs) (c := .lst xs) np k1
  exact R (S1.newc p (.lst vs) (.lst xs)) _ _ (e1.trans e2) (ok_newc np k1 ⟨vs, upd_same, r1.ev e2⟩) (.ref p) (h1.2 p (k1.lno np))
/-- a call of what is known by values -/
theorem d_cb {f : Value} {r : List V → Hp → VK → Prop} {g : DRL} {t : WX → TE} (hp : ∀ W, Takes X W → PE X e (tCB r (tr W))) (hs : SimRL K r g) (h : SimA K tr dr) : DE X K (fun W => tCB r (tr W)) e (dCB g dr) := by
  refine ⟨hp, fun W ew S σ ρ Q q I R hh => ?_⟩
  refine h W ew S σ ρ _ _ I (fun S1 vs xs e1 k1 r1 h1 => ?_) hh
  exact hs S1 vs xs Q q k1 r1 (R.ev e1) h1
end
end Ed

set_option Elab.async false
set_option linter.all false
set_option maxRecDepth 100000
set_option maxHeartbeats 2000000
/-! Operations by values, at the level of data. -/
namespace Ed
open PySem PySem.Spec PyProof.Rows L2 Dz
/-! ### views -/
def vLst (L : Lc) : D → Option (List D)
  | .lst ds => some ds
  | .ref a => match L a with
    | some (.lst ds) => some ds
    | _ => none
  | _ => none
def vSeq (L : Lc) : D → Option (List D)
  | .tup ds => some ds
  | .ctup ds => some ds
  | .scr ns => some (ns.map .int)
  | d => vLst L d
/-- scalars -/
def sc : D → Option V
  | .non => some .non
  | .bl b => some (.bl b)
  | .int i => some (.int i)
  | .str x => some (.str x)
  | _ => none
def scA : List D → Option (List V)
  | [] => some []
  | d :: ds => match sc d, scA ds with
    | some v, some vs => some (v :: vs)
    | _, _ => none
section
variable {K : PySem.W.Frag} {S : Sta} {v : V} {d : D} {ds : List D}
theorem vLst_ok (k : Ok K S) (r : Rp K S.H S.Λ v d) (h : vLst S.L d = some ds) : ∃ a xs, v = .ref a ∧ S.H a = some (.lst xs) ∧ RpL K S.H S.Λ xs ds := by
  cases r with
  | lst n h1 h2 => cases h; exact ⟨_, _, rfl, h1, h2⟩
  | ref a =>
    unfold vLst at h
    cases e : S.L a with
    | none => simp [e] at h
    | some c =>
      cases c with
      | lst ds' =>
        simp [e] at h
        subst h
        obtain ⟨_, xs, h1, h2⟩ := k.cell a _ e
        exact ⟨a, xs, rfl, h1, h2⟩
      | _ => simp [e] at h
  | _ => cases h
theorem vSeq_ok (k : Ok K S) (r : Rp K S.H S.Λ v d) (h : vSeq S.L d = some ds) : ∃ a xs, v = .ref a ∧ (SqL K S.H a xs ∨ SqT K S.H a xs) ∧ RpL K S.H S.Λ xs ds := by
  have lst : vLst S.L d = some ds → ∃ a xs, v = .ref a ∧ (SqL K S.H a xs ∨ SqT K S.H a xs) ∧ RpL K S.H S.Λ xs ds := fun h => by
    obtain ⟨a, xs, h1, h2, h3⟩ := vLst_ok k r h
    exact ⟨a, xs, h1, .inl (.of h2), h3⟩
  cases r with
  | tup _ h1 h2 => cases h; exact ⟨_, _, rfl, .inr (.of h1), h2⟩
  | ctup h1 h2 => cases h; exact ⟨_, _, rfl, .inr h1.sq, h2⟩
  | scr h1 _ => cases h; exact ⟨_, _, rfl, .inl h1.sq, RpL.ints _⟩
  | lst n h1 h2 => exact lst h
  | ref a => exact lst h
  | _ => cases h
theorem sc_ok {u : V} (r : Rp K S.H S.Λ v d) (h : sc d = some u) : v = u ∧ flatV u = true := by
  cases r <;> cases h <;> exact ⟨rfl, rfl⟩
theorem scA_ok : ∀ {vs : List V} {ds : List D} {us : List V}, RpL K S.H S.Λ vs ds → scA ds = some us → vs = us ∧ us.all flatV = true
  | _, _, _, .nil, h => by cases h; exact ⟨rfl, rfl⟩
  | _, _, us, .cons (d := d) (ds := ds) r rr, h => by
    unfold scA at h
    cases e1 : sc d with
    | none => simp [e1] at h
    | some u =>
      cases e2 : scA ds with
      | none => simp [e1, e2] at h
      | some us' =>
        simp [e1, e2] at h
        subst h
        obtain ⟨h1, f1⟩ := sc_ok r e1
        obtain ⟨h2, f2⟩ := scA_ok rr e2
        exact ⟨by rw [h1, h2], by rw [List.all_cons, f1, f2]; rfl⟩
theorem RpL.atI {vs : List V} {i : Int} (r : RpL K S.H S.Λ vs ds) (h : L2.atI ds i = some d) : ∃ v, L2.atI vs i = some v ∧ Rp K S.H S.Λ v d := by
  unfold L2.atI at h ⊢
  rw [r.length]
  cases e : ixN ds.length i with
  | none => rw [e] at h; cases h
  | some j =>
    rw [e] at h
    obtain ⟨v, h1, h2⟩ := r.get h
    exact ⟨v, h1, h2⟩
end
/-! ### arithmetic -/
def addD : DR2 := fun x y L q => (∃ i j, x = .int i ∧ y = .int j ∧ q (.int (i + j)) L) ∨ (∃ a b, x = .str a ∧ y = .str b ∧ a.length + b.length ≤ sizeLine ∧ q (.str (a ++ b)) L) ∨
  (∃ xs ys, vLst L x = some xs ∧ vLst L y = some ys ∧ xs.length + ys.length ≤ sizeLine ∧ q (.lst (xs ++ ys)) L) ∨ (∃ xs ys, x = .tup xs ∧ y = .tup ys ∧ xs.length + ys.length ≤ sizeLine ∧ q (.tup (xs ++ ys)) L)
def iopD (C : Int → Int → Prop) (g : Int → Int → Int) : DR2 := fun x y L q => ∃ i j, x = .int i ∧ y = .int j ∧ C i j ∧ q (.int (g i j)) L
def icmpD (g : Int → Int → Bool) : DR2 := fun x y L q => ∃ i j, x = .int i ∧ y = .int j ∧ q (.bl (g i j)) L
def negD : DR1 := fun x L q => ∃ i, x = .int i ∧ q (.int (-i)) L
def mulD : DR2 := fun x y L q => (∃ i j, x = .int i ∧ y = .int j ∧ CMulW i j ∧ q (.int (i * j)) L) ∨ (∃ xs k, vLst L x = some xs ∧ y = .int k ∧ -(2 ^ 63) ≤ k ∧ k < 2 ^ 63 ∧ xs.length * k.toNat ≤ sizeLine ∧ q (.lst (List.replicate k.toNat xs).flatten) L) ∨
  (∃ xs k, x = .tup xs ∧ y = .int k ∧ xs ≠ [] ∧ 2 ≤ k ∧ k ≤ 1000 ∧ xs.length ≤ 1000 ∧ q (.tup (List.replicate k.toNat xs).flatten) L)
section
variable {K : PySem.W.Frag} {X : Cx}
def rAddA (K : PySem.W.Frag) : R2 := fun x y H Q => (∃ i j, x = .int i ∧ y = .int j ∧ Q (.int (i + j)) H) ∨ (∃ i j, x = .str i ∧ y = .str j ∧ i.length + j.length ≤ sizeLine ∧ Q (.str (i ++ j)) H) ∨ rCat x y H Q ∨ rCatA K x y H Q
theorem op_addA (hK : X.K = K) : OpR X (binaryOp .Add) (rAddA K) := by subst hK; exact op_add.or (op_add_str.or (op_cat.or op_catA))
theorem sim_add : SimR2 K (rAddA K) addD := by
  rintro S x y a b Q q k rx ry R (⟨i, j, rfl, rfl, h⟩ | ⟨i, j, rfl, rfl, hz, h⟩ | ⟨xs, ys, h1, h2, hz, h⟩ | ⟨xs, ys, rfl, rfl, hz, h⟩)
  · cases rx; cases ry
    exact .inl ⟨i, j, rfl, rfl, R S _ _ (.refl S) k (.int _) h⟩
  · cases rx; cases ry
    exact .inr (.inl ⟨i, j, rfl, rfl, hz, R S _ _ (.refl S) k (.str _) h⟩)
  · obtain ⟨l, us, rfl, e1, r1⟩ := vLst_ok k rx h1
    obtain ⟨m, ws, rfl, e2, r2⟩ := vLst_ok k ry h2
    refine .inr (.inr (.inl ⟨l, m, us, ws, rfl, rfl, e1, e2, by rw [r1.length, r2.length]; exact hz, fun p np => ?_⟩))
    have e := ev_new (o := .lst (us ++ ws)) np k
    exact R _ _ _ e (ok_new np k) (.lst (k.lam np) upd_same ((r1.append r2).ev e)) h
  · cases rx with
    | @tup l us _ n1 t1 r1 =>
    cases ry with
    | @tup m ws _ n2 t2 r2 =>
    refine .inr (.inr (.inr ⟨l, m, us, ws, rfl, rfl, .of t1, .of t2, by rw [r1.length, r2.length]; exact hz, fun z => ?_, fun _ z => ?_, fun _ _ p np => ?_⟩))
    · subst z
      cases r1
      exact R S _ _ (.refl S) k (.tup n2 t2 r2) h
    · subst z
      cases r2
      rw [List.append_nil] at h
      exact R S _ _ (.refl S) k (.tup n1 t1 r1) h
    · have e := ev_new (o := .tup (us ++ ws)) np k
      exact R _ _ _ e (ok_new np k) (.tup (k.lam np) upd_same ((r1.append r2).ev e)) h
theorem sim_iop {C : Int → Int → Prop} {g : Int → Int → Int} : SimR2 K (rI C fun i j => .int (g i j)) (iopD C g) := by
  rintro S x y a b Q q k rx ry R ⟨i, j, rfl, rfl, hc, h⟩
  cases rx; cases ry
  exact ⟨i, j, rfl, rfl, hc, R S _ _ (.refl S) k (.int _) h⟩
theorem sim_iop0 {g : Int → Int → Int} : SimR2 K (rI0 fun i j => .int (g i j)) (iopD (fun _ _ => True) g) := by
  rintro S x y a b Q q k rx ry R ⟨i, j, rfl, rfl, hc, h⟩
  cases rx; cases ry
  exact ⟨i, j, rfl, rfl, R S _ _ (.refl S) k (.int _) h⟩
theorem sim_icmp {g : Int → Int → Bool} : SimR2 K (rI0 fun i j => .bl (g i j)) (icmpD g) := by
  rintro S x y a b Q q k rx ry R ⟨i, j, rfl, rfl, h⟩
  cases rx; cases ry
  exact ⟨i, j, rfl, rfl, R S _ _ (.refl S) k (.bl _) h⟩
theorem sim_neg : SimR1 K (rU fun i => .int (-i)) negD := by
  rintro S x a Q q k rx R ⟨i, rfl, h⟩
  cases rx
  exact ⟨i, rfl, R S _ _ (.refl S) k (.int _) h⟩
def rMulA (K : PySem.W.Frag) : R2 := fun x y H Q => rI CMulW (fun i j => .int (i * j)) x y H Q ∨ rRep x y H Q ∨ rRepT K x y H Q
theorem op_mulA (hK : X.K = K) : OpR X (binaryOp .Mult) (rMulA K) := by subst hK; exact op_mulW.or (op_rep.or op_repT)
theorem RpL.rep {S : Sta} {vs : List V} {ds : List D} (r : RpL K S.H S.Λ vs ds) : ∀ n : Nat, RpL K S.H S.Λ (List.replicate n vs).flatten (List.replicate n ds).flatten
  | 0 => .nil
  | n + 1 => by rw [List.replicate_succ, List.replicate_succ, List.flatten_cons, List.flatten_cons]; exact r.append (RpL.rep r n)
theorem sim_mul : SimR2 K (rMulA K) mulD := by
  rintro S x y a b Q q k rx ry R (⟨i, j, rfl, rfl, hc, h⟩ | ⟨xs, i, h1, rfl, c1, c2, c3, h⟩ | ⟨xs, i, rfl, rfl, c1, c2, c3, c4, h⟩)
  · cases rx; cases ry
    exact .inl ⟨i, j, rfl, rfl, hc, R S _ _ (.refl S) k (.int _) h⟩
  · obtain ⟨l, us, rfl, e1, r1⟩ := vLst_ok k rx h1
    cases ry
    refine .inr (.inl ⟨l, i, us, rfl, rfl, e1, c1, c2, by rw [r1.length]; exact c3, fun p np => ?_⟩)
    have e := ev_new (o := .lst (List.replicate i.toNat us).flatten) np k
    exact R _ _ _ e (ok_new np k) (.lst (k.lam np) upd_same ((r1.rep _).ev e)) h
  · cases ry
    cases rx with
    | @tup l us _ n1 t1 r1 =>
    refine .inr (.inr ⟨l, i, us, rfl, rfl, .of t1, fun z => ?_, c2, c3, by rw [r1.length]; exact c4, fun p np => ?_⟩)
    · subst z
      cases r1
      exact c1 rfl
    · have e := ev_new (o := .tup (List.replicate i.toNat us).flatten) np k
      exact R _ _ _ e (ok_new np k) (.tup (k.lam np) upd_same ((r1.rep _).ev e)) h
end
/-! ### == -/
mutual
/-- data without dicts, as the model compares and shows it -/
inductive PyR (L : Lc) : D → PyData → Prop
  | non : PyR L .non .none
  | bl (b : Bool) : PyR L (.bl b) (.bool b)
  | int (i : Int) : PyR L (.int i) (.int i)
  | str (x : Str) : PyR L (.str x) (.str x)
  | lst {ds : List D} {ps : List PyData} : PyRL L ds ps → PyR L (.lst ds) (.list ps)
  | tup {ds : List D} {ps : List PyData} : PyRL L ds ps → PyR L (.tup ds) (.tuple ps)
  | ctup {ds : List D} {ps : List PyData} : PyRL L ds ps → PyR L (.ctup ds) (.tuple ps)
  | ref {a : Addr} {ds : List D} {ps : List PyData} : L a = some (.lst ds) → PyRL L ds ps → PyR L (.ref a) (.list ps)
inductive PyRL (L : Lc) : List D → List PyData → Prop
  | nil : PyRL L [] []
  | cons {d : D} {ds : List D} {p : PyData} {ps : List PyData} : PyR L d p → PyRL L ds ps → PyRL L (d :: ds) (p :: ps)
end
mutual
theorem PyR.dp {K : PySem.W.Frag} {S : Sta} (k : Ok K S) : ∀ {d : D} {p : PyData} {v : V}, PyR S.L d p → Rp K S.H S.Λ v d → Dp K S.H v p
  | _, _, _, .non, r => by cases r; exact .non
  | _, _, _, .bl b, r => by cases r; exact .bl b
  | _, _, _, .int i, r => by cases r; exact .int i
  | _, _, _, .str x, r => by cases r; exact .str x
  | _, _, _, .lst hp, r => by
    cases r with
    | lst n h1 h2 => exact .lst (.of h1) (PyRL.dp k hp h2)
  | _, _, _, .tup hp, r => by
    cases r with
    | tup _ h1 h2 => exact .tup (.of h1) (PyRL.dp k hp h2)
  | _, _, _, .ctup hp, r => by
    cases r with
    | ctup h1 h2 => exact .tup h1.sq (PyRL.dp k hp h2)
  | _, _, _, .ref e hp, r => by
    cases r with
    | ref a =>
      obtain ⟨_, xs, h1, h2⟩ := k.cell _ _ e
      exact .lst (.of h1) (PyRL.dp k hp h2)
theorem PyRL.dp {K : PySem.W.Frag} {S : Sta} (k : Ok K S) : ∀ {ds : List D} {ps : List PyData} {vs : List V}, PyRL S.L ds ps → RpL K S.H S.Λ vs ds → DpAll K S.H vs ps
  | _, _, _, .nil, r => by cases r; exact .nil
  | _, _, _, .cons h t, r => by
    cases r with
    | cons r1 r2 => exact .cons (PyR.dp k h r1) (PyRL.dp k t r2)
end
def eqD : DR2 := fun x y L q => (∃ u w, sc x = some u ∧ sc y = some w ∧ scal u w = true ∧ q (.bl (decide (u = w))) L) ∨ ∃ d e, PyR L x d ∧ PyR L y e ∧ SeqAt.shaped d = true ∧ SeqAt.shaped e = true ∧ q (.bl (PyData.eqv d e)) L
def neD : DR2 := fun x y L q => (∃ u w, sc x = some u ∧ sc y = some w ∧ scal u w = true ∧ q (.bl (!decide (u = w))) L) ∨ ∃ d e, PyR L x d ∧ PyR L y e ∧ SeqAt.shaped d = true ∧ SeqAt.shaped e = true ∧ q (.bl (!PyData.eqv d e)) L
def rEqA (K : PySem.W.Frag) : R2 := fun x y H Q => rEq x y H Q ∨ rEqD K x y H Q
def rNeA (K : PySem.W.Frag) : R2 := fun x y H Q => rNe x y H Q ∨ rNeD K x y H Q
section
variable {K : PySem.W.Frag} {X : Cx}
theorem op_eqA (hK : X.K = K) (hu : X.A.units + 64 < cLine) : OpR X (compareOp .Eq) (rEqA K) := by subst hK; exact op_eq.or (op_eqD hu)
theorem op_neA (hK : X.K = K) (hu : X.A.units + 64 < cLine) : OpR X (compareOp .NotEq) (rNeA K) := by subst hK; exact op_ne.or (op_neD hu)
theorem sim_eq : SimR2 K (rEqA K) eqD := by
  rintro S x y a b Q q k rx ry R (⟨u, w, h1, h2, h3, h⟩ | ⟨d, e, h1, h2, h3, h4, h⟩)
  · obtain ⟨rfl, _⟩ := sc_ok rx h1
    obtain ⟨rfl, _⟩ := sc_ok ry h2
    exact .inl ⟨h3, R S _ _ (.refl S) k (.bl _) h⟩
  · exact .inr ⟨d, e, h1.dp k rx, h2.dp k ry, h3, h4, R S _ _ (.refl S) k (.bl _) h⟩
theorem sim_ne : SimR2 K (rNeA K) neD := by
  rintro S x y a b Q q k rx ry R (⟨u, w, h1, h2, h3, h⟩ | ⟨d, e, h1, h2, h3, h4, h⟩)
  · obtain ⟨rfl, _⟩ := sc_ok rx h1
    obtain ⟨rfl, _⟩ := sc_ok ry h2
    exact .inl ⟨h3, R S _ _ (.refl S) k (.bl _) h⟩
  · exact .inr ⟨d, e, h1.dp k rx, h2.dp k ry, h3, h4, R S _ _ (.refl S) k (.bl _) h⟩
end
/-! ### is -/
def isND : DR2 := fun x y L q => y = .non ∧ ((x = .non ∧ q (.bl true) L) ∨ (x ≠ .non ∧ q (.bl false) L))
def notND : DR2 := fun x y L q => y = .non ∧ ((x = .non ∧ q (.bl false) L) ∨ (x ≠ .non ∧ q (.bl true) L))
def isBD : DR2 := fun x y L q => ∃ a b, x = .bl a ∧ y = .bl b ∧ q (.bl (decide (a = b))) L
def notBD : DR2 := fun x y L q => ∃ a b, x = .bl a ∧ y = .bl b ∧ q (.bl (!decide (a = b))) L
section
variable {K : PySem.W.Frag} {X : Cx}
theorem non_of {S : Sta} {x : V} {a : D} (r : Rp K S.H S.Λ x a) (n : a ≠ .non) : x ≠ .non := by
  cases r <;> first | exact absurd rfl n | (intro z; cases z)
theorem sim_isN : SimR2 K (fun x y H Q => y = .non ∧ Q (.bl (decide (x = .non))) H) isND := by
  rintro S x y a b Q q k rx ry R ⟨rfl, h⟩
  cases ry
  rcases h with ⟨rfl, h⟩ | ⟨n, h⟩
  · cases rx
    exact ⟨rfl, R S _ _ (.refl S) k (.bl _) (by simpa using h)⟩
  · exact ⟨rfl, R S _ _ (.refl S) k (.bl _) (by rw [decide_eq_false (non_of rx n)]; exact h)⟩
theorem sim_notN : SimR2 K (fun x y H Q => y = .non ∧ Q (.bl (!decide (x = .non))) H) notND := by
  rintro S x y a b Q q k rx ry R ⟨rfl, h⟩
  cases ry
  rcases h with ⟨rfl, h⟩ | ⟨n, h⟩
  · cases rx
    exact ⟨rfl, R S _ _ (.refl S) k (.bl _) (by simpa using h)⟩
  · exact ⟨rfl, R S _ _ (.refl S) k (.bl _) (by rw [decide_eq_false (non_of rx n)]; exact h)⟩
theorem sim_isB : SimR2 K rIsB isBD := by
  rintro S x y a b Q q k rx ry R ⟨i, j, rfl, rfl, h⟩
  cases rx; cases ry
  exact ⟨i, j, rfl, rfl, R S _ _ (.refl S) k (.bl _) h⟩
theorem sim_notB : SimR2 K rNotB notBD := by
  rintro S x y a b Q q k rx ry R ⟨i, j, rfl, rfl, h⟩
  cases rx; cases ry
  exact ⟨i, j, rfl, rfl, R S _ _ (.refl S) k (.bl _) h⟩
end
end Ed

set_option Elab.async false
set_option linter.all false
set_option maxRecDepth 100000
set_option maxHeartbeats 2000000
/-! Dicts; in; what is indexed and cut; built-in calls. -/
namespace Ed
open PySem PySem.Spec PyProof.Rows L2 Dz
section
variable {κ : Type} [DecidableEq κ]
def valD (es : List (κ × D)) (k : κ) : Option D := (es.find? fun e => decide (e.1 = k)).map (·.2)
def putD (es : List (κ × D)) (k : κ) (d : D) : List (κ × D) :=
  if (es.any fun e => decide (e.1 = k)) = true then es.map (fun e => if e.1 = k then (e.1, d) else e) else es ++ [(k, d)]
def dropD (es : List (κ × D)) (k : κ) : List (κ × D) := es.filter fun e => decide (e.1 ≠ k)
/-- a table and what it shows -/
def TabR (K : PySem.W.Frag) (H : Hp) (Λ : Addr → Prop) (ks : List (κ × V)) (es : List (κ × D)) : Prop := ks.map (·.1) = es.map (·.1) ∧ RpL K H Λ (ks.map (·.2)) (es.map (·.2))
variable {K : PySem.W.Frag} {S S' : Sta} {v : V} {d : D}
theorem TabR.cons_inv {p : κ × V} {ks : List (κ × V)} {q : κ × D} {es : List (κ × D)} (h : TabR K S.H S.Λ (p :: ks) (q :: es)) : p.1 = q.1 ∧ Rp K S.H S.Λ p.2 q.2 ∧ TabR K S.H S.Λ ks es := by
  obtain ⟨h1, h2⟩ := h
  rw [List.map_cons, List.map_cons] at h1 h2
  cases h2 with
  | cons a b => exact ⟨(List.cons.inj h1).1, a, (List.cons.inj h1).2, b⟩
theorem TabR.cons {p : κ × V} {ks : List (κ × V)} {q : κ × D} {es : List (κ × D)} (h1 : p.1 = q.1) (h2 : Rp K S.H S.Λ p.2 q.2) (h : TabR K S.H S.Λ ks es) : TabR K S.H S.Λ (p :: ks) (q :: es) := by
  refine ⟨?_, ?_⟩
  · rw [List.map_cons, List.map_cons, h1, h.1]
  · rw [List.map_cons, List.map_cons]; exact .cons h2 h.2
theorem TabR.nil : TabR K S.H S.Λ ([] : List (κ × V)) [] := ⟨rfl, .nil⟩
theorem TabR.ev {ks : List (κ × V)} {es : List (κ × D)} (h : TabR K S.H S.Λ ks es) (e : Ev S S') : TabR K S'.H S'.Λ ks es := ⟨h.1, h.2.ev e⟩
theorem TabR.len {ks : List (κ × V)} {es : List (κ × D)} (h : TabR K S.H S.Λ ks es) : ks.length = es.length := by
  have := congrArg List.length h.1
  rw [List.length_map, List.length_map] at this
  exact this
theorem TabR.get (k : κ) : ∀ {ks : List (κ × V)} {es : List (κ × D)}, TabR K S.H S.Λ ks es → (valD es k = none ∧ valV ks k = none) ∨ ∃ d v, valD es k = some d ∧ valV ks k = some v ∧ Rp K S.H S.Λ v d
  | [], [], _ => .inl ⟨rfl, rfl⟩
  | [], _ :: _, h => by have := h.len; simp at this
  | _ :: _, [], h => by have := h.len; simp at this
  | p :: ks, q :: es, h => by
    obtain ⟨h1, h2, h3⟩ := h.cons_inv
    by_cases e : q.1 = k
    · refine .inr ⟨q.2, p.2, ?_, valV_pos (h1.trans e), h2⟩
      simp [valD, List.find?_cons, e]
    · have e' : ¬ p.1 = k := fun z => e (h1.symm.trans z)
      have z : valD (q :: es) k = valD es k := by simp [valD, List.find?_cons, e]
      rw [z, valV_neg e']
      exact TabR.get k h3
theorem TabR.app {p : κ × V} {q : κ × D} (h1 : p.1 = q.1) (h2 : Rp K S.H S.Λ p.2 q.2) : ∀ {ks : List (κ × V)} {es : List (κ × D)}, TabR K S.H S.Λ ks es → TabR K S.H S.Λ (ks ++ [p]) (es ++ [q])
  | [], [], _ => .cons h1 h2 .nil
  | [], _ :: _, h => by have := h.len; simp at this
  | _ :: _, [], h => by have := h.len; simp at this
  | _ :: ks, _ :: es, h => by
    obtain ⟨a, b, c⟩ := h.cons_inv
    exact .cons a b (TabR.app h1 h2 c)
theorem TabR.any (k : κ) : ∀ {ks : List (κ × V)} {es : List (κ × D)}, TabR K S.H S.Λ ks es → (ks.any fun e => decide (e.1 = k)) = es.any fun e => decide (e.1 = k)
  | [], [], _ => rfl
  | [], _ :: _, h => by have := h.len; simp at this
  | _ :: _, [], h => by have := h.len; simp at this
  | p :: ks, q :: es, h => by
    obtain ⟨a, b, c⟩ := h.cons_inv
    rw [List.any_cons, List.any_cons, a, TabR.any k c]
theorem TabR.map (k : κ) (r : Rp K S.H S.Λ v d) : ∀ {ks : List (κ × V)} {es : List (κ × D)}, TabR K S.H S.Λ ks es → TabR K S.H S.Λ (ks.map fun e => if e.1 = k then (e.1, v) else e) (es.map fun e => if e.1 = k then (e.1, d) else e)
  | [], [], _ => .nil
  | [], _ :: _, h => by have := h.len; simp at this
  | _ :: _, [], h => by have := h.len; simp at this
  | p :: ks, q :: es, h => by
    obtain ⟨a, b, c⟩ := h.cons_inv
    rw [List.map_cons, List.map_cons]
    by_cases e : q.1 = k
    · rw [if_pos e, if_pos (a.trans e)]
      exact .cons a r (TabR.map k r c)
    · rw [if_neg e, if_neg (fun z => e (a.symm.trans z))]
      exact .cons a b (TabR.map k r c)
theorem TabR.put (k : κ) (r : Rp K S.H S.Λ v d) {ks : List (κ × V)} {es : List (κ × D)} (h : TabR K S.H S.Λ ks es) : TabR K S.H S.Λ (putK ks k v) (putD es k d) := by
  unfold putK putD
  rw [h.any k]
  split
  · exact h.map k r
  · exact h.app rfl r
theorem TabR.drop (k : κ) : ∀ {ks : List (κ × V)} {es : List (κ × D)}, TabR K S.H S.Λ ks es → TabR K S.H S.Λ (dropK ks k) (dropD es k)
  | [], [], _ => .nil
  | [], _ :: _, h => by have := h.len; simp at this
  | _ :: _, [], h => by have := h.len; simp at this
  | p :: ks, q :: es, h => by
    obtain ⟨a, b, c⟩ := h.cons_inv
    have ih := TabR.drop k c
    unfold dropK dropD at ih ⊢
    by_cases e : q.1 = k
    · rw [List.filter_cons_of_neg (by simpa using a.trans e), List.filter_cons_of_neg (by simpa using e)]
      exact ih
    · rw [List.filter_cons_of_pos (by simpa using fun z => e (a.symm.trans z)), List.filter_cons_of_pos (by simpa using e)]
      exact .cons a b ih
end
/-! ### keys -/
def kD : D → Option Key
  | .int i => some (.inl i)
  | .str x => some (.inr x)
  | _ => none
def kDs : List D → Option (List Key)
  | [] => some []
  | d :: ds => match kD d, kDs ds with
    | some k, some ks => some (k :: ks)
    | _, _ => none
def vDK (L : Lc) : D → Option (List (Key × D))
  | .dK es => some es
  | .ref a => match L a with
    | some (.dK es) => some es
    | _ => none
  | _ => none
def vDT (L : Lc) : D → Option (List (List Key × D))
  | .dT es => some es
  | .ref a => match L a with
    | some (.dT es) => some es
    | _ => none
  | _ => none
/-- what a dict has at a key -/
inductive DGetD (L : Lc) (x y : D) : Option D → Prop
  | k {es : List (Key × D)} {k : Key} : vDK L x = some es → kD y = some k → DGetD L x y (valD es k)
  | t {es : List (List Key × D)} {ds : List D} {k : List Key} : vDT L x = some es → y = .tup ds → kDs ds = some k → DGetD L x y (valD es k)
section
variable {K : PySem.W.Frag} {S : Sta} {v u : V} {x y : D}
theorem kD_ok {k : Key} (r : Rp K S.H S.Λ v y) (h : kD y = some k) : v = kV k := by
  cases r <;> cases h <;> rfl
theorem kDs_ok : ∀ {vs : List V} {ds : List D} {k : List Key}, RpL K S.H S.Λ vs ds → kDs ds = some k → vs = k.map kV
  | _, _, _, .nil, h => by cases h; rfl
  | _, _, k, .cons (d := d) (ds := ds) r rr, h => by
    unfold kDs at h
    cases e1 : kD d with
    | none => simp [e1] at h
    | some a =>
      cases e2 : kDs ds with
      | none => simp [e1, e2] at h
      | some b =>
        simp [e1, e2] at h
        subst h
        rw [List.map_cons, kD_ok r e1, kDs_ok rr e2]
theorem vDK_ok {es : List (Key × D)} (k : Ok K S) (r : Rp K S.H S.Λ v x) (h : vDK S.L x = some es) : ∃ a ks, v = .ref a ∧ Rd S.H a (.dK ks) ∧ TabR K S.H S.Λ ks es := by
  cases r with
  | dK n h1 h2 h3 => cases h; exact ⟨_, _, rfl, h1, h2, h3⟩
  | ref a =>
    unfold vDK at h
    cases e : S.L a with
    | none => simp [e] at h
    | some c =>
      cases c with
      | dK es' =>
        simp [e] at h
        subst h
        obtain ⟨_, ks, h1, h2, h3⟩ := k.cell a _ e
        exact ⟨a, ks, rfl, .inl h1, h2, h3⟩
      | _ => simp [e] at h
  | _ => cases h
theorem vDT_ok {es : List (List Key × D)} (k : Ok K S) (r : Rp K S.H S.Λ v x) (h : vDT S.L x = some es) : ∃ a ks, v = .ref a ∧ Rd S.H a (.dT ks) ∧ TabR K S.H S.Λ ks es := by
  cases r with
  | dT n h1 h2 h3 => cases h; exact ⟨_, _, rfl, h1, h2, h3⟩
  | ref a =>
    unfold vDT at h
    cases e : S.L a with
    | none => simp [e] at h
    | some c =>
      cases c with
      | dT es' =>
        simp [e] at h
        subst h
        obtain ⟨_, ks, h1, h2, h3⟩ := k.cell a _ e
        exact ⟨a, ks, rfl, .inl h1, h2, h3⟩
      | _ => simp [e] at h
  | _ => cases h
/-- tuples that may be keys are tracked ones -/
theorem DGetD.ok {o : Option D} (k : Ok K S) (r : Rp K S.H S.Λ v x) (ry : Rp K S.H S.Λ u y) (h : DGetD S.L x y o) :
    ∃ a w, v = .ref a ∧ DGet S.H a u w ∧ ((o = none ∧ w = none) ∨ ∃ d z, o = some d ∧ w = some z ∧ Rp K S.H S.Λ z d) := by
  cases h with
  | @k es kk h1 h2 =>
    obtain ⟨a, ks, rfl, h3, h4⟩ := vDK_ok k r h1
    refine ⟨a, valV ks kk, rfl, .inl ⟨ks, kk, h3, kD_ok ry h2, rfl⟩, ?_⟩
    rcases h4.get kk with ⟨e1, e2⟩ | ⟨d, z, e1, e2, e3⟩
    · exact .inl ⟨e1, e2⟩
    · exact .inr ⟨d, z, e1, e2, e3⟩
  | @t es ds kk h1 h2 h2' =>
    subst h2
    obtain ⟨a, ks, rfl, h3, h4⟩ := vDT_ok k r h1
    cases ry with
    | @tup b us _ n1 t1 r1 =>
      have eu := kDs_ok r1 h2'
      refine ⟨a, valV ks kk, rfl, .inr ⟨ks, kk, b, h3, rfl, by rw [← eu]; exact t1, rfl⟩, ?_⟩
      rcases h4.get kk with ⟨e1, e2⟩ | ⟨d, z, e1, e2, e3⟩
      · exact .inl ⟨e1, e2⟩
      · exact .inr ⟨d, z, e1, e2, e3⟩
end
end Ed

set_option Elab.async false
set_option linter.all false
set_option maxRecDepth 100000
set_option maxHeartbeats 2000000
/-! in; indices; slices; built-in calls; methods of built-in types; fields. -/
namespace Ed
open PySem PySem.Spec PyProof.Rows L2 Dz
/-- lists that are read -/
def vRd (L : Lc) : D → Option (List D)
  | .scr ns => some (ns.map .int)
  | d => vLst L d
theorem vRd_ok {K : PySem.W.Frag} {S : Sta} {v : V} {d : D} {ds : List D} (k : Ok K S) (r : Rp K S.H S.Λ v d) (h : vRd S.L d = some ds) : ∃ a xs, v = .ref a ∧ SqL K S.H a xs ∧ RpL K S.H S.Λ xs ds := by
  have lst : vLst S.L d = some ds → ∃ a xs, v = .ref a ∧ SqL K S.H a xs ∧ RpL K S.H S.Λ xs ds := fun h => by
    obtain ⟨a, xs, h1, h2, h3⟩ := vLst_ok k r h
    exact ⟨a, xs, h1, .of h2, h3⟩
  cases r with
  | scr h1 _ => cases h; exact ⟨_, _, rfl, h1.sq, RpL.ints _⟩
  | lst n h1 h2 => exact lst h
  | ref a => exact lst h
  | _ => cases h
/-! ### in -/
def inD (neg : Bool) : DR2 := fun x y L q => (∃ ds u us, vSeq L y = some ds ∧ sc x = some u ∧ scA ds = some us ∧ q (.bl (if neg then !inV u us else inV u us)) L) ∨
  (∃ (c : Nat) (z : Str), x = .str ⟨#[c]⟩ ∧ y = .str z ∧ q (.bl (if neg then !decide (c ∈ z.cps.toList) else decide (c ∈ z.cps.toList))) L) ∨ (∃ o, DGetD L y x o ∧ q (.bl (if neg then !o.isSome else o.isSome)) L) ∨
  ∃ d ds, PyR L x d ∧ PyR L y (.list ds) ∧ SeqAt.shaped d = true ∧ SeqAt.shaped (.list ds) = true ∧ q (.bl (if neg then !(ds.any fun e => PyData.eqv e d) else ds.any fun e => PyData.eqv e d)) L
def rInA (K : PySem.W.Frag) (neg : Bool) : R2 := fun x y H Q => rIn K neg x y H Q ∨ (∃ (c : Nat) (z : Str), x = .str ⟨#[c]⟩ ∧ y = .str z ∧ Q (.bl (if neg then !decide (c ∈ z.cps.toList) else decide (c ∈ z.cps.toList))) H) ∨
  (∃ a o, y = .ref a ∧ DGet H a x o ∧ Q (.bl (if neg then !o.isSome else o.isSome)) H) ∨ (if neg then rNotInD K x y H Q else rInD K x y H Q)
section
variable {K : PySem.W.Frag} {X : Cx}
theorem op_inA (hK : X.K = K) (hu : X.A.units + 65 < cLine) : OpR X (compareOp .In) (rInA K false) := by
  subst hK
  refine op_in_seq.or (OpR.or op_in_sign (OpR.or ?_ (op_inD hu)))
  intro pins s σ H x y v u Q I rx ry ⟨a, o, e, g, q⟩
  subst e
  cases ry
  exact d_in (by omega) I g rx fun s' I' => ⟨.bl o.isSome, H, I', rfl, q⟩
theorem op_ninA (hK : X.K = K) (hu : X.A.units + 65 < cLine) : OpR X (compareOp .NotIn) (rInA K true) := by
  subst hK
  refine op_notIn_seq.or (OpR.or op_notIn_sign (OpR.or ?_ (op_notInD hu)))
  intro pins s σ H x y v u Q I rx ry ⟨a, o, e, g, q⟩
  subst e
  cases ry
  exact d_notIn (by omega) I g rx fun s' I' => ⟨.bl (!o.isSome), H, I', rfl, q⟩
theorem sim_in {neg : Bool} : SimR2 K (rInA K neg) (inD neg) := by
  rintro S x y a b Q q k rx ry R (⟨ds, u, us, h1, h2, h3, h⟩ | ⟨c, z, rfl, rfl, h⟩ | ⟨o, g, h⟩ | ⟨d, ds, h1, h2, h3, h4, h⟩)
  · obtain ⟨p, xs, rfl, h4, h5⟩ := vSeq_ok k ry h1
    obtain ⟨rfl, f1⟩ := sc_ok rx h2
    obtain ⟨rfl, f2⟩ := scA_ok h5 h3
    exact .inl ⟨p, _, rfl, h4, f1, f2, R S _ _ (.refl S) k (.bl _) h⟩
  · cases rx; cases ry
    exact .inr (.inl ⟨c, z, rfl, rfl, R S _ _ (.refl S) k (.bl _) h⟩)
  · obtain ⟨p, w, rfl, g', hw⟩ := g.ok k ry rx
    refine .inr (.inr (.inl ⟨p, w, rfl, g', ?_⟩))
    have e : w.isSome = o.isSome := by
      rcases hw with ⟨rfl, rfl⟩ | ⟨d, z, rfl, rfl, _⟩ <;> rfl
    rw [e]
    exact R S _ _ (.refl S) k (.bl _) h
  · refine .inr (.inr (.inr ?_))
    cases neg with
    | true => exact ⟨d, ds, h1.dp k rx, h2.dp k ry, h3, h4, R S _ _ (.refl S) k (.bl _) h⟩
    | false => exact ⟨d, ds, h1.dp k rx, h2.dp k ry, h3, h4, R S _ _ (.refl S) k (.bl _) h⟩
end
/-! ### indices, slices -/
def ixD : DR2 := fun x i L q => (∃ ds k d, vSeq L x = some ds ∧ i = .int k ∧ atI ds k = some d ∧ q d L) ∨ (∃ z k c, x = .str z ∧ i = .int k ∧ z.length ≤ sizeLine ∧ atI z.cps.toList k = some c ∧ q (.str ⟨#[c]⟩) L) ∨ ∃ d, DGetD L x i (some d) ∧ q d L
def rIxA (K : PySem.W.Frag) : R2 := fun x y H Q => rIx K x y H Q ∨ ∃ a v, x = .ref a ∧ DGet H a y (some v) ∧ Q v H
def cutD (ds : List D) (lo hi : Option Int) : List D := (ds.drop (HT.sIx ds.length 0 lo)).take (HT.sIx ds.length ds.length hi - HT.sIx ds.length 0 lo)
def slD : D → Option Int → Option Int → Lc → DQ → Prop := fun x lo hi L q => (∃ ds, vRd L x = some ds ∧ q (.lst (cutD ds lo hi)) L) ∨ (∃ ds, x = .tup ds ∧ q (.tup (cutD ds lo hi)) L) ∨ ∃ z, x = .str z ∧ z.length ≤ sizeLine ∧ q (.str (cutS z lo hi)) L
def rSlAll (K : PySem.W.Frag) : V → Option Int → Option Int → Hp → VK → Prop := fun x lo hi H Q => rSlL K x lo hi H Q ∨ rSlA K x lo hi H Q ∨ rSlS x lo hi H Q
section
variable {K : PySem.W.Frag} {X : Cx}
theorem ix_all (hK : X.K = K) (hu : X.A.units + 1 < cLine) : IxR X (rIxA K) := by
  subst hK
  refine IxR.or ix_seq ?_
  intro value slice pins s σ H x y v u Q I rx ry ⟨a, w, e, g, q⟩ hs
  subst e
  cases rx
  exact tail_any (dict_typeIs I g) PySem.F.slot_dict_getitem.lookup (d_getItem hu I g ry fun w' s' I' r => ⟨w, H, I', r, q⟩) hs
theorem sim_ix : SimR2 K (rIxA K) ixD := by
  rintro S x y a b Q q k rx ry R (⟨ds, i, d, h1, rfl, h2, h⟩ | ⟨z, i, c, rfl, rfl, hz, h2, h⟩ | ⟨d, g, h⟩)
  · obtain ⟨p, xs, rfl, h4, h5⟩ := vSeq_ok k rx h1
    cases ry
    obtain ⟨v, h6, h7⟩ := h5.atI h2
    rcases h4 with h4 | h4
    · exact .inl (.inl ⟨p, xs, i, v, rfl, rfl, h4, h6, R S _ _ (.refl S) k h7 h⟩)
    · exact .inl (.inr (.inl ⟨p, xs, i, v, rfl, rfl, h4, h6, R S _ _ (.refl S) k h7 h⟩))
  · cases rx; cases ry
    exact .inl (.inr (.inr ⟨z, i, c, rfl, rfl, hz, h2, R S _ _ (.refl S) k (.str _) h⟩))
  · obtain ⟨p, w, rfl, g', hw⟩ := g.ok k rx ry
    rcases hw with ⟨e, _⟩ | ⟨d', z, e, rfl, r⟩
    · cases e
    · cases e
      exact .inr ⟨p, z, rfl, g', R S _ _ (.refl S) k r h⟩
theorem sl_all (hK : X.K = K) : SlR X (rSlAll K) := by subst hK; exact sl_list.or (sl_tupA.or sl_str)
theorem RpL.cut {S : Sta} {vs : List V} {ds : List D} {lo hi : Option Int} (r : RpL K S.H S.Λ vs ds) : RpL K S.H S.Λ (cutV vs lo hi) (cutD ds lo hi) := by
  unfold cutV cutD
  rw [r.length]
  exact (r.drop _).take _
def SimSl (K : PySem.W.Frag) (r : V → Option Int → Option Int → Hp → VK → Prop) (f : D → Option Int → Option Int → Lc → DQ → Prop) : Prop := ∀ (S : Sta) (x : V) (a : D) (lo hi : Option Int) (Q : VK) (q : DQ), Ok K S → Rp K S.H S.Λ x a → RelQ K S Q q → f a lo hi S.L q → r x lo hi S.H Q
theorem sim_sl : SimSl K (rSlAll K) slD := by
  rintro S x a lo hi Q q k rx R (⟨ds, h1, h⟩ | ⟨ds, rfl, h⟩ | ⟨z, rfl, hz, h⟩)
  · obtain ⟨p, xs, rfl, h4, h5⟩ := vRd_ok k rx h1
    refine .inl ⟨p, xs, rfl, h4, fun p np => ?_⟩
    have e := ev_new (o := .lst (cutV xs lo hi)) np k
    exact R _ _ _ e (ok_new np k) (.lst (k.lam np) upd_same (h5.cut.ev e)) h
  · cases rx with
    | @tup p xs _ n t r =>
    refine .inr (.inl ⟨p, xs, rfl, .of t, fun w => ?_, fun w p np => ?_⟩)
    · have e1 : cutD ds lo hi = ds := by
        unfold cutD
        rw [← r.length, w.1, w.2, r.length]
        simp
      rw [e1] at h
      exact R S _ _ (.refl S) k (.tup n t r) h
    · have e := ev_new (o := .tup (cutV xs lo hi)) np k
      exact R _ _ _ e (ok_new np k) (.tup (k.lam np) upd_same (r.cut.ev e)) h
  · cases rx
    exact .inr (.inr ⟨z, rfl, hz, R S _ _ (.refl S) k (.str _) h⟩)
/-- a slice's part -/
abbrev DTO := EW → Dv → Lc → (Option Int → Lc → Prop) → Prop
structure DO (X : Cx) (K : PySem.W.Frag) (to : WX → TO) (e : Option Expr) (d : DTO) : Prop where
  po : ∀ W, Takes X W → PO X e (to W)
  sim : ∀ (W : WX) (ew : EW) (S : Sta) (σ : L2.St) (ρ : Dv) (Q : Option Int → Hp → Prop) (q : Option Int → Lc → Prop), In K W ew S σ ρ → (∀ S' o, Ev S S' → Ok K S' → q o S'.L → Q o S'.H) → d ew ρ S.L q → to W σ S.H Q
def dNoPart : DTO := fun _ _ L q => q none L
def dPart (a : DTE) : DTO := fun w ρ L q => a w ρ L fun x L1 => ∃ i, x = .int i ∧ q (some i) L1
def dSl (f : D → Option Int → Option Int → Lc → DQ → Prop) (a : DTE) (l u : DTO) : DTE := fun w ρ L q => a w ρ L fun x L1 => l w ρ L1 fun lo L2 => u w ρ L2 fun hi L3 => f x lo hi L3 q
variable {e a b c : Expr} {es : List Expr} {te ta tb tc : WX → TE} {tr : WX → TA} {de da db dc : DTE} {dr : DTA} {pos p : Pos}
theorem do_none : DO X K (fun _ => tNoPart) none dNoPart := ⟨fun _ _ => po_none, fun W ew S σ ρ Q q I R h => R S none (.refl S) I.ok h⟩
theorem do_some (ha : DE X K ta a da) : DO X K (fun W => tPart (ta W)) (some a) (dPart da) := by
  refine ⟨fun W t => po_some (ha.pe W t), fun W ew S σ ρ Q q I R h => ?_⟩
  refine ha.sim W ew S σ ρ _ _ I (fun S1 v x e1 k1 r1 h1 => ?_) h
  obtain ⟨i, rfl, h1⟩ := h1
  cases r1
  exact ⟨i, rfl, R S1 _ e1 k1 h1⟩
theorem d_slice {lo hi : Option Expr} {tl th : WX → TO} {dl dh : DTO} {p2 : Pos} (hK : X.K = K) (ha : DE X K ta a da) (hl : DO X K tl lo dl) (hh : DO X K th hi dh) : DE X K (fun W => tSl (rSlAll K) (ta W) (tl W) (th W)) (.Subscript a (.Slice lo hi none p2) pos) (dSl slD da dl dh) := by
  refine ⟨fun W t => pe_slice (sl_all hK) (ha.pe W t) (hl.po W t) (hh.po W t), fun W ew S σ ρ Q q I R h => ?_⟩
  refine ha.sim W ew S σ ρ _ _ I (fun S1 v x e1 k1 r1 h1 => ?_) h
  refine hl.sim W ew S1 σ ρ _ _ (I.ev e1 k1) (fun S2 o e2 k2 h2 => ?_) h1
  refine hh.sim W ew S2 σ ρ _ _ (I.ev (e1.trans e2) k2) (fun S3 o' e3 k3 h3 => ?_) h2
  exact sim_sl S3 v x o o' Q q k3 ((r1.ev e2).ev e3) (R.ev ((e1.trans e2).trans e3)) h3
/-- xs[::-1] -/
def dRev (a : DTE) : DTE := fun w ρ L q => a w ρ L fun x L1 => ∃ ds, vRd L1 x = some ds ∧ q (.lst ds.reverse) L1
theorem d_rev {k : Nat} {p1 p2 p3 : Pos} (hK : X.K = K) (ha : DE X K ta a da) : DE X K (fun W => tRevL K (ta W)) (.Subscript a (.Slice none none (some (.UnaryOp .USub (.Constant (.int 1) k p1) p2)) p3) pos) (dRev da) := by
  subst hK
  refine ⟨fun W t => pe_revL (ha.pe W t), fun W ew S σ ρ Q q I R h => ?_⟩
  refine ha.sim W ew S σ ρ _ _ I (fun S1 v x e1 k1 r1 h1 => ?_) h
  obtain ⟨ds, hv, h1⟩ := h1
  obtain ⟨a, xs, rfl, h2, h3⟩ := vRd_ok k1 r1 hv
  refine ⟨a, xs, rfl, h2, fun p np => ?_⟩
  have e := ev_new (o := .lst xs.reverse) np k1
  exact R _ _ _ (e1.trans e) (ok_new np k1) (.lst (k1.lam np) upd_same (h3.reverse.ev e)) h1
/-! ### calls of built-in functions and types -/
theorem d_callB {id : String} {r : List V → Hp → VK → Prop} {f : DRL} {x : Str} (hc : CallR X (.builtin id) r) (hs : SimRL K r f) (hg : Gl X x) (hm : X.mg x = none) (hv : bootBuiltins x = some (.builtin id)) (ha : DA X K tr (e :: es) dr) (hn : x ≠ "__name__" := by decide) (hdb : (x == ("__debug__" : Str)) = false := by decide)
    (he : starEach (e :: es) X.env = (false, eval e X.env) :: starEach es X.env := by rfl) (hpl : (backTo pos (starEach es X.env)).any (·.1) = false := by rfl) : DE X K (fun W => tCB r (tr W)) (.Call (.Name x p) (e :: es) [] pos) (dCB f dr) := by
  refine ⟨fun W t => pe_callB hc hg hm hv (ha.pa W t) hn hdb he hpl, fun W ew S σ ρ Q q I R hh => ?_⟩
  refine ha.sim W ew S σ ρ _ _ I (fun S1 vs xs e1 k1 r1 h1 => ?_) hh
  exact hs S1 vs xs Q q k1 r1 (R.ev e1) h1
theorem d_callTy {T : String} {r : List V → Hp → VK → Prop} {f : DRL} {x : Str} (hc : CallR X (.type T) r) (hs : SimRL K r f) (hg : Gl X x) (hm : X.mg x = none) (hv : bootBuiltins x = some (.type T)) (ha : DA X K tr (e :: es) dr) (hn : x ≠ "__name__" := by decide) (hdb : (x == ("__debug__" : Str)) = false := by decide)
    (he : starEach (e :: es) X.env = (false, eval e X.env) :: starEach es X.env := by rfl) (hpl : (backTo pos (starEach es X.env)).any (·.1) = false := by rfl) : DE X K (fun W => tCB r (tr W)) (.Call (.Name x p) (e :: es) [] pos) (dCB f dr) := by
  refine ⟨fun W t => pe_callTy hc hg hm hv (ha.pa W t) hn hdb he hpl, fun W ew S σ ρ Q q I R hh => ?_⟩
  refine ha.sim W ew S σ ρ _ _ I (fun S1 vs xs e1 k1 r1 h1 => ?_) hh
  exact hs S1 vs xs Q q k1 r1 (R.ev e1) h1
theorem vals1R {S : Sta} {vs : List V} {d : D} (r : RpL K S.H S.Λ vs [d]) : ∃ v, vs = [v] ∧ Rp K S.H S.Λ v d := by
  cases r with
  | cons a b => cases b; exact ⟨_, rfl, a⟩
theorem vals2R {S : Sta} {vs : List V} {d e : D} (r : RpL K S.H S.Λ vs [d, e]) : ∃ v w, vs = [v, w] ∧ Rp K S.H S.Λ v d ∧ Rp K S.H S.Λ w e := by
  cases r with
  | cons a b =>
    obtain ⟨w, rfl, c⟩ := vals1R b
    exact ⟨_, _, rfl, a, c⟩
/-- len -/
def lenD : DRL := fun xs L q => (∃ x ds, xs = [x] ∧ vSeq L x = some ds ∧ q (.int ds.length) L) ∨ (∃ z, xs = [.str z] ∧ z.length ≤ sizeLine ∧ q (.int z.length) L) ∨ ∃ a es, xs = [.ref a] ∧ L a = some (.dK es) ∧ q (.int es.length) L
def rLenA (K : PySem.W.Frag) : List V → Hp → VK → Prop := fun xs H Q => (∃ p ys, xs = [.ref p] ∧ (SqL K H p ys ∨ SqT K H p ys) ∧ Q (.int ys.length) H) ∨ (∃ z, xs = [.str z] ∧ z.length ≤ sizeLine ∧ Q (.int z.length) H) ∨ ∃ a kvs, xs = [V.ref a] ∧ H a = some (.dK kvs) ∧ Q (.int kvs.length) H
theorem call_lenA (hK : X.K = K) : CallR X (.builtin "len") (rLenA K) := by subst hK; exact CallR.or call_len_seq (CallR.or call_len_str call_lenD)
theorem sim_len : SimRL K (rLenA K) lenD := by
  rintro S xs as Q q k r R (⟨x, ds, rfl, h1, h⟩ | ⟨z, rfl, hz, h⟩ | ⟨a, es, rfl, h1, h⟩)
  · obtain ⟨v, rfl, r1⟩ := vals1R r
    obtain ⟨p, ys, rfl, h2, h3⟩ := vSeq_ok k r1 h1
    exact .inl ⟨p, ys, rfl, h2, R S _ _ (.refl S) k (.int _) (by rw [h3.length]; exact h)⟩
  · obtain ⟨v, rfl, r1⟩ := vals1R r
    cases r1
    exact .inr (.inl ⟨z, rfl, hz, R S _ _ (.refl S) k (.int _) h⟩)
  · obtain ⟨v, rfl, r1⟩ := vals1R r
    cases r1
    obtain ⟨_, ks, h2, h3⟩ := k.cell a _ h1
    exact .inr (.inr ⟨a, ks, rfl, h2, R S _ _ (.refl S) k (.int _) (by rw [show ks.length = es.length from TabR.len (S := S) h3]; exact h)⟩)
/-- list(x), tuple(x) -/
def listD : DRL := fun xs L q => ∃ x ds, xs = [x] ∧ vSeq L x = some ds ∧ q (.lst ds) L
def listCD : DRL := fun xs L q => ∃ x ds, xs = [x] ∧ vSeq L x = some ds ∧ ∀ p, L p = none → q (.ref p) (updL L p (.lst ds))
def tupleD : DRL := fun xs L q => ∃ x ds, xs = [x] ∧ ((vRd L x = some ds ∧ q (.tup ds) L) ∨ (x = .tup ds ∧ q (.tup ds) L))
def rListA (K : PySem.W.Frag) : List V → Hp → VK → Prop := fun xs H Q => ∃ p ys, xs = [.ref p] ∧ (SqL K H p ys ∨ SqT K H p ys) ∧ ∀ l, H l = none → Q (.ref l) (upd H l (.lst ys))
def rTupleA (K : PySem.W.Frag) : List V → Hp → VK → Prop := fun xs H Q => ∃ p ys, xs = [.ref p] ∧ ((SqL K H p ys ∧ ∀ l, H l = none → Q (.ref l) (upd H l (.tup ys))) ∨ (SqT K H p ys ∧ Q (.ref p) H))
theorem call_listA (hK : X.K = K) : CallR X (.type "list") (rListA K) := by subst hK; exact call_list_of
theorem call_tupleA (hK : X.K = K) : CallR X (.type "tuple") (rTupleA K) := by subst hK; exact call_tuple_of
theorem sim_list : SimRL K (rListA K) listD := by
  rintro S xs as Q q k r R ⟨x, ds, rfl, h1, h⟩
  obtain ⟨v, rfl, r1⟩ := vals1R r
  obtain ⟨p, ys, rfl, h2, h3⟩ := vSeq_ok k r1 h1
  refine ⟨p, ys, rfl, h2, fun l nl => ?_⟩
  have e := ev_new (o := .lst ys) nl k
  exact R _ _ _ e (ok_new nl k) (.lst (k.lam nl) upd_same (h3.ev e)) h
theorem sim_listC : SimRL K (rListA K) listCD := by
  rintro S xs as Q q k r R ⟨x, ds, rfl, h1, h⟩
  obtain ⟨v, rfl, r1⟩ := vals1R r
  obtain ⟨p, ys, rfl, h2, h3⟩ := vSeq_ok k r1 h1
  refine ⟨p, ys, rfl, h2, fun l nl => ?_⟩
  have e := ev_newc (o := .lst ys) (c := .lst ds) nl k
  exact R _ _ _ e (ok_newc nl k ⟨ys, upd_same, h3.ev e⟩) (.ref l) (h l (k.lno nl))
theorem sim_tuple : SimRL K (rTupleA K) tupleD := by
  rintro S xs as Q q k r R ⟨x, ds, rfl, ⟨h1, h⟩ | ⟨rfl, h⟩⟩
  · obtain ⟨v, rfl, r1⟩ := vals1R r
    obtain ⟨p, ys, rfl, h2, h3⟩ := vRd_ok k r1 h1
    refine ⟨p, ys, rfl, .inl ⟨h2, fun l nl => ?_⟩⟩
    have e := ev_new (o := .tup ys) nl k
    exact R _ _ _ e (ok_new nl k) (.tup (k.lam nl) upd_same (h3.ev e)) h
  · obtain ⟨v, rfl, r1⟩ := vals1R r
    cases r1 with
    | @tup p ys _ n t rr => exact ⟨p, ys, rfl, .inr ⟨.of t, R S _ _ (.refl S) k (.tup n t rr) h⟩⟩
/-- numbers -/
def max2D : DRL := fun xs L q => ∃ i j, xs = [.int i, .int j] ∧ q (.int (if j > i then j else i)) L
def min2D : DRL := fun xs L q => ∃ i j, xs = [.int i, .int j] ∧ q (.int (if j < i then j else i)) L
def sumD : DRL := fun xs L q => ∃ (x : D) (ns : List Int), xs = [x] ∧ vRd L x = some (ns.map D.int) ∧ q (.int ns.sum) L
def allD : DRL := fun xs L q => ∃ (x : D) (bs : List Bool), xs = [x] ∧ vRd L x = some (bs.map D.bl) ∧ q (.bl (bs.all id)) L
def anyD : DRL := fun xs L q => ∃ (x : D) (bs : List Bool), xs = [x] ∧ vRd L x = some (bs.map D.bl) ∧ q (.bl (bs.any id)) L
def strD : DRL := fun xs L q => ∃ i, xs = [.int i] ∧ i.natAbs.log2 < 1920 ∧ q (.str (toString i)) L
def intD : DRL := fun xs L q => (∃ i, xs = [.int i] ∧ q (.int i) L) ∨ ∃ b, xs = [.bl b] ∧ q (.int (if b then 1 else 0)) L
theorem sim_max : SimRL K (fun xs H Q => ∃ i j, xs = [.int i, .int j] ∧ Q (.int (if j > i then j else i)) H) max2D := by
  rintro S xs as Q q k r R ⟨i, j, rfl, h⟩
  obtain ⟨v, w, rfl, r1, r2⟩ := vals2R r
  cases r1; cases r2
  exact ⟨i, j, rfl, R S _ _ (.refl S) k (.int _) h⟩
theorem sim_min : SimRL K (fun xs H Q => ∃ i j, xs = [.int i, .int j] ∧ Q (.int (if j < i then j else i)) H) min2D := by
  rintro S xs as Q q k r R ⟨i, j, rfl, h⟩
  obtain ⟨v, w, rfl, r1, r2⟩ := vals2R r
  cases r1; cases r2
  exact ⟨i, j, rfl, R S _ _ (.refl S) k (.int _) h⟩
theorem sim_sum : SimRL K (rSum K) sumD := by
  rintro S xs as Q q k r R ⟨x, ns, rfl, h1, h⟩
  obtain ⟨v, rfl, r1⟩ := vals1R r
  obtain ⟨p, ys, rfl, h2, h3⟩ := vRd_ok k r1 h1
  exact ⟨p, ns, rfl, by rw [← h3.int_of]; exact h2, R S _ _ (.refl S) k (.int _) h⟩
theorem sim_all : SimRL K (rAll K) allD := by
  rintro S xs as Q q k r R ⟨x, ns, rfl, h1, h⟩
  obtain ⟨v, rfl, r1⟩ := vals1R r
  obtain ⟨p, ys, rfl, h2, h3⟩ := vRd_ok k r1 h1
  exact ⟨p, ns, rfl, by rw [← h3.bl_of]; exact h2, R S _ _ (.refl S) k (.bl _) h⟩
theorem sim_any : SimRL K (rAny K) anyD := by
  rintro S xs as Q q k r R ⟨x, ns, rfl, h1, h⟩
  obtain ⟨v, rfl, r1⟩ := vals1R r
  obtain ⟨p, ys, rfl, h2, h3⟩ := vRd_ok k r1 h1
  exact ⟨p, ns, rfl, by rw [← h3.bl_of]; exact h2, R S _ _ (.refl S) k (.bl _) h⟩
theorem sim_str : SimRL K (fun xs H Q => ∃ i, xs = [.int i] ∧ i.natAbs.log2 < 1920 ∧ Q (.str (toString i)) H) strD := by
  rintro S xs as Q q k r R ⟨i, rfl, hz, h⟩
  obtain ⟨v, rfl, r1⟩ := vals1R r
  cases r1
  exact ⟨i, rfl, hz, R S _ _ (.refl S) k (.str _) h⟩
theorem sim_int1 : SimRL K (fun xs H Q => (∃ i, xs = [.int i] ∧ Q (.int i) H) ∨ ∃ k, xs = [.bl k] ∧ Q (.int (if k then 1 else 0)) H) intD := by
  rintro S xs as Q q k r R (⟨i, rfl, h⟩ | ⟨i, rfl, h⟩)
  · obtain ⟨v, rfl, r1⟩ := vals1R r
    cases r1
    exact .inl ⟨i, rfl, R S _ _ (.refl S) k (.int _) h⟩
  · obtain ⟨v, rfl, r1⟩ := vals1R r
    cases r1
    exact .inr ⟨i, rfl, R S _ _ (.refl S) k (.int _) h⟩
/-- repr -/
def reprD : DRL := fun xs L q => ∃ x d, xs = [x] ∧ PyR L x d ∧ d.showable = true ∧ d.hasDict = false ∧ d.depth ≤ 60 ∧ d.shown.length ≤ sizeLine ∧ q (.str d.shown) L
theorem sim_repr : SimRL K (rShow K) reprD := by
  rintro S xs as Q q k r R ⟨x, d, rfl, h1, a, b, c, e, h⟩
  obtain ⟨v, rfl, r1⟩ := vals1R r
  exact ⟨v, d, rfl, h1.dp k r1, a, b, c, e, R S _ _ (.refl S) k (.str _) h⟩
end
end Ed

set_option Elab.async false
set_option linter.all false
set_option maxRecDepth 100000
set_option maxHeartbeats 2000000
/-! Statements, targets, loops, comprehensions. -/
namespace Ed
open PySem PySem.Spec PyProof.Rows L2 Dz
/-! ### statements -/
def dNext : DTS := fun _ D ρ L => D.nx ρ L
def dSeq (t u : DTS) : DTS := fun w D ρ L => t w ⟨fun ρ1 L1 => u w D ρ1 L1, D.rt, D.bk, D.ct⟩ ρ L
def dBreak : DTS := fun _ D ρ L => D.bk ρ L
def dCont : DTS := fun _ D ρ L => D.ct ρ L
def dDrop (a : DTE) : DTS := fun w D ρ L => a w ρ L fun _ L1 => D.nx ρ L1
def dRet (a : DTE) : DTS := fun w D ρ L => a w ρ L D.rt
def dRetN : DTS := fun _ D _ L => D.rt .non L
def dIfS (c : DTT) (t u : DTS) : DTS := fun w D ρ L => c w ρ L fun b L1 => if b = true then t w D ρ L1 else u w D ρ L1
def dSet (i : Nat) (a : DTE) : DTS := fun w D ρ L => a w ρ L fun x L1 => D.nx (ρ.set i (some x)) L1
def dAsg (a : DTE) (g : DTG) : DTS := fun w D ρ L => a w ρ L fun x L1 => g w x ρ L1 D.nx
def dPar (i j : Nat) (a : DTA) : DTS := fun w D ρ L => a w ρ L fun xs L1 => ∃ x y, xs = [x, y] ∧ D.nx ((ρ.set i (some x)).set j (some y)) L1
def dgName (i : Nat) : DTG := fun _ x ρ L n => n (ρ.set i (some x)) L
abbrev DTGs := EW → List D → Dv → Lc → (Dv → Lc → Prop) → Prop
def dgNil : DTGs := fun _ xs ρ L n => xs = [] ∧ n ρ L
def dgCons (g : DTG) (r : DTGs) : DTGs := fun w xs ρ L n => ∃ x ys, xs = x :: ys ∧ g w x ρ L fun ρ1 L1 => r w ys ρ1 L1 n
def dgTup (k : Nat) (r : DTGs) : DTG := fun w x ρ L n => ∃ ds, (x = .tup ds ∨ x = .ctup ds) ∧ ds.length = k ∧ r w ds ρ L n
def SimGs (K : PySem.W.Frag) (tg : WX → TGs) (dg : DTGs) : Prop := ∀ (W : WX) (ew : EW) (S : Sta) (σ : L2.St) (ρ : Dv) (vs : List V) (xs : List D) (N : L2.St → Hp → Prop) (n : Dv → Lc → Prop), In K W ew S σ ρ → RpL K S.H S.Λ vs xs → RelN K S N n → dg ew xs ρ S.L n → tg W vs σ S.H N
structure DGs (X : Cx) (K : PySem.W.Frag) (tg : WX → TGs) (es : List Expr) (dg : DTGs) : Prop where
  pg : ∀ W, Takes X W → PGs X es (tg W)
  sim : SimGs K tg dg
section
variable {X : Cx} {K : PySem.W.Frag} {e a b c : Expr} {es : List Expr} {st : Stmt} {sts sts2 : List Stmt} {te ta tb tc : WX → TE} {tr : WX → TA} {tt : WX → TT} {ts tu : WX → TS} {tg : WX → TG} {de da db dc : DTE} {dr : DTA} {dt : DTT} {ds du : DTS} {dg : DTG} {pos p : Pos}
theorem dss_nil : DSs X K (fun _ => tNext) [] dNext := ⟨fun _ _ => pss_nil, fun W ew S σ ρ D d I R h => R.nx S σ ρ (.refl S) I.ok I.sl h⟩
theorem dss_cons (h1 : DS X K ts st ds) (h2 : DSs X K tu sts du) : DSs X K (fun W => tSeq (ts W) (tu W)) (st :: sts) (dSeq ds du) := by
  refine ⟨fun W t => pss_cons (h1.ps W t) (h2.ps W t), fun W ew S σ ρ D d I R h => ?_⟩
  refine h1.sim W ew S σ ρ _ ⟨fun ρ1 L1 => du ew d ρ1 L1, d.rt, d.bk, d.ct⟩ I ⟨fun S1 σ1 ρ1 e1 k1 r1 n1 => ?_, R.rt, R.bk, R.ct⟩ h
  exact h2.sim W ew S1 σ1 ρ1 D d ⟨k1, r1, I.wi.ev e1⟩ (R.ev e1) n1
theorem dss_one (h1 : DS X K ts st ds) : DSs X K ts [st] ds := ⟨fun W t => pss_one (h1.ps W t), h1.sim⟩
theorem ds_pass : DS X K (fun _ => tNext) (.Pass pos) dNext := ⟨fun _ _ => ps_pass, fun W ew S σ ρ D d I R h => R.nx S σ ρ (.refl S) I.ok I.sl h⟩
theorem ds_break : DS X K (fun _ => tBreak) (.Break pos) dBreak := ⟨fun _ _ => ps_break, fun W ew S σ ρ D d I R h => R.bk S σ ρ (.refl S) I.ok I.sl h⟩
theorem ds_cont : DS X K (fun _ => tCont) (.Continue pos) dCont := ⟨fun _ _ => ps_continue, fun W ew S σ ρ D d I R h => R.ct S σ ρ (.refl S) I.ok I.sl h⟩
theorem ds_doc {x j pos'} : DS X K (fun _ => tNext) (.Expr (.Constant (.str x) j pos) pos') dNext := ⟨fun _ _ => ps_doc, fun W ew S σ ρ D d I R h => R.nx S σ ρ (.refl S) I.ok I.sl h⟩
theorem ds_expr (ha : DE X K ta a da) (hs : swapsWith a none pos.line X.env = pure false := by rfl) : DS X K (fun W => tDrop (ta W)) (.Expr a pos) (dDrop da) := by
  refine ⟨fun W t => ps_expr (ha.pe W t) hs, fun W ew S σ ρ D d I R h => ?_⟩
  exact ha.sim W ew S σ ρ _ _ I (fun S1 v x e1 k1 r1 h1 => R.nx S1 σ ρ e1 k1 (I.sl.ev e1) h1) h
theorem ds_ret (ha : DE X K ta a da) : DS X K (fun W => tRet (ta W)) (.Return (some a) pos) (dRet da) := by
  refine ⟨fun W t => ps_ret (ha.pe W t), fun W ew S σ ρ D d I R h => ?_⟩
  exact ha.sim W ew S σ ρ _ _ I R.rt h
theorem ds_retN : DS X K (fun _ => tRetN) (.Return none pos) dRetN := ⟨fun _ _ => ps_retN, fun W ew S σ ρ D d I R h => R.rt S _ _ (.refl S) I.ok .non h⟩
theorem ds_if (hc : DT X K tt c dt) (h1 : DSs X K ts sts ds) (h2 : DSs X K tu sts2 du) : DS X K (fun W => tIfS (tt W) (ts W) (tu W)) (.If c sts sts2 pos) (dIfS dt ds du) := by
  refine ⟨fun W t => ps_if (hc.pt W t) (h1.ps W t) (h2.ps W t), fun W ew S σ ρ D d I R h => ?_⟩
  refine hc.sim W ew S σ ρ _ _ I (fun S1 b e1 k1 h1' => ?_) h
  cases b with
  | true => exact h1.sim W ew S1 σ ρ D d (I.ev e1 k1) (R.ev e1) h1'
  | false => exact h2.sim W ew S1 σ ρ D d (I.ev e1 k1) (R.ev e1) h1'
theorem ds_set {i : Nat} {x : Str} {pos' : Pos} (hN : X.N.Nodup) (hi : X.N[i]? = some x) (hx : Loc X.env.scope x) (ha : DE X K ta a da) (hs : swapsWith a (some (.Name x pos')) pos.line X.env = pure false := by rfl)
    (hf : X.fn x = true ∨ X.env.scope.names.lookup x = some .local := by first | exact .inl rfl | exact .inr rfl | assumption) : DS X K (fun W => tAsg (ta W) (gName i)) (.Assign [.Name x pos'] a pos) (dSet i da) := by
  refine ⟨fun W t => ps_set hN hi hx (ha.pe W t) hs hf, fun W ew S σ ρ D d I R h => ?_⟩
  exact ha.sim W ew S σ ρ _ _ I (fun S1 v x e1 k1 r1 h1 => R.nx S1 _ _ e1 k1 ((I.sl.ev e1).set r1) h1) h
theorem ds_asg {tge : Expr} (ha : DE X K ta a da) (hg : DG X K tg tge dg) (hs : swapsWithSole [tge] a pos.line X.env = pure false := by rfl) (hw : swappedStores [tge] a X.env = pure none := by rfl)
    (h1 : (assignEach [tge] X.env).map (·.2) = [assign tge X.env] := by rfl) : DS X K (fun W => tAsg (ta W) (tg W)) (.Assign [tge] a pos) (dAsg da dg) := by
  refine ⟨fun W t => ps_asg (ha.pe W t) (hg.pg W t) hs hw h1, fun W ew S σ ρ D d I R h => ?_⟩
  refine ha.sim W ew S σ ρ _ _ I (fun S1 v x e1 k1 r1 h1 => ?_) h
  exact hg.sim W ew S1 σ ρ v x _ _ (I.ev e1 k1) r1 (R.nx.ev e1) h1
theorem ds_par {i j : Nat} {x y : Str} {px py pt : Pos} {kt k2 pt2} (hc : X.calm = true) (hN : X.N.Nodup) (hi : X.N[i]? = some x) (hj : X.N[j]? = some y) (hij : i ≠ j)
    (hx : X.env.scope.names.lookup x = some .local) (hy : X.env.scope.names.lookup y = some .local) (ha : DA X K tr [a, b] dr)
    (hw : swappedStores [.Tuple [.Name x px, .Name y py] kt pt] (.Tuple [a, b] k2 pt2) X.env = pure (some [x, y]))
    (hs : swapsWithSole [.Tuple [.Name x px, .Name y py] kt pt] (.Tuple [a, b] k2 pt2) pos.line X.env = pure false := by rfl) :
    DS X K (fun W => tPar i j (tr W)) (.Assign [.Tuple [.Name x px, .Name y py] kt pt] (.Tuple [a, b] k2 pt2) pos) (dPar i j dr) := by
  refine ⟨fun W t => ps_par hc hN hi hj hij hx hy (ha.pa W t) hw hs, fun W ew S σ ρ D d I R h => ?_⟩
  refine ha.sim W ew S σ ρ _ _ I (fun S1 vs xs e1 k1 r1 h1 => ?_) h
  obtain ⟨x, y, rfl, h1⟩ := h1
  obtain ⟨v, w, rfl, rv, rw'⟩ := vals2R r1
  exact ⟨v, w, rfl, R.nx S1 _ _ e1 k1 (((I.sl.ev e1).set rv).set rw') h1⟩
/-! targets -/
theorem dg_name {i : Nat} {x : Str} (hN : X.N.Nodup) (hi : X.N[i]? = some x) (hx : Loc X.env.scope x) (hf : X.fn x = true ∨ X.env.scope.names.lookup x = some .local := by first | exact .inl rfl | exact .inr rfl | assumption) : DG X K (fun _ => gName i) (.Name x pos) (dgName i) :=
  ⟨fun _ _ => pg_name hN hi hx hf, fun W ew S σ ρ v x N n I r R h => R S _ _ (.refl S) I.ok (I.sl.set r) h⟩
theorem dgs_nil : DGs X K (fun _ => gNil) [] dgNil := by
  refine ⟨fun _ _ => pgs_nil, fun W ew S σ ρ vs xs N n I r R h => ?_⟩
  obtain ⟨rfl, h⟩ := h
  cases r
  exact ⟨rfl, R S _ _ (.refl S) I.ok I.sl h⟩
theorem dgs_cons {tgs : WX → TGs} {dgs : DTGs} (h1 : DG X K tg e dg) (h2 : DGs X K tgs es dgs) (hs : (assignEach (e :: es) X.env).map (·.2) = assign e X.env :: (assignEach es X.env).map (·.2) := by rfl) : DGs X K (fun W => gCons (tg W) (tgs W)) (e :: es) (dgCons dg dgs) := by
  refine ⟨fun W t => pgs_cons (h1.pg W t) (h2.pg W t) hs, fun W ew S σ ρ vs xs N n I r R h => ?_⟩
  obtain ⟨x, ys, rfl, h⟩ := h
  cases r with
  | @cons v vs' _ _ r rr =>
  refine ⟨v, vs', rfl, h1.sim W ew S σ ρ v x _ _ I r (fun S1 σ1 ρ1 e1 k1 s1 n1 => ?_) h⟩
  exact h2.sim W ew S1 σ1 ρ1 vs' ys N n ⟨k1, s1, I.wi.ev e1⟩ (rr.ev e1) (R.ev e1) n1
theorem dg_tup {k m : Nat} {tgs : WX → TGs} {dgs : DTGs} (hK : X.K = K) (hc : X.calm = true) (h : DGs X K tgs es dgs) (hn : (assignEach es X.env).length = m := by rfl) (hst : (assignEach es X.env).findIdx? (·.1) = none := by rfl) :
    DG X K (fun W => gTup K m (tgs W)) (.Tuple es k pos) (dgTup m dgs) := by
  subst hK
  refine ⟨fun W t => pg_tup hc (h.pg W t) hn hst, fun W ew S σ ρ v x N n I r R hh => ?_⟩
  obtain ⟨ds, hx, hl, hh⟩ := hh
  rcases hx with rfl | rfl
  · cases r with
    | @tup q us _ _ t1 r1 => exact ⟨q, us, rfl, .of t1, by rw [r1.length]; exact hl, h.sim W ew S σ ρ us ds N n I r1 R hh⟩
  · cases r with
    | @ctup q us _ t1 r1 => exact ⟨q, us, rfl, t1.sq, by rw [r1.length]; exact hl, h.sim W ew S σ ρ us ds N n I r1 R hh⟩
end
/-! ### o[i] = v -/
def setD : D → D → D → Lc → (Lc → Prop) → Prop := fun o i v L n => (∃ a ds k j, o = .ref a ∧ L a = some (.lst ds) ∧ i = .int k ∧ ixN ds.length k = some j ∧ n (updL L a (.lst (ds.set j v)))) ∨
  (∃ a es k, o = .ref a ∧ L a = some (.dK es) ∧ kD i = some k ∧ es.length < sizeLine ∧ n (updL L a (.dK (putD es k v)))) ∨
  ∃ a es ds k, o = .ref a ∧ L a = some (.dT es) ∧ i = .tup ds ∧ kDs ds = some k ∧ es.length < sizeLine ∧ n (updL L a (.dT (putD es k v)))
def rSetA : TSet := fun o i v H Q => rSetL o i v H Q ∨ ∃ a H', o = .ref a ∧ DPut H a i v H' ∧ Q H'
def SimSet (K : PySem.W.Frag) (r : TSet) (f : D → D → D → Lc → (Lc → Prop) → Prop) : Prop := ∀ (S : Sta) (o i v : V) (a b c : D) (N : Hp → Prop) (n : Lc → Prop), Ok K S → Rp K S.H S.Λ o a → Rp K S.H S.Λ i b → Rp K S.H S.Λ v c → (∀ S', Ev S S' → Ok K S' → n S'.L → N S'.H) → f a b c S.L n → r o i v S.H N
section
variable {X : Cx} {K : PySem.W.Frag}
theorem set_all (hu : X.A.units + 1 < cLine) : PSet X rSetA := by
  intro pins s σ H o i v ov iv u Q I ro ri rv h
  rcases h with h | ⟨a, H', rfl, g, q⟩
  · exact set_list pins s σ H o i v ov iv u Q I ro ri rv h
  · cases ro
    exact d_setItem hu I g ri rv fun s' I' => ⟨H', I', q⟩
theorem sim_set : SimSet K rSetA setD := by
  rintro S o i v a b c N n k ro ri rv R (⟨p, ds, j, m, rfl, h1, rfl, h2, h⟩ | ⟨p, es, kk, rfl, h1, h2, h3, h⟩ | ⟨p, es, ds, kk, rfl, h1, rfl, h2, h3, h⟩)
  · cases ro; cases ri
    obtain ⟨_, xs, h4, h5⟩ := k.cell p _ h1
    refine .inl ⟨p, xs, j, m, rfl, rfl, h4, by rw [h5.length]; exact h2, ?_⟩
    have e := ev_put (o := .lst (xs.set m v)) (c := .lst (ds.set m c)) h1 k
    exact R (S.put p (.lst (xs.set m v)) (.lst (ds.set m c))) e (ok_put h1 k ⟨_, upd_same, (RpL.set rv m h5).ev e⟩) h
  · cases ro
    obtain ⟨_, ks, h4, h5⟩ := k.cell p _ h1
    have T : TabR K S.H S.Λ ks es := h5
    refine .inr ⟨p, _, rfl, .inl ⟨ks, kk, h4, kD_ok ri h2, by rw [T.len]; exact h3, rfl⟩, ?_⟩
    have e := ev_put (o := .dK (putK ks kk v)) (c := .dK (putD es kk c)) h1 k
    exact R (S.put p (.dK (putK ks kk v)) (.dK (putD es kk c))) e (ok_put h1 k ⟨_, upd_same, ((T.put kk rv).ev e)⟩) h
  · cases ro
    obtain ⟨_, ks, h4, h5⟩ := k.cell p _ h1
    have T : TabR K S.H S.Λ ks es := h5
    cases ri with
    | @tup b us _ _ t1 r1 =>
    refine .inr ⟨p, _, rfl, .inr ⟨ks, kk, b, h4, rfl, by rw [← kDs_ok r1 h2]; exact t1, by rw [T.len]; exact h3, rfl⟩, ?_⟩
    have e := ev_put (o := .dT (putK ks kk v)) (c := .dT (putD es kk c)) h1 k
    exact R (S.put p (.dT (putK ks kk v)) (.dT (putD es kk c))) e (ok_put h1 k ⟨_, upd_same, ((T.put kk rv).ev e)⟩) h
def dgSub (f : D → D → D → Lc → (Lc → Prop) → Prop) (o i : DTE) : DTG := fun w x ρ L n => o w ρ L fun y L1 => i w ρ L1 fun z L2 => f y z x L2 fun L3 => n ρ L3
theorem dg_sub {o i : Expr} {to ti : WX → TE} {do' di : DTE} {pos : Pos} (hu : X.A.units + 1 < cLine) (ho : DE X K to o do') (hi : DE X K ti i di)
    (ha : ∀ v, assign (.Subscript o i pos) X.env v = (do
      let ov ← holding [v] (eval o X.env)
      let iv ← holding [v, ov] (eval i X.env)
      standAt pos
      holding [v, ov, iv] (setItem ov iv v)
      release [v, ov, iv] []) := by intro _; rfl) : DG X K (fun W => gSub (to W) (ti W) rSetA) (.Subscript o i pos) (dgSub setD do' di) := by
  refine ⟨fun W t => pg_sub (ho.pe W t) (hi.pe W t) (set_all hu) ha, fun W ew S σ ρ v x N n I r R h => ?_⟩
  refine ho.sim W ew S σ ρ _ _ I (fun S1 ov y e1 k1 r1 h1 => ?_) h
  refine hi.sim W ew S1 σ ρ _ _ (I.ev e1 k1) (fun S2 iv z e2 k2 r2 h2 => ?_) h1
  exact sim_set S2 ov iv v y z x _ _ k2 (r1.ev e2) r2 (r.ev (e1.trans e2)) (fun S3 e3 k3 h3 => R S3 σ ρ ((e1.trans e2).trans e3) k3 (I.sl.ev ((e1.trans e2).trans e3)) h3) h2
end
end Ed

set_option Elab.async false
set_option linter.all false
set_option maxRecDepth 100000
set_option maxHeartbeats 2000000
/-! What loops go over; for; comprehensions; while. -/
namespace Ed
open PySem PySem.Spec PyProof.Rows L2 Dz
/-- what is walked: the things that come, and what must hold of the cells at each turn -/
abbrev DTI := EW → Dv → Lc → (List D → (Lc → Prop) → Lc → Prop) → Prop
/-- a walk of ds from S0 on, while g holds -/
structure ItOk (K : PySem.W.Frag) (S0 : Sta) (J : It) (ds : List D) (g : Lc → Prop) : Prop where
  ex : ∃ (G : Hp → Prop) (Y : Nat → Hp → V → Hp → Prop), Walk J ds.length G Y ∧ (∀ S, Ev S0 S → Ok K S → g S.L → G S.H) ∧
    ∀ S i x H', Ev S0 S → Ok K S → g S.L → i < ds.length → Y i S.H x H' → ∃ S' d, S'.H = H' ∧ S'.L = S.L ∧ Ev S S' ∧ Ok K S' ∧ ds[i]? = some d ∧ Rp K S'.H S'.Λ x d
def SimI (K : PySem.W.Frag) (wi : WX → TI) (di : DTI) : Prop := ∀ (W : WX) (ew : EW) (S : Sta) (σ : L2.St) (ρ : Dv) (R : It → Hp → Prop) (k : List D → (Lc → Prop) → Lc → Prop), In K W ew S σ ρ →
  (∀ S' J ds g, Ev S S' → Ok K S' → ItOk K S' J ds g → k ds g S'.L → R J S'.H) → di ew ρ S.L k → wi W σ S.H R
structure DI (X : Cx) (K : PySem.W.Frag) (wi : WX → TI) (tg e : Expr) (di : DTI) : Prop where
  pi : ∀ W, Takes X W → PI X tg e (wi W)
  sim : SimI K wi di
def diSeq (a : DTE) : DTI := fun w ρ L k => a w ρ L fun x L1 => ∃ ds, vRd L1 x = some ds ∧ k ds (fun L' => vRd L' x = some ds) L1
def diTup (a : DTE) : DTI := fun w ρ L k => a w ρ L fun x L1 => ∃ ds, (x = .tup ds ∨ x = .ctup ds) ∧ k ds (fun _ => True) L1
def diStr (a : DTE) : DTI := fun w ρ L k => a w ρ L fun x L1 => ∃ z : Str, x = .str z ∧ k (z.cps.toList.map fun c => .str ⟨#[c]⟩) (fun _ => True) L1
def diRng1 (a : DTA) : DTI := fun w ρ L k => a w ρ L fun xs L1 => ∃ j : Int, xs = [.int j] ∧ -(2 ^ 62) ≤ j ∧ j < 2 ^ 62 ∧ k ((List.range j.toNat).map fun i => .int (i : Nat)) (fun _ => True) L1
def diRng2 (a : DTA) : DTI := fun w ρ L k => a w ρ L fun xs L1 => ∃ i j : Int, xs = [.int i, .int j] ∧ (-(2 ^ 62) ≤ i ∧ i < 2 ^ 62 ∧ -(2 ^ 62) ≤ j ∧ j < 2 ^ 62) ∧ k ((List.range (j - i).toNat).map fun m => .int (i + (m : Nat))) (fun _ => True) L1
def diRev (a : DTA) : DTI := fun w ρ L k => a w ρ L fun xs L1 => ∃ x ds, xs = [x] ∧ vRd L1 x = some ds ∧ k ds.reverse (fun L' => vRd L' x = some ds) L1
def diEnum (a : DTA) : DTI := fun w ρ L k => a w ρ L fun xs L1 => ∃ x ds, xs = [x] ∧ vRd L1 x = some ds ∧ k (ds.mapIdx fun i d => .tup [.int (i : Nat), d]) (fun L' => vRd L' x = some ds) L1
def diZip (a : DTA) : DTI := fun w ρ L k => a w ρ L fun xs L1 => ∃ x y ds es, xs = [x, y] ∧ vRd L1 x = some ds ∧ vRd L1 y = some es ∧ k (List.zipWith (fun d e => .tup [d, e]) ds es) (fun L' => vRd L' x = some ds ∧ vRd L' y = some es) L1
section
variable {X : Cx} {K : PySem.W.Frag} {tge e a b c : Expr} {es : List Expr} {te ta tb tc : WX → TE} {tr : WX → TA} {da db dc : DTE} {dr : DTA} {pos p : Pos}
/-- the list stands at each turn as at the first -/
theorem rd_at {S S' : Sta} {v : V} {x : D} {ds : List D} (k : Ok K S) (r : Rp K S.H S.Λ v x) (h : vRd S.L x = some ds) (e : Ev S S') (k' : Ok K S') (h' : vRd S'.L x = some ds) : ∃ a, v = .ref a ∧ ∃ xs, SqL K S'.H a xs ∧ RpL K S'.H S'.Λ xs ds := by
  obtain ⟨a, xs, e1, h1, h2⟩ := vRd_ok k' (r.ev e) h'
  exact ⟨a, e1, xs, h1, h2⟩
theorem di_seq (hK : X.K = K) (ha : DE X K ta a da) : DI X K (fun W => iList K (ta W)) tge a (diSeq da) := by
  subst hK
  refine ⟨fun W t => pi_list (ha.pe W t), fun W ew S σ ρ R k I RR h => ?_⟩
  refine ha.sim W ew S σ ρ _ _ I (fun S1 v x e1 k1 r1 h1 => ?_) h
  obtain ⟨ds, hv, h1⟩ := h1
  obtain ⟨a, xs, rfl, hs, hr⟩ := vRd_ok k1 r1 hv
  refine ⟨a, rfl, ⟨xs, hs⟩, RR S1 _ ds _ e1 k1 ⟨fun H => ∃ S', S'.H = H ∧ Ev S1 S' ∧ Ok X.K S' ∧ vRd S'.L x = some ds, fun i H y H' => H' = H ∧ ∀ ys, SqL X.K H a ys → ys[i]? = some y, ⟨fun i H hi g => ?_, fun H g => ?_, fun i H y H' _ _ q => q⟩, fun S' e k g => ⟨S', rfl, e, k, g⟩, fun S' i y H' e k g hi q => ?_⟩ h1⟩
  · obtain ⟨S', rfl, e, k, g⟩ := g
    obtain ⟨b, eb, ys, hs', hr'⟩ := rd_at k1 r1 hv e k g
    cases eb
    have hl := hr'.length
    exact ⟨ys, ys[i]'(by omega), hs', List.getElem?_eq_getElem (by omega)⟩
  · obtain ⟨S', rfl, e, k, g⟩ := g
    obtain ⟨b, eb, ys, hs', hr'⟩ := rd_at k1 r1 hv e k g
    cases eb
    exact ⟨ys, hs', Nat.le_of_eq hr'.length⟩
  · obtain ⟨rfl, q⟩ := q
    obtain ⟨b, eb, ys, hs', hr'⟩ := rd_at k1 r1 hv e k g
    cases eb
    obtain ⟨d, hd⟩ : ∃ d, ds[i]? = some d := ⟨ds[i], List.getElem?_eq_getElem hi⟩
    obtain ⟨z, hz, rz⟩ := hr'.get hd
    have := q ys hs'
    rw [hz] at this
    cases this
    exact ⟨S', d, rfl, rfl, .refl _, k, hd, rz⟩
theorem di_tup (hK : X.K = K) (ha : DE X K ta a da) : DI X K (fun W => iTup K (ta W)) tge a (diTup da) := by
  subst hK
  refine ⟨fun W t => pi_tup (ha.pe W t), fun W ew S σ ρ R k I RR h => ?_⟩
  refine ha.sim W ew S σ ρ _ _ I (fun S1 v x e1 k1 r1 h1 => ?_) h
  obtain ⟨ds, hx, h1⟩ := h1
  have key : ∀ {S' : Sta}, Ev S1 S' → Rp X.K S'.H S'.Λ v x → ∃ a, v = .ref a ∧ ∃ xs, SqT X.K S'.H a xs ∧ RpL X.K S'.H S'.Λ xs ds := fun {S'} _ r => by
    rcases hx with rfl | rfl
    · cases r with
      | tup _ t r => exact ⟨_, rfl, _, .of t, r⟩
    · cases r with
      | ctup t r => exact ⟨_, rfl, _, t.sq, r⟩
  obtain ⟨a, rfl, xs, hs, hr⟩ := key (.refl S1) r1
  refine ⟨a, rfl, ⟨xs, hs⟩, RR S1 _ ds _ e1 k1 ⟨fun H => ∃ S', S'.H = H ∧ Ev S1 S' ∧ Ok X.K S', fun i H y H' => H' = H ∧ ∀ ys, SqT X.K H a ys → ys[i]? = some y, ⟨fun i H hi g => ?_, fun H g => ?_, fun i H y H' _ _ q => q⟩, fun S' e k g => ⟨S', rfl, e, k⟩, fun S' i y H' e k g hi q => ?_⟩ h1⟩
  · obtain ⟨S', rfl, e, k⟩ := g
    obtain ⟨b, eb, ys, hs', hr'⟩ := key e (r1.ev e)
    cases eb
    have hl := hr'.length
    exact ⟨ys, ys[i]'(by omega), hs', List.getElem?_eq_getElem (by omega)⟩
  · obtain ⟨S', rfl, e, k⟩ := g
    obtain ⟨b, eb, ys, hs', hr'⟩ := key e (r1.ev e)
    cases eb
    exact ⟨ys, hs', Nat.le_of_eq hr'.length⟩
  · obtain ⟨rfl, q⟩ := q
    obtain ⟨b, eb, ys, hs', hr'⟩ := key e (r1.ev e)
    cases eb
    obtain ⟨d, hd⟩ : ∃ d, ds[i]? = some d := ⟨ds[i], List.getElem?_eq_getElem hi⟩
    obtain ⟨z, hz, rz⟩ := hr'.get hd
    have := q ys hs'
    rw [hz] at this
    cases this
    exact ⟨S', d, rfl, rfl, .refl _, k, hd, rz⟩
/-- a walk that reads no heap -/
theorem it_pure {S0 : Sta} {J : It} {ds : List D} {g : Lc → Prop} {f : Nat → Option V} (w : Walk J ds.length (fun _ => True) fun i H x H' => H' = H ∧ f i = some x) (hr : ∀ (S : Sta) (i : Nat) (x : V), f i = some x → ∃ d, ds[i]? = some d ∧ Rp K S.H S.Λ x d) : ItOk K S0 J ds g :=
  ⟨_, _, w, fun _ _ _ _ => trivial, fun S i x H' e k _ hi q => by
    obtain ⟨rfl, q⟩ := q
    obtain ⟨d, h1, h2⟩ := hr S i x q
    exact ⟨S, d, rfl, rfl, .refl _, k, h1, h2⟩⟩
theorem di_str (ha : DE X K ta a da) : DI X K (fun W => iStr (ta W)) tge a (diStr da) := by
  refine ⟨fun W t => pi_str (ha.pe W t), fun W ew S σ ρ R k I RR h => ?_⟩
  refine ha.sim W ew S σ ρ _ _ I (fun S1 v x e1 k1 r1 h1 => ?_) h
  obtain ⟨z, rfl, h1⟩ := h1
  cases r1
  refine ⟨z, rfl, RR S1 _ _ _ e1 k1 (it_pure (f := fun i => (z.cps[i]?).map fun c => V.str ⟨#[c]⟩) ?_ ?_) h1⟩
  · have e : (z.cps.toList.map fun c => D.str ⟨#[c]⟩).length = z.cps.size := by simp
    rw [e]
    refine walk_str.mono (fun _ h => h) fun i H x H' _ _ q => ⟨q.1, ?_⟩
    obtain ⟨c, hc, rfl⟩ := q.2
    rw [hc]; rfl
  · intro S i x hx
    cases hc : z.cps[i]? with
    | none => rw [hc] at hx; cases hx
    | some c =>
      rw [hc] at hx
      cases hx
      refine ⟨.str ⟨#[c]⟩, ?_, .str _⟩
      rw [List.getElem?_map, Array.getElem?_toList, hc]; rfl
theorem di_rng1 {q : Pos} (hg : Gl X "range") (hm : X.mg "range" = none) (ha : DA X K tr [a] dr) (hs : starEach [a] X.env = [(false, eval a X.env)] := by rfl) : DI X K (fun W => iRng1 (tr W)) tge (.Call (.Name "range" q) [a] [] pos) (diRng1 dr) := by
  refine ⟨fun W t => pi_range1 hg hm (ha.pa W t) hs, fun W ew S σ ρ R k I RR h => ?_⟩
  refine ha.sim W ew S σ ρ _ _ I (fun S1 vs xs e1 k1 r1 h1 => ?_) h
  obtain ⟨j, rfl, b1, b2, h1⟩ := h1
  obtain ⟨v, rfl, r2⟩ := vals1R r1
  cases r2
  refine ⟨j, rfl, b1, b2, RR S1 _ _ _ e1 k1 (it_pure (f := fun i => if i < j.toNat then some (V.int (i : Nat)) else none) ?_ ?_) h1⟩
  · have e : ((List.range j.toNat).map fun i => D.int (i : Nat)).length = j.toNat := by simp
    rw [e]
    refine (walk_range (lo := 0)).mono (fun _ h => h) fun i H x H' hi _ q => ⟨q.1, ?_⟩
    rw [if_pos hi, q.2]
    show some (V.int (i : Nat)) = some (V.int (0 + (i : Int)))
    rw [Int.zero_add]
  · intro S i x hx
    by_cases hi : i < j.toNat
    · rw [if_pos hi] at hx
      cases hx
      exact ⟨.int (i : Nat), by rw [List.getElem?_map, List.getElem?_range hi]; rfl, .int _⟩
    · rw [if_neg hi] at hx; cases hx
theorem di_rng2 {q : Pos} (hg : Gl X "range") (hm : X.mg "range" = none) (ha : DA X K tr [a, b] dr) (hs : starEach [a, b] X.env = [(false, eval a X.env), (false, eval b X.env)] := by rfl) (hs2 : starEach [b] X.env = [(false, eval b X.env)] := by rfl) : DI X K (fun W => iRng2 (tr W)) tge (.Call (.Name "range" q) [a, b] [] pos) (diRng2 dr) := by
  refine ⟨fun W t => pi_range2 hg hm (ha.pa W t) hs hs2, fun W ew S σ ρ R k I RR h => ?_⟩
  refine ha.sim W ew S σ ρ _ _ I (fun S1 vs xs e1 k1 r1 h1 => ?_) h
  obtain ⟨i0, j, rfl, b1, h1⟩ := h1
  obtain ⟨v, w, rfl, r3, r2⟩ := vals2R r1
  cases r3; cases r2
  refine ⟨i0, j, rfl, b1, RR S1 _ _ _ e1 k1 (it_pure (f := fun i => if i < (j - i0).toNat then some (V.int (i0 + (i : Nat))) else none) ?_ ?_) h1⟩
  · have e : ((List.range (j - i0).toNat).map fun m => D.int (i0 + (m : Nat))).length = (j - i0).toNat := by simp
    rw [e]
    refine (walk_range (lo := i0)).mono (fun _ h => h) fun i H x H' hi _ q => ⟨q.1, ?_⟩
    rw [if_pos hi, q.2]
  · intro S i x hx
    by_cases hi : i < (j - i0).toNat
    · rw [if_pos hi] at hx
      cases hx
      exact ⟨.int (i0 + (i : Nat)), by rw [List.getElem?_map, List.getElem?_range hi]; rfl, .int _⟩
    · rw [if_neg hi] at hx; cases hx
theorem di_rev {q : Pos} (hK : X.K = K) (hg : Gl X "reversed") (hm : X.mg "reversed" = none) (ha : DA X K tr [a] dr) (hs : starEach [a] X.env = [(false, eval a X.env)] := by rfl) : DI X K (fun W => iRev K (tr W)) tge (.Call (.Name "reversed" q) [a] [] pos) (diRev dr) := by
  subst hK
  refine ⟨fun W t => pi_reversed hg hm (ha.pa W t) hs, fun W ew S σ ρ R k I RR h => ?_⟩
  refine ha.sim W ew S σ ρ _ _ I (fun S1 vs xs e1 k1 r1 h1 => ?_) h
  obtain ⟨x, ds, rfl, hv, h1⟩ := h1
  obtain ⟨v, rfl, r2⟩ := vals1R r1
  obtain ⟨a, xs, rfl, hs, hr⟩ := vRd_ok k1 r2 hv
  have hl := hr.length
  refine ⟨a, xs, rfl, hs, ?_⟩
  rw [show xs.length = ds.reverse.length by rw [List.length_reverse]; exact hl]
  refine RR S1 _ ds.reverse _ e1 k1 ⟨fun H => ∃ S', S'.H = H ∧ Ev S1 S' ∧ Ok X.K S' ∧ vRd S'.L x = some ds, fun i H y H' => H' = H ∧ ∀ ys, SqL X.K H a ys → ys[ds.reverse.length - 1 - i]? = some y, ⟨fun i H hi g => ?_, fun H g => Nat.le_refl _, fun i H y H' _ _ q => q⟩, fun S' e k g => ⟨S', rfl, e, k, g⟩, fun S' i y H' e k g hi q => ?_⟩ h1
  · obtain ⟨S', rfl, e, k, g⟩ := g
    obtain ⟨b, eb, ys, hs', hr'⟩ := rd_at k1 r2 hv e k g
    cases eb
    have hl' := hr'.length
    have hi' : i < ds.length := by rw [List.length_reverse] at hi; exact hi
    exact ⟨hi, ys, ys[ds.reverse.length - 1 - i]'(by rw [List.length_reverse]; omega), hs', List.getElem?_eq_getElem (by rw [List.length_reverse]; omega)⟩
  · obtain ⟨rfl, q⟩ := q
    obtain ⟨b, eb, ys, hs', hr'⟩ := rd_at k1 r2 hv e k g
    cases eb
    have hi' : i < ds.length := by rw [List.length_reverse] at hi; exact hi
    have q' := q ys hs'
    rw [List.length_reverse] at q'
    obtain ⟨d, hd⟩ : ∃ d, ds[ds.length - 1 - i]? = some d := ⟨ds[ds.length - 1 - i]'(by omega), List.getElem?_eq_getElem (by omega)⟩
    obtain ⟨z, hz, rz⟩ := hr'.get hd
    rw [hz] at q'
    cases q'
    exact ⟨S', d, rfl, rfl, .refl _, k, by rw [List.getElem?_reverse hi']; exact hd, rz⟩
theorem di_enum {q tpos : Pos} {elts : List Expr} {kk : Nat} (hK : X.K = K) (hg : Gl X "enumerate") (hm : X.mg "enumerate" = none) (ha : DA X K tr [a] dr) (hs : starEach [a] X.env = [(false, eval a X.env)] := by rfl) :
    DI X K (fun W => iEnum K (tr W)) (.Tuple elts kk tpos) (.Call (.Name "enumerate" q) [a] [] pos) (diEnum dr) := by
  subst hK
  refine ⟨fun W t => pi_enum hg hm (ha.pa W t) hs, fun W ew S σ ρ R k I RR h => ?_⟩
  refine ha.sim W ew S σ ρ _ _ I (fun S1 vs xs e1 k1 r1 h1 => ?_) h
  obtain ⟨x, ds, rfl, hv, h1⟩ := h1
  obtain ⟨v, rfl, r2⟩ := vals1R r1
  obtain ⟨a, xs, rfl, hs, hr⟩ := vRd_ok k1 r2 hv
  have e : (ds.mapIdx fun i d => D.tup [.int (i : Nat), d]).length = ds.length := List.length_mapIdx
  refine ⟨a, xs, rfl, hs, RR S1 _ _ _ e1 k1 ⟨fun H => ∃ S', S'.H = H ∧ Ev S1 S' ∧ Ok X.K S' ∧ vRd S'.L x = some ds, (Ite X.K a).yld, ⟨fun i H hi g => ?_, fun H g => ?_, fun i H y H' _ _ q => q⟩, fun S' e k g => ⟨S', rfl, e, k, g⟩, fun S' i y H' e' k g hi q => ?_⟩ h1⟩
  · obtain ⟨S', rfl, e', k, g⟩ := g
    obtain ⟨b, eb, ys, hs', hr'⟩ := rd_at k1 r2 hv e' k g
    cases eb
    have hl := hr'.length
    rw [e] at hi
    exact ⟨ys, ys[i]'(by omega), hs', List.getElem?_eq_getElem (by omega)⟩
  · obtain ⟨S', rfl, e', k, g⟩ := g
    obtain ⟨b, eb, ys, hs', hr'⟩ := rd_at k1 r2 hv e' k g
    cases eb
    exact ⟨ys, hs', by rw [e]; exact Nat.le_of_eq hr'.length⟩
  · obtain ⟨T, z, rfl, nT, rfl, q⟩ := q
    obtain ⟨b, eb, ys, hs', hr'⟩ := rd_at k1 r2 hv e' k g
    cases eb
    rw [e] at hi
    obtain ⟨z', hz, rz⟩ := hr'.get (List.getElem?_eq_getElem hi)
    rw [q ys hs'] at hz
    cases hz
    have ev := ev_new (o := .tup [.int (i : Nat), z]) nT k
    refine ⟨S'.new T (.tup [.int (i : Nat), z]), .tup [.int (i : Nat), ds[i]], rfl, rfl, ev, ok_new nT k, ?_, .tup (k.lam nT) upd_same (.cons (.int _) (.cons (rz.ev ev) .nil))⟩
    rw [List.getElem?_mapIdx, List.getElem?_eq_getElem hi]; rfl
theorem di_zip {q tpos : Pos} {elts : List Expr} {kk : Nat} (hK : X.K = K) (hg : Gl X "zip") (hm : X.mg "zip" = none) (ha : DA X K tr [a, b] dr)
    (hs : starEach [a, b] X.env = (false, eval a X.env) :: starEach [b] X.env := by rfl) (hpl : (backTo pos (starEach [b] X.env)).any (·.1) = false := by rfl) :
    DI X K (fun W => iZip K (tr W)) (.Tuple elts kk tpos) (.Call (.Name "zip" q) [a, b] [] pos) (diZip dr) := by
  subst hK
  refine ⟨fun W t => pi_zip hg hm (ha.pa W t) hs hpl, fun W ew S σ ρ R k I RR h => ?_⟩
  refine ha.sim W ew S σ ρ _ _ I (fun S1 vs xs e1 k1 r1 h1 => ?_) h
  obtain ⟨x, y, ds, es, rfl, hv, hw, h1⟩ := h1
  obtain ⟨v, w, rfl, r2, r3⟩ := vals2R r1
  obtain ⟨a, xs, rfl, hs, hr⟩ := vRd_ok k1 r2 hv
  obtain ⟨b, ys, rfl, hs2, hr2⟩ := vRd_ok k1 r3 hw
  have e : (List.zipWith (fun d e => D.tup [d, e]) ds es).length = min ds.length es.length := List.length_zipWith
  refine ⟨a, b, xs, ys, rfl, hs, hs2, RR S1 _ _ _ e1 k1 ⟨fun H => ∃ S', S'.H = H ∧ Ev S1 S' ∧ Ok X.K S' ∧ vRd S'.L x = some ds ∧ vRd S'.L y = some es, (Itz X.K a b).yld, ⟨fun i H hi g => ?_, fun H g => ?_, fun i H y H' _ _ q => q⟩, fun S' e k g => ⟨S', rfl, e, k, g⟩, fun S' i z H' e' k g hi q => ?_⟩ h1⟩
  · obtain ⟨S', rfl, e', k, g⟩ := g
    obtain ⟨_, eb, us, hs', hr'⟩ := rd_at k1 r2 hv e' k g.1
    cases eb
    obtain ⟨_, eb, ws, hs2', hr2'⟩ := rd_at k1 r3 hw e' k g.2
    cases eb
    have l1 := hr'.length
    have l2 := hr2'.length
    rw [e] at hi
    exact ⟨us, ws, us[i]'(by omega), ws[i]'(by omega), hs', hs2', List.getElem?_eq_getElem (by omega), List.getElem?_eq_getElem (by omega)⟩
  · obtain ⟨S', rfl, e', k, g⟩ := g
    obtain ⟨_, eb, us, hs', hr'⟩ := rd_at k1 r2 hv e' k g.1
    cases eb
    obtain ⟨_, eb, ws, hs2', hr2'⟩ := rd_at k1 r3 hw e' k g.2
    cases eb
    have l1 := hr'.length
    have l2 := hr2'.length
    exact ⟨us, ws, hs', hs2', by rw [e]; omega⟩
  · obtain ⟨T, z1, z2, rfl, nT, rfl, q1, q2⟩ := q
    obtain ⟨_, eb, us, hs', hr'⟩ := rd_at k1 r2 hv e' k g.1
    cases eb
    obtain ⟨_, eb, ws, hs2', hr2'⟩ := rd_at k1 r3 hw e' k g.2
    cases eb
    rw [e] at hi
    have i1 : i < ds.length := by omega
    have i2 : i < es.length := by omega
    obtain ⟨z1', hz1, rz1⟩ := hr'.get (List.getElem?_eq_getElem i1)
    obtain ⟨z2', hz2, rz2⟩ := hr2'.get (List.getElem?_eq_getElem i2)
    rw [q1 us hs'] at hz1
    rw [q2 ws hs2'] at hz2
    cases hz1; cases hz2
    have ev := ev_new (o := .tup [z1, z2]) nT k
    refine ⟨S'.new T (.tup [z1, z2]), .tup [ds[i], es[i]], rfl, rfl, ev, ok_new nT k, ?_, .tup (k.lam nT) upd_same (.cons (rz1.ev ev) (.cons (rz2.ev ev) .nil))⟩
    rw [List.getElem?_zipWith, List.getElem?_eq_getElem i1, List.getElem?_eq_getElem i2]
end
end Ed

set_option Elab.async false
set_option linter.all false
set_option maxRecDepth 100000
set_option maxHeartbeats 2000000
/-! for, comprehensions, while. -/
namespace Ed
open PySem PySem.Spec PyProof.Rows L2 Dz
def forD (g : D → Dv → Lc → (Dv → Lc → Prop) → Prop) (tb : DEnds → Dv → Lc → Prop) (G : Lc → Prop) (E : DEnds) : List D → Dv → Lc → Prop
  | [], ρ, L => G L ∧ E.nx ρ L
  | d :: ds, ρ, L => G L ∧ g d ρ L fun ρ1 L1 => tb ⟨forD g tb G E ds, E.rt, E.nx, forD g tb G E ds⟩ ρ1 L1
theorem forD.head {g : D → Dv → Lc → (Dv → Lc → Prop) → Prop} {tb : DEnds → Dv → Lc → Prop} {G : Lc → Prop} {E : DEnds} {ds : List D} {ρ : Dv} {L : Lc} (h : forD g tb G E ds ρ L) : G L := by
  cases ds <;> exact h.1
def dFor (di : DTI) (g : DTG) (tb : DTS) : DTS := fun w D ρ L => di w ρ L fun ds G L1 => forD (g w) (tb w) G D ds ρ L1
def lcD (g : D → Dv → Lc → (Dv → Lc → Prop) → Prop) (tt : Dv → Lc → (Bool → Lc → Prop) → Prop) (te : Dv → Lc → DQ → Prop) (G : Lc → Prop) (ρ : Dv) (q : List D → Lc → Prop) : List D → List D → Lc → Prop
  | [], acc, L => G L ∧ q acc L
  | d :: ds, acc, L => G L ∧ g d ρ L fun ρ2 L2 => tt ρ2 L2 fun b L3 => if b = true then te ρ2 L3 fun y L4 => acc.length < sizeLine ∧ lcD g tt te G ρ q ds (acc ++ [y]) L4 else lcD g tt te G ρ q ds acc L3
theorem lcD.head {g : D → Dv → Lc → (Dv → Lc → Prop) → Prop} {tt : Dv → Lc → (Bool → Lc → Prop) → Prop} {te : Dv → Lc → DQ → Prop} {G : Lc → Prop} {ρ : Dv} {q : List D → Lc → Prop} {ds acc : List D} {L : Lc} (h : lcD g tt te G ρ q ds acc L) : G L := by
  cases ds <;> exact h.1
def noW : EW := fun _ _ _ _ => False
def dLc (di : DTI) (g : DTG) (tt : DTT) (te : DTE) (vs : List Nat) : DTE := fun w ρ L q => di w ρ L fun ds G L1 => lcD (g noW) (tt noW) (te noW) G (dwipe ρ vs) (fun acc L2 => q (.lst acc) L2) ds [] L1
/-- .. whose list may change -/
def dLcC (di : DTI) (g : DTG) (tt : DTT) (te : DTE) (vs : List Nat) : DTE := fun w ρ L q => di w ρ L fun ds G L1 => lcD (g noW) (tt noW) (te noW) G (dwipe ρ vs) (fun acc L2 => ∀ p, L2 p = none → q (.ref p) (updL L2 p (.lst acc))) ds [] L1
def dYes : DTT := fun _ _ L q => q true L
section
variable {X : Cx} {K : PySem.W.Frag}
structure DPs (X : Cx) (K : PySem.W.Frag) (tt : WX → TT) (es : List Expr) (dt : DTT) : Prop where
  pt : ∀ W, Takes X W → PTs X es (tt W)
  sim : SimT K tt dt
theorem dps_nil : DPs X K (fun _ => tYes) [] dYes := ⟨fun _ _ => pts_nil, fun W ew S σ ρ Q q I R h => R S true (.refl S) I.ok h⟩
theorem dps_one {c : Expr} {tt : WX → TT} {dt : DTT} (h : DT X K tt c dt) : DPs X K tt [c] dt := ⟨fun W t => pts_one (h.pt W t), h.sim⟩
/-- the target's names are the block's own -/
def GW (tg : WX → TG) (vs : List Nat) : Prop := ∀ W v σ H (N : L2.St → Hp → Prop), tg W v (wipe σ vs) H N → tg W v (wipe σ vs) H fun σ2 H2 => wipe σ2 vs = wipe σ vs ∧ N σ2 H2
theorem wipe_get (σ : L2.St) (k : Nat) : ∀ vs : List Nat, (wipe σ vs)[k]? = if k ∈ vs then (if k < σ.length then some none else none) else σ[k]?
  | [] => by simp [wipe]
  | v :: vs => by
    have ih := wipe_get σ k vs
    have hl := wipe_length σ vs
    unfold wipe
    by_cases e : v = k
    · subst e
      rw [if_pos List.mem_cons_self]
      by_cases h : v < σ.length
      · rw [if_pos h, List.getElem?_set_self (by omega)]
      · rw [if_neg h, List.getElem?_eq_none (by rw [List.length_set]; omega)]
    · rw [List.getElem?_set_ne e, ih]
      have : (k ∈ v :: vs) ↔ k ∈ vs := ⟨fun h => (List.mem_cons.mp h).elim (fun z => absurd z.symm e) id, List.mem_cons_of_mem _⟩
      simp only [this]
theorem wipe_ext {σ τ : L2.St} {vs : List Nat} (hl : σ.length = τ.length) (h : ∀ k, k ∉ vs → σ[k]? = τ[k]?) : wipe σ vs = wipe τ vs := by
  apply List.ext_getElem?
  intro k
  rw [wipe_get, wipe_get, hl]
  by_cases e : k ∈ vs
  · rw [if_pos e, if_pos e]
  · rw [if_neg e, if_neg e, h k e]
theorem wipe_sets {σ : L2.St} {vs : List Nat} : ∀ (ps : List (Nat × Option V)), (∀ p ∈ ps, p.1 ∈ vs) → wipe (ps.foldl (fun s p => s.set p.1 p.2) (wipe σ vs)) vs = wipe σ vs := fun ps hp => by
  have key : ∀ (ps : List (Nat × Option V)) (τ : L2.St), (∀ p ∈ ps, p.1 ∈ vs) → τ.length = σ.length → (∀ k, k ∉ vs → τ[k]? = σ[k]?) → wipe (ps.foldl (fun s p => s.set p.1 p.2) τ) vs = wipe σ vs := by
    intro ps
    induction ps with
    | nil => exact fun τ _ hl h => wipe_ext hl h
    | cons p ps ih =>
      intro τ hp hl h
      refine ih (τ.set p.1 p.2) (fun q hq => hp q (List.mem_cons_of_mem _ hq)) (by rw [List.length_set]; exact hl) fun k hk => ?_
      rw [List.getElem?_set_ne (fun z => hk (by rw [← z]; exact hp p List.mem_cons_self))]
      exact h k hk
  refine key ps _ hp (wipe_length σ vs) fun k hk => ?_
  rw [wipe_get, if_neg hk]
theorem gw1 {i : Nat} : GW (fun _ => gName i) [i] := fun W v σ H N h => ⟨wipe_sets [(i, some v)] (by simp), h⟩
theorem gw2 {i j n : Nat} : GW (fun _ => gTup K n (gCons (gName i) (gCons (gName j) gNil))) [i, j] := fun W v σ H N h => by
  obtain ⟨a, xs, rfl, h1, h2, v1, r1, e1, v2, r2, e2, e3, h⟩ := h
  exact ⟨a, xs, rfl, h1, h2, v1, r1, e1, v2, r2, e2, e3, wipe_sets [(i, some v1), (j, some v2)] (by simp), h⟩
theorem gw3 {i j l n : Nat} : GW (fun _ => gTup K n (gCons (gName i) (gCons (gName j) (gCons (gName l) gNil)))) [i, j, l] := fun W v σ H N h => by
  obtain ⟨a, xs, rfl, h1, h2, v1, r1, e1, v2, r2, e2, v3, r3, e3, e4, h⟩ := h
  exact ⟨a, xs, rfl, h1, h2, v1, r1, e1, v2, r2, e2, v3, r3, e3, e4, wipe_sets [(i, some v1), (j, some v2), (l, some v3)] (by simp), h⟩
/-- .. at one state -/
def SimI1 (K : PySem.W.Frag) (wi : WX → TI) (di : DTI) (W : WX) (ew : EW) (S : Sta) (σ : L2.St) (ρ : Dv) : Prop := ∀ (R : It → Hp → Prop) (k : List D → (Lc → Prop) → Lc → Prop), (∀ S' J ds g, Ev S S' → Ok K S' → ItOk K S' J ds g → k ds g S'.L → R J S'.H) → di ew ρ S.L k → wi W σ S.H R
theorem for_sim1 {wi : WX → TI} {di : DTI} {tg : WX → TG} {dg : DTG} {tb : WX → TS} {db : DTS} (hg : SimG K tg dg) (hb : SimS K tb db) (W : WX) (ew : EW) (S : Sta) (σ : L2.St) (ρ : Dv) (D : Ends) (d : DEnds) (I : In K W ew S σ ρ) (R : RelD K S D d) (hi : SimI1 K wi di W ew S σ ρ)
    (h : di ew ρ S.L fun ds G L1 => forD (dg ew) (db ew) G d ds ρ L1) : tFor (wi W) (tg W) (tb W) D σ S.H := by
  refine hi _ _ (fun S1 J ds G e1 k1 it h1 => ?_) h
  obtain ⟨Gd, Y, w, hG, hY⟩ := it.ex
  refine for_it w (fun i σ H => ∃ S2 ρ2, S2.H = H ∧ Ev S1 S2 ∧ Ok K S2 ∧ RelS K S2 σ ρ2 ∧ forD (dg ew) (db ew) G d (ds.drop i) ρ2 S2.L) ⟨S1, ρ, rfl, .refl S1, k1, I.sl.ev e1, h1⟩ (fun i σ H hi p => ?_) (fun i x σ H H' hi p y => ?_) fun σ H p => ?_
  · obtain ⟨S2, ρ2, rfl, e2, k2, s2, h2⟩ := p
    exact hG S2 e2 k2 h2.head
  · obtain ⟨S2, ρ2, rfl, e2, k2, s2, h2⟩ := p
    obtain ⟨S3, dd, rfl, eL, e3, k3, hd, rd⟩ := hY S2 i x H' e2 k2 h2.head hi y
    rw [List.drop_eq_getElem_cons hi] at h2
    rw [List.getElem?_eq_getElem hi] at hd
    cases hd
    have e13 := e1.trans (e2.trans e3)
    have h3 := h2.2
    rw [← eL] at h3
    refine hg W ew S3 σ ρ2 x _ _ _ ⟨k3, s2.ev e3, I.wi.ev e13⟩ rd (fun S4 σ4 ρ4 e4 k4 s4 h4 => ?_) h3
    refine hb W ew S4 σ4 ρ4 _ ⟨forD (dg ew) (db ew) G d (ds.drop (i + 1)), d.rt, d.nx, forD (dg ew) (db ew) G d (ds.drop (i + 1))⟩ ⟨k4, s4, I.wi.ev (e13.trans e4)⟩ ⟨fun S5 σ5 ρ5 e5 k5 s5 h5 => ?_, R.rt.ev (e13.trans e4), R.nx.ev (e13.trans e4), fun S5 σ5 ρ5 e5 k5 s5 h5 => ?_⟩ h4
    · exact ⟨S5, ρ5, rfl, ((e2.trans e3).trans e4).trans e5, k5, s5, h5⟩
    · exact ⟨S5, ρ5, rfl, ((e2.trans e3).trans e4).trans e5, k5, s5, h5⟩
  · obtain ⟨S2, ρ2, rfl, e2, k2, s2, h2⟩ := p
    rw [List.drop_length] at h2
    exact R.nx S2 σ ρ2 (e1.trans e2) k2 s2 h2.2
theorem ds_for {tge iter : Expr} {body : List Stmt} {wi : WX → TI} {di : DTI} {tg : WX → TG} {dg : DTG} {tb : WX → TS} {db : DTS} {pos : Pos} (hp : PassesOwn (model X.prog X.w) X.A X.env X.xe) (hc : X.calm = true) (hi : DI X K wi tge iter di) (hg : DG X K tg tge dg) (hb : DSs X K tb body db)
    (hs : ∀ x, foldedSetIterable iter X.env x = pure x := by intro _; rfl) : DS X K (fun W => tFor (wi W) (tg W) (tb W)) (.For tge iter body [] pos) (dFor di dg db) := by
  exact ⟨fun W t => ps_for hp hc (hi.pi W t) (hg.pg W t) (hb.ps W t) hs, fun W ew S σ ρ D d I R h => for_sim1 hg.sim hb.sim W ew S σ ρ D d I R (fun R k => hi.sim W ew S σ ρ R k I) h⟩
/-- a cell that wasn't known is -/
theorem Ok.known {S : Sta} {p : Addr} {xs : List V} {acc : List D} (k : Ok K S) (q1 : S.Λ p) (h : S.H p = some (.lst xs)) (r : RpL K S.H S.Λ xs acc) : Ok K ⟨S.H, updL S.L p (.lst acc), S.Λ⟩ := by
  refine ⟨fun b c hb => ?_, k.there⟩
  by_cases z : b = p
  · rw [z]
    rw [z, show (⟨S.H, updL S.L p (.lst acc), S.Λ⟩ : Sta).L p = some (.lst acc) from updL_same] at hb
    cases hb
    exact ⟨q1, xs, h, r⟩
  · rw [show (⟨S.H, updL S.L p (.lst acc), S.Λ⟩ : Sta).L b = S.L b from updL_ne z] at hb
    exact k.cell b c hb
theorem lc_sim {wi : WX → TI} {di : DTI} {tg : WX → TG} {dg : DTG} {tt : WX → TT} {dt : DTT} {te : WX → TE} {de : DTE} {vs : List Nat} (hg : SimG K tg dg) (hw : GW tg vs) (ht : SimT K tt dt) (he : SimE K te de) (W : WX) (ew : EW) (S : Sta) (σ : L2.St) (ρ : Dv) (Q : VK) (q : List D → Lc → Prop)
    (I : In K W ew S σ ρ) (hi : SimI1 K wi di W ew S σ ρ) (R : ∀ S' p acc xs, Ev S S' → Ok K S' → (∀ a, S.Λ a → S.L a = none → a ≠ p) → S'.Λ p → S'.L p = none → S'.H p = some (.lst xs) → RpL K S'.H S'.Λ xs acc → q acc S'.L → Q (.ref p) S'.H)
    (h : di ew ρ S.L fun ds G L1 => lcD (dg noW) (dt noW) (de noW) G (dwipe ρ vs) q ds [] L1) : tLc (wi W) (tg fun _ _ _ _ => False) (tt fun _ _ _ _ => False) (te fun _ _ _ _ => False) vs σ S.H Q := by
  refine hi _ _ (fun S1 J ds G e1 k1 it h1 => ?_) h
  obtain ⟨Gd, Y, w, hG, hY⟩ := it.ex
  intro p np
  have pl : S1.L p = none := k1.lno np
  have wN : ∀ S', RelW K S' (fun _ _ _ _ => False) noW := fun S' T C dd fs gs σ ρ _ _ _ _ _ _ _ z => z.elim
  -- p: the new list's address
  refine lc_it w (fun i H => ∃ S2 acc xs, S2.H = H ∧ Ev S1 S2 ∧ Ok K S2 ∧ S2.Λ p ∧ S2.L p = none ∧ S2.H p = some (.lst xs) ∧ RpL K S2.H S2.Λ xs acc ∧ lcD (dg noW) (dt noW) (de noW) G (dwipe ρ vs) q (ds.drop i) acc S2.L) ?_ (fun i H hi p => ?_) (fun i x H H' hi p y => ?_) fun H p => ?_
  · have a1 := ev_newc (o := .lst []) (c := .lst []) np k1
    have a2 := ok_newc (K := K) (o := .lst []) (c := .lst []) np k1 ⟨[], upd_same, .nil⟩
    have fewer : ∀ a c, S1.L a = some c → (S1.newc p (.lst []) (.lst [])).L a = some c := fun a c e => by
      have : a ≠ p := fun z => by rw [z, pl] at e; cases e
      exact (updL_ne this).trans e
    exact ⟨(S1.newc p (.lst []) (.lst [])).gone S1.L, [], [], rfl, a1.trans (ev_gone fewer), ok_gone fewer a2, .inl rfl, pl, upd_same, .nil, h1⟩
  · obtain ⟨S2, acc, xs, rfl, e2, k2, _, _, _, _, h2⟩ := p
    exact hG S2 e2 k2 h2.head
  · obtain ⟨S2, acc, xs, rfl, e2, k2, p1, p2, p3, p4, h2⟩ := p
    obtain ⟨S3, dd, rfl, eL, e3, k3, hd, rd⟩ := hY S2 i x H' e2 k2 h2.head hi y
    rw [List.drop_eq_getElem_cons hi] at h2
    rw [List.getElem?_eq_getElem hi] at hd
    cases hd
    have h3 := h2.2
    rw [← eL] at h3
    have e13 := e2.trans e3
    refine hw _ x σ S3.H _ ?_
    refine hg _ noW S3 _ _ x _ _ _ ⟨k3, ((I.sl.ev e1).ev e13).wipe, wN S3⟩ rd (fun S4 σ4 ρ4 e4 k4 s4 h4 => ?_) h3
    refine ht _ noW S4 σ4 ρ4 _ _ ⟨k4, s4, wN S4⟩ (fun S5 b e5 k5 h5 => ?_) h4
    have e25 := (e3.trans e4).trans e5
    obtain ⟨p3', p1', p2'⟩ := e25.hid p p1 p2
    cases b with
    | false => exact ⟨S5, acc, xs, rfl, e2.trans e25, k5, p1', p2', p3'.trans p3, p4.ev e25, h5⟩
    | true =>
      refine he _ noW S5 σ4 ρ4 _ _ ⟨k5, s4.ev e5, wN S5⟩ (fun S6 v y e6 k6 r6 h6 => ?_) h5
      have e26 := e25.trans e6
      obtain ⟨q3, q1, q2⟩ := e26.hid p p1 p2
      have la := p4.length
      refine ⟨xs, q3.trans p3, by rw [la]; exact h6.1, ?_⟩
      -- p as a known cell, changed, and forgotten again
      have known : Ok K ⟨S6.H, updL S6.L p (.lst acc), S6.Λ⟩ := by
        refine ⟨fun b c hb => ?_, k6.there⟩
        by_cases z : b = p
        · rw [z]
          rw [z, show (⟨S6.H, updL S6.L p (.lst acc), S6.Λ⟩ : Sta).L p = some (.lst acc) from updL_same] at hb
          cases hb
          exact ⟨q1, xs, q3.trans p3, p4.ev e26⟩
        · rw [show (⟨S6.H, updL S6.L p (.lst acc), S6.Λ⟩ : Sta).L b = S6.L b from updL_ne z] at hb
          exact k6.cell b c hb
      have z0 : (⟨S6.H, updL S6.L p (.lst acc), S6.Λ⟩ : Sta).L p = some (.lst acc) := updL_same
      have b1 := ev_put (o := .lst (xs ++ [v])) (c := .lst (acc ++ [y])) z0 known
      have rr : RpL K S6.H S6.Λ (xs ++ [v]) (acc ++ [y]) := (p4.ev e26).append (.cons r6 .nil)
      have rr' := RpL.ev (S := ⟨S6.H, updL S6.L p (.lst acc), S6.Λ⟩) b1 rr
      have b2 := ok_put (K := K) (o := .lst (xs ++ [v])) (c := .lst (acc ++ [y])) z0 known ⟨_, upd_same, rr'⟩
      have fewer : ∀ a c, S6.L a = some c → ((⟨S6.H, updL S6.L p (.lst acc), S6.Λ⟩ : Sta).put p (.lst (xs ++ [v])) (.lst (acc ++ [y]))).L a = some c := fun a c e => by
        have : a ≠ p := fun z => by rw [z, q2] at e; cases e
        exact (updL_ne this).trans ((updL_ne this).trans e)
      have st : Ev S1 ⟨S6.H, updL S6.L p (.lst acc), S6.Λ⟩ := by
        have e16 := e2.trans e26
        refine ⟨e16.stay, fun a h n => ?_⟩
        obtain ⟨z1, z2, z3⟩ := e16.hid a h n
        refine ⟨z1, z2, ?_⟩
        have : a ≠ p := fun z => by rw [z] at h; exact k1.lam np h
        exact (updL_ne this).trans z3
      exact ⟨((⟨S6.H, updL S6.L p (.lst acc), S6.Λ⟩ : Sta).put p (.lst (xs ++ [v])) (.lst (acc ++ [y]))).gone S6.L, acc ++ [y], xs ++ [v], rfl, (st.trans b1).trans (ev_gone fewer), ok_gone fewer b2, q1, q2, upd_same, rr', h6.2⟩
  · obtain ⟨S2, acc, xs, rfl, e2, k2, p1, p2, p3, p4, h2⟩ := p
    rw [List.drop_length] at h2
    exact R S2 p acc xs (e1.trans e2) k2 (fun a h n z => k1.lam (p := a) (by rw [z]; exact np) (e1.hid a h n).2.1) p1 p2 p3 p4 h2.2
theorem sim_lc1 {wi : WX → TI} {di : DTI} {tg : WX → TG} {dg : DTG} {tt : WX → TT} {dt : DTT} {te : WX → TE} {de : DTE} {vs : List Nat} (hg : SimG K tg dg) (hw : GW tg vs) (ht : SimT K tt dt) (he : SimE K te de) (W : WX) (ew : EW) (S : Sta) (σ : L2.St) (ρ : Dv) (Q : VK) (q : DQ) (I : In K W ew S σ ρ) (R : RelQ K S Q q) (hi : SimI1 K wi di W ew S σ ρ) (h : dLc di dg dt de vs ew ρ S.L q) : tLc (wi W) (tg fun _ _ _ _ => False) (tt fun _ _ _ _ => False) (te fun _ _ _ _ => False) vs σ S.H Q :=
  lc_sim hg hw ht he W ew S σ ρ Q _ I hi (fun S' p acc xs e k pn p1 p2 p3 r qq => by
    have st : Ev S ⟨S'.H, S'.L, fun b => S'.Λ b ∧ b ≠ p⟩ := ⟨fun b u h n => by
      obtain ⟨z1, z2⟩ := e.stay b u h n
      exact ⟨fun z => z1 z.1, z2⟩, fun b h n => by
      obtain ⟨z1, z2, z3⟩ := e.hid b h n
      exact ⟨z1, ⟨z2, pn b h n⟩, z3⟩⟩
    have known : Ok K ⟨S'.H, updL S'.L p (.lst acc), S'.Λ⟩ := k.known p1 p3 r
    have z0 : (⟨S'.H, updL S'.L p (.lst acc), S'.Λ⟩ : Sta).L p = some (.lst acc) := updL_same
    have fz := ok_fz z0 known
    have r' := RpL.ev (S := ⟨S'.H, updL S'.L p (.lst acc), S'.Λ⟩) (ev_fz z0) r
    have eL : (Sta.fz ⟨S'.H, updL S'.L p (.lst acc), S'.Λ⟩ p) = ⟨S'.H, S'.L, fun b => S'.Λ b ∧ b ≠ p⟩ := by
      unfold Sta.fz
      rw [delL_updL p2]
    rw [eL] at fz r'
    exact R ⟨S'.H, S'.L, fun b => S'.Λ b ∧ b ≠ p⟩ _ _ st fz (.lst (fun z => z.2 rfl) p3 r') qq) h
theorem sim_lc {wi : WX → TI} {di : DTI} {tg : WX → TG} {dg : DTG} {tt : WX → TT} {dt : DTT} {te : WX → TE} {de : DTE} {vs : List Nat} (hi : SimI K wi di) (hg : SimG K tg dg) (hw : GW tg vs) (ht : SimT K tt dt) (he : SimE K te de) :
    SimE K (fun W => tLc (wi W) (tg fun _ _ _ _ => False) (tt fun _ _ _ _ => False) (te fun _ _ _ _ => False) vs) (dLc di dg dt de vs) := fun W ew S σ ρ Q q I R h => sim_lc1 hg hw ht he W ew S σ ρ Q q I R (fun R k => hi W ew S σ ρ R k I) h
theorem sim_lcC1 {wi : WX → TI} {di : DTI} {tg : WX → TG} {dg : DTG} {tt : WX → TT} {dt : DTT} {te : WX → TE} {de : DTE} {vs : List Nat} (hg : SimG K tg dg) (hw : GW tg vs) (ht : SimT K tt dt) (he : SimE K te de) (W : WX) (ew : EW) (S : Sta) (σ : L2.St) (ρ : Dv) (Q : VK) (q : DQ) (I : In K W ew S σ ρ) (R : RelQ K S Q q) (hi : SimI1 K wi di W ew S σ ρ) (h : dLcC di dg dt de vs ew ρ S.L q) : tLc (wi W) (tg fun _ _ _ _ => False) (tt fun _ _ _ _ => False) (te fun _ _ _ _ => False) vs σ S.H Q :=
  lc_sim hg hw ht he W ew S σ ρ Q _ I hi (fun S' p acc xs e k pn p1 p2 p3 r qq => by
    have st : Ev S ⟨S'.H, updL S'.L p (.lst acc), S'.Λ⟩ := ⟨e.stay, fun b h n => by
      obtain ⟨z1, z2, z3⟩ := e.hid b h n
      exact ⟨z1, z2, (updL_ne (pn b h n)).trans z3⟩⟩
    exact R ⟨S'.H, updL S'.L p (.lst acc), S'.Λ⟩ _ _ st (k.known p1 p3 r) (.ref p) (qq p p2)) h
theorem sim_lcC {wi : WX → TI} {di : DTI} {tg : WX → TG} {dg : DTG} {tt : WX → TT} {dt : DTT} {te : WX → TE} {de : DTE} {vs : List Nat} (hi : SimI K wi di) (hg : SimG K tg dg) (hw : GW tg vs) (ht : SimT K tt dt) (he : SimE K te de) :
    SimE K (fun W => tLc (wi W) (tg fun _ _ _ _ => False) (tt fun _ _ _ _ => False) (te fun _ _ _ _ => False) vs) (dLcC di dg dt de vs) := fun W ew S σ ρ Q q I R h => sim_lcC1 hg hw ht he W ew S σ ρ Q q I R (fun R k => hi W ew S σ ρ R k I) h
variable {elt tge iter : Expr} {ifs : List Expr} {scope : Scope} {own : List (Str × Nat)} {pos spos py : Pos} {wi : WX → TI} {di : DTI} {tg : WX → TG} {dg : DTG} {tt : WX → TT} {dt : DTT} {te : WX → TE} {de : DTE} {vs : List Nat}
abbrev Blk (X : Cx) (scope : Scope) (P : Cx → Prop) : Prop := ∀ (s : Shared) (H : Hp) (C : Addr) (cl : List (Str × Addr)) (fp : List Addr), P (X.blk s H scope (compEnvC scope cl C X.env) fp)
theorem d_lc (hc : X.calm = true) (hN : X.N.Nodup) (hi : DI X K wi tge iter di) (ok : BlkOk X.N X.env.scope scope own) (hg : Blk X scope fun Y => DG Y K tg tge dg) (hw : GW tg (own.map (·.2))) (ht : Blk X scope fun Y => DPs Y K tt ifs dt) (he : Blk X scope fun Y => DE Y K te elt de)
    (hs : ∀ x, foldedSetIterable iter X.env x = pure x := by intro _; rfl) :
    DE X K (fun W => tLc (wi W) (tg fun _ _ _ _ => False) (tt fun _ _ _ _ => False) (te fun _ _ _ _ => False) (own.map (·.2))) (.ListComp elt [⟨tge, iter, ifs, 0⟩] scope pos) (dLc di dg dt de (own.map (·.2))) :=
  ⟨fun W t => pe_lc hc hN (hi.pi W t) ok (fun s H C cl fp => (hg s H C cl fp).pg _ takes0) (fun s H C cl fp => (ht s H C cl fp).pt _ takes0) (fun s H C cl fp => (he s H C cl fp).pe _ takes0) hs,
    sim_lc hi.sim (hg {} (fun _ => none) 0 [] []).sim hw (ht {} (fun _ => none) 0 [] []).sim (he {} (fun _ => none) 0 [] []).sim⟩
theorem d_lcC (hc : X.calm = true) (hN : X.N.Nodup) (hi : DI X K wi tge iter di) (ok : BlkOk X.N X.env.scope scope own) (hg : Blk X scope fun Y => DG Y K tg tge dg) (hw : GW tg (own.map (·.2))) (ht : Blk X scope fun Y => DPs Y K tt ifs dt) (he : Blk X scope fun Y => DE Y K te elt de)
    (hs : ∀ x, foldedSetIterable iter X.env x = pure x := by intro _; rfl) :
    DE X K (fun W => tLc (wi W) (tg fun _ _ _ _ => False) (tt fun _ _ _ _ => False) (te fun _ _ _ _ => False) (own.map (·.2))) (.ListComp elt [⟨tge, iter, ifs, 0⟩] scope pos) (dLcC di dg dt de (own.map (·.2))) :=
  ⟨fun W t => pe_lc hc hN (hi.pi W t) ok (fun s H C cl fp => (hg s H C cl fp).pg _ takes0) (fun s H C cl fp => (ht s H C cl fp).pt _ takes0) (fun s H C cl fp => (he s H C cl fp).pe _ takes0) hs,
    sim_lcC hi.sim (hg {} (fun _ => none) 0 [] []).sim hw (ht {} (fun _ => none) 0 [] []).sim (he {} (fun _ => none) 0 [] []).sim⟩
theorem ds_setLc {i : Nat} {y : Str} (hc : X.calm = true) (hN : X.N.Nodup) (hy : X.N[i]? = some y) (hyl : X.env.scope.names.lookup y = some .local) (hsw : swapsWith (.ListComp elt [⟨tge, iter, ifs, 0⟩] scope pos) (some (.Name y py)) spos.line X.env = pure true)
    (hi : DI X K wi tge iter di) (ok : BlkOk X.N X.env.scope scope own) (hg : Blk X scope fun Y => DG Y K tg tge dg) (hw : GW tg (own.map (·.2))) (ht : Blk X scope fun Y => DPs Y K tt ifs dt) (he : Blk X scope fun Y => DE Y K te elt de)
    (hs : ∀ x, foldedSetIterable iter X.env x = pure x := by intro _; rfl) :
    DS X K (fun W => tAsg (tLc (wi W) (tg fun _ _ _ _ => False) (tt fun _ _ _ _ => False) (te fun _ _ _ _ => False) (own.map (·.2))) (gName i)) (.Assign [.Name y py] (.ListComp elt [⟨tge, iter, ifs, 0⟩] scope pos) spos) (dSet i (dLc di dg dt de (own.map (·.2)))) := by
  refine ⟨fun W t => ps_setLc hc hN hy hyl hsw (hi.pi W t) ok (fun s H C cl fp => (hg s H C cl fp).pg _ takes0) (fun s H C cl fp => (ht s H C cl fp).pt _ takes0) (fun s H C cl fp => (he s H C cl fp).pe _ takes0) hs, fun W ew S σ ρ D d I R h => ?_⟩
  exact (sim_lc hi.sim (hg {} (fun _ => none) 0 [] []).sim hw (ht {} (fun _ => none) 0 [] []).sim (he {} (fun _ => none) 0 [] []).sim) W ew S σ ρ _ _ I (fun S1 v x e1 k1 r1 h1 => R.nx S1 _ _ e1 k1 ((I.sl.ev e1).set r1) h1) h
theorem ds_setLcC {i : Nat} {y : Str} (hc : X.calm = true) (hN : X.N.Nodup) (hy : X.N[i]? = some y) (hyl : X.env.scope.names.lookup y = some .local) (hsw : swapsWith (.ListComp elt [⟨tge, iter, ifs, 0⟩] scope pos) (some (.Name y py)) spos.line X.env = pure true)
    (hi : DI X K wi tge iter di) (ok : BlkOk X.N X.env.scope scope own) (hg : Blk X scope fun Y => DG Y K tg tge dg) (hw : GW tg (own.map (·.2))) (ht : Blk X scope fun Y => DPs Y K tt ifs dt) (he : Blk X scope fun Y => DE Y K te elt de)
    (hs : ∀ x, foldedSetIterable iter X.env x = pure x := by intro _; rfl) :
    DS X K (fun W => tAsg (tLc (wi W) (tg fun _ _ _ _ => False) (tt fun _ _ _ _ => False) (te fun _ _ _ _ => False) (own.map (·.2))) (gName i)) (.Assign [.Name y py] (.ListComp elt [⟨tge, iter, ifs, 0⟩] scope pos) spos) (dSet i (dLcC di dg dt de (own.map (·.2)))) := by
  refine ⟨fun W t => ps_setLc hc hN hy hyl hsw (hi.pi W t) ok (fun s H C cl fp => (hg s H C cl fp).pg _ takes0) (fun s H C cl fp => (ht s H C cl fp).pt _ takes0) (fun s H C cl fp => (he s H C cl fp).pe _ takes0) hs, fun W ew S σ ρ D d I R h => ?_⟩
  exact (sim_lcC hi.sim (hg {} (fun _ => none) 0 [] []).sim hw (ht {} (fun _ => none) 0 [] []).sim (he {} (fun _ => none) 0 [] []).sim) W ew S σ ρ _ _ I (fun S1 v x e1 k1 r1 h1 => R.nx S1 _ _ e1 k1 ((I.sl.ev e1).set r1) h1) h
/-! while: the invariant w with its measure -/
def dWhile (c : DTT) (tb : DTS) : DTS := fun w D ρ L => ∃ I : Nat → Dv → Lc → Prop, (∃ m, I m ρ L) ∧ ∀ m ρ L, I m ρ L → c w ρ L fun b L1 => if b = true then tb w ⟨fun ρ' L' => ∃ m', m' < m ∧ I m' ρ' L', D.rt, D.nx, fun ρ' L' => ∃ m', m' < m ∧ I m' ρ' L'⟩ ρ L1 else D.nx ρ L1
theorem ds_while {c : Expr} {body : List Stmt} {tb : WX → TS} {db : DTS} (hp : PassesOwn (model X.prog X.w) X.A X.env X.xe) (hc : DT X K tt c dt) (hb : DSs X K tb body db) : DS X K (fun W => tWhile (tt W) (tb W)) (.While c body [] pos) (dWhile dt db) := by
  refine ⟨fun W t => ps_while hp (hc.pt W t) (hb.ps W t), fun W ew S σ ρ D d I R h => ?_⟩
  obtain ⟨Iv, ⟨m0, i0⟩, turn⟩ := h
  refine ⟨fun m σ H => ∃ S2 ρ2, S2.H = H ∧ Ev S S2 ∧ Ok K S2 ∧ RelS K S2 σ ρ2 ∧ Iv m ρ2 S2.L, ⟨m0, S, ρ, rfl, .refl S, I.ok, I.sl, i0⟩, ?_⟩
  rintro m σ H ⟨S2, ρ2, rfl, e2, k2, s2, i2⟩
  refine hc.sim W ew S2 σ ρ2 _ _ ⟨k2, s2, I.wi.ev e2⟩ (fun S3 b e3 k3 h3 => ?_) (turn m ρ2 S2.L i2)
  cases b with
  | false => exact R.nx S3 σ ρ2 (e2.trans e3) k3 (s2.ev e3) h3
  | true =>
    refine ⟨fun σ' H' => ∃ m', m' < m ∧ ∃ S4 ρ4, S4.H = H' ∧ Ev S S4 ∧ Ok K S4 ∧ RelS K S4 σ' ρ4 ∧ Iv m' ρ4 S4.L, fun σ' H' q => q, ?_⟩
    have e23 := e2.trans e3
    refine hb.sim W ew S3 σ ρ2 _ ⟨fun ρ' L' => ∃ m', m' < m ∧ Iv m' ρ' L', d.rt, d.nx, fun ρ' L' => ∃ m', m' < m ∧ Iv m' ρ' L'⟩ ⟨k3, s2.ev e3, I.wi.ev e23⟩ ⟨fun S4 σ4 ρ4 e4 k4 s4 h4 => ?_, R.rt.ev e23, R.nx.ev e23, fun S4 σ4 ρ4 e4 k4 s4 h4 => ?_⟩ h3
    · obtain ⟨m', lt, i4⟩ := h4
      exact ⟨m', lt, S4, ρ4, rfl, e23.trans e4, k4, s4, i4⟩
    · obtain ⟨m', lt, i4⟩ := h4
      exact ⟨m', lt, S4, ρ4, rfl, e23.trans e4, k4, s4, i4⟩
end
end Ed

set_option Elab.async false
set_option linter.all false
set_option maxRecDepth 100000
set_option maxHeartbeats 2000000
/-! Calls of the text's own defs, methods and classes; fields; a def's promise at the level of data. -/
namespace Ed
open PySem PySem.Spec PyProof.Rows L2 Dz
abbrev DE_ := Addr → List (Str × D) → Lc → Prop
abbrev DSp := List D → Lc → DQ → DE_ → Prop
def RelE (K : PySem.W.Frag) (S : Sta) (E : XK) (e : DE_) : Prop := ∀ S' C dd (fs : List (Str × V)) (gs : List (Str × D)), Ev S S' → Ok K S' → ¬ S'.Λ dd → S'.H dd = some (.xd fs) → fs.map (·.1) = gs.map (·.1) → RpL K S'.H S'.Λ (fs.map (·.2)) (gs.map (·.2)) →
  e C gs S'.L → E (.ref C) (some dd) S'.H
/-- a promise at the level of data, as one of heaps -/
def spD (K : PySem.W.Frag) (n : Nat) (f : DSp) : Sp := fun vs H Q E => ∃ (S : Sta) (ds : List D) (q : DQ) (e : DE_), S.H = H ∧ Ok K S ∧ RpL K S.H S.Λ vs ds ∧ ds.length = n ∧ RelQ K S Q q ∧ RelE K S E e ∧ f ds S.L q e
/-- what nothing of the program changes: cells become data -/
def Gh (d : D) (L : Lc) (d' : D) (L' : Lc) : Prop := ∀ (K : PySem.W.Frag) (S : Sta) (v : V), Ok K S → S.L = L → Rp K S.H S.Λ v d → ∃ S', S'.H = S.H ∧ S'.L = L' ∧ Ev S S' ∧ Ok K S' ∧ Rp K S'.H S'.Λ v d'
theorem Gh.refl {d : D} {L : Lc} : Gh d L d L := fun K S v k e r => ⟨S, rfl, e, .refl S, k, r⟩
theorem Gh.lst {a : Addr} {L : Lc} {ds : List D} (h : L a = some (.lst ds)) : Gh (.ref a) L (.lst ds) (delL L a) := fun K S v k e r => by
  subst e
  cases r
  obtain ⟨l, xs, h1, h2⟩ := k.cell a _ h
  have ev := ev_fz h
  exact ⟨S.fz a, rfl, rfl, ev, ok_fz h k, .lst (fun z => z.2 rfl) h1 (h2.ev ev)⟩
theorem Gh.dK {a : Addr} {L : Lc} {es : List (Key × D)} (h : L a = some (.dK es)) : Gh (.ref a) L (.dK es) (delL L a) := fun K S v k e r => by
  subst e
  cases r
  obtain ⟨l, xs, h1, h2, h3⟩ := k.cell a _ h
  have ev := ev_fz h
  exact ⟨S.fz a, rfl, rfl, ev, ok_fz h k, .dK (fun z => z.2 rfl) (.inl h1) h2 (h3.ev ev)⟩
theorem Gh.dT {a : Addr} {L : Lc} {es : List (List Key × D)} (h : L a = some (.dT es)) : Gh (.ref a) L (.dT es) (delL L a) := fun K S v k e r => by
  subst e
  cases r
  obtain ⟨l, xs, h1, h2, h3⟩ := k.cell a _ h
  have ev := ev_fz h
  exact ⟨S.fz a, rfl, rfl, ev, ok_fz h k, .dT (fun z => z.2 rfl) (.inl h1) h2 (h3.ev ev)⟩
theorem Gh.ins {a C : Addr} {L : Lc} {fs : List (Str × D)} (h : L a = some (.ins C fs)) : Gh (.ref a) L (.ins C fs) (delL L a) := fun K S v k e r => by
  subst e
  cases r
  obtain ⟨l, dx, xs, h1, h2, h3⟩ := k.cell a _ h
  have ev := ev_fz h
  exact ⟨S.fz a, rfl, rfl, ev, ok_fz h k, .ins (fun z => z.2 rfl) h1 h2 (h3.ev ev)⟩
theorem Gh.trans {d e f : D} {L M N : Lc} (a : Gh d L e M) (b : Gh e M f N) : Gh d L f N := fun K S v k h r => by
  obtain ⟨T, h1, h2, e1, k1, r1⟩ := a K S v k h r
  obtain ⟨U, g1, g2, e2, k2, r2⟩ := b K T v k1 h2 r1
  exact ⟨U, g1.trans h1, g2, e1.trans e2, k2, r2⟩
/-- .. of what stands in a slot -/
def GhS (ρ : Dv) (L : Lc) (ρ' : Dv) (L' : Lc) : Prop := ∀ (K : PySem.W.Frag) (S : Sta) (σ : L2.St), Ok K S → S.L = L → RelS K S σ ρ → ∃ S', S'.H = S.H ∧ S'.L = L' ∧ Ev S S' ∧ Ok K S' ∧ RelS K S' σ ρ'
theorem GhS.refl {ρ : Dv} {L : Lc} : GhS ρ L ρ L := fun K S v k e r => ⟨S, rfl, e, .refl S, k, r⟩
theorem RelS.reset {K : PySem.W.Frag} {S : Sta} {σ : L2.St} {ρ : Dv} {i : Nat} {v : V} {d : D} (h : RelS K S σ ρ) (hv : σ[i]? = some (some v)) (r : Rp K S.H S.Λ v d) : RelS K S σ (ρ.set i (some d)) := by
  have := h.set (i := i) r
  have e : σ.set i (some v) = σ := by
    apply List.ext_getElem?
    intro k
    by_cases z : i = k
    · subst z
      have hl : i < σ.length := (List.getElem?_eq_some_iff.mp hv).1
      rw [List.getElem?_set_self hl, hv]
    · rw [List.getElem?_set_ne z]
  rw [e] at this
  exact this
theorem GhS.at_ {ρ : Dv} {L L' : Lc} {i : Nat} {d d' : D} (h : ρ[i]? = some (some d)) (g : Gh d L d' L') : GhS ρ L (ρ.set i (some d')) L' := fun K S σ k e r => by
  obtain ⟨v, h1, h2⟩ := r.at_ i d h
  obtain ⟨T, t1, t2, e1, k1, r1⟩ := g K S v k e h2
  exact ⟨T, t1, t2, e1, k1, (r.ev e1).reset h1 r1⟩
theorem GhS.trans {ρ ρ' ρ'' : Dv} {L M N : Lc} (a : GhS ρ L ρ' M) (b : GhS ρ' M ρ'' N) : GhS ρ L ρ'' N := fun K S v k h r => by
  obtain ⟨T, h1, h2, e1, k1, r1⟩ := a K S v k h r
  obtain ⟨U, g1, g2, e2, k2, r2⟩ := b K T v k1 h2 r1
  exact ⟨U, g1.trans h1, g2, e1.trans e2, k2, r2⟩
/-- slots forgotten, cells forgotten -/
theorem GhS.less {ρ ρ' : Dv} {L L' : Lc} (hl : ρ.length = ρ'.length) (h : ∀ (i : Nat) d, ρ'[i]? = some (some d) → ρ[i]? = some (some d)) (hL : ∀ a c, L' a = some c → L a = some c) : GhS ρ L ρ' L' := fun K S σ k e r => by
  subst e
  exact ⟨S.gone L', rfl, rfl, ev_gone hL, ok_gone hL k, ⟨r.len.trans hl, fun i d q => r.at_ i d (h i d q)⟩⟩
/-- such a step ahead of a statement -/
def dGh (t : DTS) : DTS := fun w D ρ L => ∃ ρ' L', GhS ρ L ρ' L' ∧ t w D ρ' L'
theorem ds_gh {X : Cx} {K : PySem.W.Frag} {ts : WX → TS} {st : Stmt} {ds : DTS} (h : DS X K ts st ds) : DS X K ts st (dGh ds) := by
  refine ⟨h.ps, fun W ew S σ ρ D d I R hh => ?_⟩
  obtain ⟨ρ', L', g, hh⟩ := hh
  obtain ⟨T, t1, t2, e1, k1, s1⟩ := g K S σ I.ok rfl I.sl
  subst t2
  have := h.sim W ew T σ ρ' D d ⟨k1, s1, I.wi.ev e1⟩ (R.ev e1) hh
  rw [t1] at this
  exact this
/-! ### a def's promise -/
def startD (N : List Str) (ds : List D) : Dv := ds.map some ++ List.replicate (N.length - ds.length) none
theorem relS_start {K : PySem.W.Frag} {S : Sta} {N : List Str} {vs : List V} {ds : List D} (r : RpL K S.H S.Λ vs ds) : RelS K S (L2.start N vs) (startD N ds) := by
  have hl := r.length
  refine ⟨by unfold L2.start startD; simp [hl], fun i d h => ?_⟩
  unfold startD at h
  unfold L2.start
  by_cases hi : i < ds.length
  · rw [List.getElem?_append_left (by simpa using hi), List.getElem?_map] at h
    cases e : ds[i]? with
    | none => rw [e] at h; cases h
    | some d' =>
      rw [e] at h
      cases h
      obtain ⟨v, h1, h2⟩ := r.get e
      refine ⟨v, ?_, h2⟩
      rw [List.getElem?_append_left (by rw [List.length_map, hl]; exact hi), List.getElem?_map, h1]; rfl
  · rw [List.getElem?_append_right (by simpa using hi)] at h
    rw [List.getElem?_replicate] at h
    split at h <;> cases h
/-- what a body is to reach -/
def dEnd (q : DQ) : DEnds := ⟨fun _ L => q .non L, fun d L => ∃ d' L', Gh d L d' L' ∧ q d' L', fun _ _ => False, fun _ _ => False⟩
/-- the body of a def, at the level of data -/
def bodyD (N : List Str) (b : DTS) : DSp := fun ds L q e => b (fun C gs _ L' => e C gs L') (dEnd q) (startD N ds) L
section
variable {P : Program} {w : World} {K : PySem.W.Frag} {mg : Str → Option Value} {base : Heap} {x qual : Str} {st : Stmt} {f : Addr} {fd : FuncData} {N ps : List Str} {k : Nat} {sp : DSp} {b : DTS}
/-- the body keeps the promise -/
def Keeps (N : List Str) (b : DTS) (n : Nat) (sp : DSp) : Prop := ∀ ds L q e, ds.length = n → sp ds L q e → bodyD N b ds L q e
theorem fnD_walk {ts : WX → TS} {n : Nat} {body : List Stmt} {scope : Scope} (hb : ∀ (cdv : Value) (A : Around) (outer : List Env) (s : Shared) (H : Hp) (E : XK), Calm A → Room k (A.deeper (envOfC qual scope s.heap.objs.size f cdv)) → DSs (cxOf (L2.CX P w) P w K mg base N qual scope f cdv A outer s H E) K ts body b) (rd : Keeps N b n sp)
    (htk : ∀ (cdv : Value) (A : Around) (outer : List Env) (s : Shared) (H : Hp) (E : XK), Takes (cxOf (L2.CX P w) P w K mg base N qual scope f cdv A outer s H E) (fun cls d _ H => E cls d H))
    (cdv : Value) (A : Around) (outer : List Env) (s : Shared) (H : Hp) (vs : List V) (Q : VK) (E : XK) (hg : Calm A) (hr : Room k (A.deeper (envOfC qual scope s.heap.objs.size f cdv))) (h : spD K n sp vs H Q E) :
    ∃ t, PSs (cxOf (L2.CX P w) P w K mg base N qual scope f cdv A outer s H E) body t ∧ t { nx := fun _ H' => Q .non H', rt := Q } (L2.start N vs) H := by
  obtain ⟨S, ds, q, e, rfl, k1, r1, hl, R, RE, h⟩ := h
  have B := hb cdv A outer s S.H E hg hr
  refine ⟨_, B.ps _ (htk cdv A outer s S.H E), ?_⟩
  refine B.sim _ (fun C gs _ L' => e C gs L') S (L2.start N vs) (startD N ds) _ (dEnd q) ⟨k1, relS_start r1, fun S' C dd fs gs σ ρ ev ok _ n1 n2 n3 n4 he => RE S' C dd fs gs ev ok n1 n2 n3 n4 he⟩ ⟨fun S' σ ρ ev ok _ hq => R S' _ _ ev ok .non hq, fun S' v d ev ok r hq => ?_, fun S' σ ρ ev ok _ hq => hq.elim, fun S' σ ρ ev ok _ hq => hq.elim⟩ (rd ds S.L q e hl h)
  obtain ⟨d', L', g, hq⟩ := hq
  obtain ⟨T, t1, t2, e2, k2, r2⟩ := g K S' v ok rfl r
  subst t2
  have := R T v d' (ev.trans e2) k2 r2 hq
  rw [t1] at this
  exact this
theorem kd_mk {ts : WX → TS} (F : Fun K x qual st f fd) (SC : FnScope N ps (defScope st)) (hbind : Binds K fd ps []) (hb : ∀ (cdv : Value) (A : Around) (outer : List Env) (s : Shared) (H : Hp) (E : XK), Calm A → Room k (A.deeper (envOfC qual (defScope st) s.heap.objs.size f cdv)) → DSs (cxOf (L2.CX P w) P w K mg base N qual (defScope st) f cdv A outer s H E) K ts (defBody st) b)
    (htk : ∀ (cdv : Value) (A : Around) (outer : List Env) (s : Shared) (H : Hp) (E : XK), Takes (cxOf (L2.CX P w) P w K mg base N qual (defScope st) f cdv A outer s H E) (fun cls d _ H => E cls d H)) (rd : Keeps N b ps.length sp) : Kp P w K mg base (L2.CX P w) (k + 1) f ps [] (spD K ps.length sp) :=
  ⟨fd, fnG_of F SC (fun vs H Q E h => by obtain ⟨S, ds, q, e, rfl, k1, r1, hl, _⟩ := h; rw [r1.length]; exact hl) fun cdv A outer s H vs Q E hg hr h => fnD_walk hb rd htk cdv A outer s H vs Q E hg hr h, hbind⟩
/-- a def with defaults -/
theorem kx_mk {ts : WX → TS} {dvs : List V} {kws : List (Str × V)} (F : FunD K x qual (defArgs st) (defBody st) (defScope st) dvs kws f fd) (SC : FnScope N ps (defScope st)) (hb : ∀ (cdv : Value) (A : Around) (outer : List Env) (s : Shared) (H : Hp) (E : XK), Calm A → Room k (A.deeper (envOfC qual (defScope st) s.heap.objs.size f cdv)) → DSs (cxOf (L2.CX P w) P w K mg base N qual (defScope st) f cdv A outer s H E) K ts (defBody st) b)
    (htk : ∀ (cdv : Value) (A : Around) (outer : List Env) (s : Shared) (H : Hp) (E : XK), Takes (cxOf (L2.CX P w) P w K mg base N qual (defScope st) f cdv A outer s H E) (fun cls d _ H => E cls d H)) (rd : Keeps N b ps.length sp) : Kx P w K mg base (L2.CX P w) (k + 1) x qual st dvs kws f ps (spD K ps.length sp) :=
  ⟨fd, fnG_D F SC (fun vs H Q E h => by obtain ⟨S, ds, q, e, rfl, k1, r1, hl, _⟩ := h; rw [r1.length]; exact hl) fun cdv A outer s H vs Q E hg hr h => fnD_walk hb rd htk cdv A outer s H vs Q E hg hr h, F⟩
end
/-! ### calls -/
def dCall (sp : DSp) (n : Nat) (a : DTA) : DTE := fun w ρ L q => a w ρ L fun ds L1 => ds.length = n ∧ sp ds L1 q fun C gs L2 => w C gs ρ L2
def dCallK (sp : DSp) (n m : Nat) (g : List D → List D → List D) (np : Nat) (a b : DTA) : DTE := fun w ρ L q => a w ρ L fun ds L1 => b w ρ L1 fun es L2 => ds.length = n ∧ es.length = m ∧ (g ds es).length = np ∧ sp (g ds es) L2 q fun C gs L3 => w C gs ρ L3
section
variable {X : Cx} {K : PySem.W.Frag} {k n nn : Nat} {f : Addr} {ps ks : List Str} {sp : DSp} {x : Str} {p pos : Pos} {e : Expr} {es : List Expr} {tr tk : WX → TA} {dr dk : DTA} {W : WX}
theorem relE_w {S : Sta} {W : WX} {ew : EW} {σ : L2.St} {ρ : Dv} (h : RelW K S W ew) (s : RelS K S σ ρ) : RelE K S (WE W σ) fun C gs L => ew C gs ρ L :=
  fun S' C dd fs gs ev ok n1 n2 n3 n4 he => h S' C dd fs gs σ ρ ev ok (s.ev ev) n1 n2 n3 n4 he
theorem sim_call {m : Nat} (ha : SimA K tr dr) : SimE K (fun W => tCBS (fun σ vs H Q => spD K m sp vs H Q (WE W σ)) (tr W)) (dCall sp m dr) := fun W ew S σ ρ Q q I R h => by
  refine ha W ew S σ ρ _ _ I (fun S1 vs xs e1 k1 r1 h1 => ?_) h
  exact ⟨S1, xs, q, _, rfl, k1, r1, h1.1, R.ev e1, relE_w (I.wi.ev e1) (I.sl.ev e1), h1.2⟩
/-- f(e, ..) -/
theorem d_fn (G : Kp X.prog X.w X.K X.mg X.base (L2.CX X.prog X.w) k f ps [] (spD K nn sp)) (hcl : Calm X.A) (hr : Room k X.A) (hl : Gl X x) (hm : X.mg x = some (.ref f)) (hk : PySem.W.keepIn X.K (.ref f) = true) (ha : DA X K tr (e :: es) dr) (hdb : (x == ("__debug__" : Str)) = false := by decide)
    (he : starEach (e :: es) X.env = (false, eval e X.env) :: starEach es X.env := by rfl) (hpl : (backTo pos (starEach es X.env)).any (·.1) = false := by rfl) :
    DE X K (fun W => tCBS (fun σ vs H Q => spD K nn sp vs H Q (WE W σ)) (tr W)) (.Call (.Name x p) (e :: es) [] pos) (dCall sp nn dr) :=
  ⟨fun W t => pe_fnS (callS G hcl hr t) hl hm hk (ha.pa W t) hdb he hpl, sim_call ha.sim⟩
theorem pe_fnS0 {f : Addr} {x : Str} {r : L2.St → List V → Hp → VK → Prop} (hc : CallRS X (.ref f) r) (hl : Gl X x) (hm : X.mg x = some (.ref f)) (hk : PySem.W.keepIn X.K (.ref f) = true) (hdb : (x == ("__debug__" : Str)) = false := by decide) : PE X (.Call (.Name x p) [] [] pos) (tCBS r tNil) := by
  constructor
  intro pins s σ H Q I h
  refine wpAny_Call_Name_kw (ld_glob I hl hm ?_ hdb)
  exact PySem.W.callWith_K0 I.kIn hk (hc pins s σ H [] [] Q I .nil h)
theorem d_fn0 (G : Kp X.prog X.w X.K X.mg X.base (L2.CX X.prog X.w) k f ps [] (spD K nn sp)) (hcl : Calm X.A) (hr : Room k X.A) (hl : Gl X x) (hm : X.mg x = some (.ref f)) (hk : PySem.W.keepIn X.K (.ref f) = true) (hdb : (x == ("__debug__" : Str)) = false := by decide) :
    DE X K (fun W => tCBS (fun σ vs H Q => spD K nn sp vs H Q (WE W σ)) tNil) (.Call (.Name x p) [] [] pos) (dCall sp nn dNil) :=
  ⟨fun W t => pe_fnS0 (callS G hcl hr t) hl hm hk hdb, sim_call (da_nil (X := X)).sim⟩
/-- constants by values -/
def CR (K : PySem.W.Frag) (v : V) (d : D) : Prop := ∀ H Λ, Rp K H Λ v d
inductive CRL (K : PySem.W.Frag) : List V → List D → Prop
  | nil : CRL K [] []
  | cons {v : V} {vs : List V} {d : D} {ds : List D} : CR K v d → CRL K vs ds → CRL K (v :: vs) (d :: ds)
theorem CRL.rp {S : Sta} : ∀ {vs : List V} {ds : List D}, CRL K vs ds → RpL K S.H S.Λ vs ds
  | _, _, .nil => .nil
  | _, _, .cons h r => .cons (h S.H S.Λ) (CRL.rp r)
theorem RpL.perm {S : Sta} {vs : List V} {ds : List D} (r : RpL K S.H S.Λ vs ds) : ∀ is : List Nat, RpL K S.H S.Λ (Dz.perm is vs) (Dz.perm is ds)
  | [] => .nil
  | i :: is => by
    have t := RpL.perm r is
    cases e : ds[i]? with
    | none =>
      have e2 : vs[i]? = none := List.getElem?_eq_none (by rw [r.length]; exact List.getElem?_eq_none_iff.mp e)
      have h1 : Dz.perm (i :: is) vs = Dz.perm is vs := by unfold Dz.perm; rw [List.filterMap_cons_none e2]
      have h2 : Dz.perm (i :: is) ds = Dz.perm is ds := by unfold Dz.perm; rw [List.filterMap_cons_none e]
      rw [h1, h2]; exact t
    | some d =>
      obtain ⟨v, e2, rv⟩ := r.get e
      have h1 : Dz.perm (i :: is) vs = v :: Dz.perm is vs := by unfold Dz.perm; rw [List.filterMap_cons_some e2]
      have h2 : Dz.perm (i :: is) ds = d :: Dz.perm is ds := by unfold Dz.perm; rw [List.filterMap_cons_some e]
      rw [h1, h2]; exact .cons rv t
end
end Ed

set_option Elab.async false
set_option linter.all false
set_option maxRecDepth 100000
set_option maxHeartbeats 2000000
/-! Keywords and defaults; methods; new instances; fields; methods of built-in types. -/
namespace Ed
open PySem PySem.Spec PyProof.Rows L2 Dz
section
variable {X : Cx} {K : PySem.W.Frag} {k n nn : Nat} {f C : Addr} {ps ks : List Str} {sp : DSp} {x m qual : Str} {p pos apos : Pos} {e o a b : Expr} {es : List Expr} {kws : List Keyword} {tr : WX → TA} {dr dk : DTA} {st : Stmt} {dvs : List V} {kwd : List (Str × V)} {ta tb : WX → TE} {da db : DTE}
/-! keywords -/
structure DK (X : Cx) (K : PySem.W.Frag) (ta : WX → TA) (kws : List Keyword) (da : DTA) : Prop where
  pk : ∀ W, Takes X W → PK X kws (ta W)
  sim : SimA K ta da
theorem callKS_x {W : WX} {CX : CXT} {sp : Sp} {gV : List V → List V → List V} (G : Kx X.prog X.w X.K X.mg X.base (L2.CX X.prog X.w) k x qual st dvs kwd f ps sp) (hg : Calm X.A) (hr : Room k X.A) (hb : ∀ fd, FunD X.K x qual (defArgs st) (defBody st) (defScope st) dvs kwd f fd → ∃ g, KBn X.K fd ps n ks g gV) (tk : Takes X W) :
    CallKS X (.ref f) n ks (fun σ vs zs H Q => sp (gV vs zs) H Q (WE W σ)) := by
  obtain ⟨fd, F, D⟩ := G.ex
  obtain ⟨g, b⟩ := hb fd D
  intro pins s σ H vs zs us ws Q I rv rz l1 l2 h
  refine wpAny_call (codeAny_mono (F.go X.A X.stack s H ⟨us, ks.zip ws⟩ (g us ws) (gV vs zs) Q _ hg hr I.env0 (b.to s us ws I.kIn (rv.length.symm.trans l1) (rz.length.symm.trans l2)) (b.rel rv rz) h) ?_)
  intro rs s' hq
  match rs, hq with
  | .error e, hq => exact passAt tk σ pins H s e s' I hq
  | .ok (.ret u), hq => exact I.after hq
theorem callRS_x {W : WX} {sp : Sp} {ms : List V} (G : Kx X.prog X.w X.K X.mg X.base (L2.CX X.prog X.w) k x qual st dvs kwd f ps sp) (hg : Calm X.A) (hr : Room k X.A) (hb : ∀ fd, FunD X.K x qual (defArgs st) (defBody st) (defScope st) dvs kwd f fd → ∃ ds, Vals ms ds ∧ Binds X.K fd ps ds) (tk : Takes X W) :
    CallRS X (.ref f) (fun σ vs H Q => sp (vs ++ ms) H Q (WE W σ)) := by
  obtain ⟨fd, F, D⟩ := G.ex
  obtain ⟨ds, r, b⟩ := hb fd D
  intro pins s σ H vs us Q I rv h
  have r2 : Vals (vs ++ ms) (us ++ ds) := rv.append r
  have hl : (us ++ ds).length = ps.length := r2.length.symm.trans (F.ln _ _ _ _ h)
  refine wpAny_call (codeAny_mono (F.go X.A X.stack s H ⟨us, []⟩ (us ++ ds) (vs ++ ms) Q _ hg hr I.env0 (b s us I.kIn hl) r2 h) ?_)
  intro rs s' hq
  match rs, hq with
  | .error e, hq => exact passAt tk σ pins H s e s' I hq
  | .ok (.ret u), hq => exact I.after hq
/-- what is left out, behind what is handed in -/
def dCallD (sp : DSp) (n : Nat) (ms : List D) (a : DTA) : DTE := fun w ρ L q => a w ρ L fun ds L1 => (ds ++ ms).length = n ∧ sp (ds ++ ms) L1 q fun C gs L2 => w C gs ρ L2
theorem sim_callD {np : Nat} {ms : List V} {md : List D} (hm : CRL K ms md) (ha : SimA K tr dr) : SimE K (fun W => tCBS (fun σ vs H Q => spD K np sp (vs ++ ms) H Q (WE W σ)) (tr W)) (dCallD sp np md dr) := fun W ew S σ ρ Q q I R h => by
  refine ha W ew S σ ρ _ _ I (fun S1 vs xs e1 k1 r1 h1 => ?_) h
  exact ⟨S1, xs ++ md, q, _, rfl, k1, r1.append hm.rp, h1.1, R.ev e1, relE_w (I.wi.ev e1) (I.sl.ev e1), h1.2⟩
theorem sim_callK {np : Nat} {gV : List V → List V → List V} {gD : List D → List D → List D} {tk : WX → TA} (hg : ∀ {S : Sta} {vs zs : List V} {ds es : List D}, RpL K S.H S.Λ vs ds → RpL K S.H S.Λ zs es → RpL K S.H S.Λ (gV vs zs) (gD ds es)) (ha : SimA K tr dr) (hk : SimA K tk dk) :
    SimE K (fun W => tCKS n m.length (fun σ vs zs H Q => spD K np sp (gV vs zs) H Q (WE W σ)) (tr W) (tk W)) (dCallK sp n m.length gD np dr dk) := fun W ew S σ ρ Q q I R h => by
  refine ha W ew S σ ρ _ _ I (fun S1 vs xs e1 k1 r1 h1 => ?_) h
  refine hk W ew S1 σ ρ _ _ (I.ev e1 k1) (fun S2 zs ys e2 k2 r2 h2 => ?_) h1
  obtain ⟨l1, l2, l3, h2⟩ := h2
  refine ⟨by rw [r1.length]; exact l1, by rw [r2.length]; exact l2, S2, gD xs ys, q, _, rfl, k2, hg (r1.ev e2) r2, l3, R.ev (e1.trans e2), relE_w (I.wi.ev (e1.trans e2)) (I.sl.ev (e1.trans e2)), h2⟩
end
section
variable {X : Cx} {K : PySem.W.Frag} {k n nn : Nat} {f C : Addr} {ps ks : List Str} {sp : DSp} {x m qual : Str} {p pos apos : Pos} {e o a b : Expr} {es : List Expr} {kws : List Keyword} {tr tk : WX → TA} {dr dk : DTA} {st : Stmt} {dvs : List V} {kwd : List (Str × V)} {ta tb : WX → TE} {da db : DTE}
theorem dk_nil : DK X K (fun _ => tNil) [] dNil := ⟨fun _ _ => pk_nil, fun W ew S σ ρ Q q I R h => R S [] [] (.refl S) I.ok .nil h⟩
theorem sim_cons (ha : SimE K ta da) (hr : SimA K tr dr) : SimA K (fun W => tCons (ta W) (tr W)) (dCons da dr) := fun W ew S σ ρ Q q I R h => by
  refine ha W ew S σ ρ _ _ I (fun S1 v x e1 k1 r1 h1 => ?_) h
  refine hr W ew S1 σ ρ _ _ (I.ev e1 k1) (fun S2 vs xs e2 k2 r2 h2 => ?_) h1
  exact R S2 _ _ (e1.trans e2) k2 (.cons (r1.ev e2) r2) h2
/-- f(.., some left out) -/
theorem d_fnD {ms : List V} {md : List D} (hm' : CRL K ms md) (G : Kx X.prog X.w X.K X.mg X.base (L2.CX X.prog X.w) k x qual st dvs kwd f ps (spD K nn sp)) (hcl : Calm X.A) (hr : Room k X.A) (hb : ∀ fd, FunD X.K x qual (defArgs st) (defBody st) (defScope st) dvs kwd f fd → ∃ ds, Vals ms ds ∧ Binds X.K fd ps ds)
    (hl : Gl X x) (hm : X.mg x = some (.ref f)) (hk : PySem.W.keepIn X.K (.ref f) = true) (ha : DA X K tr (e :: es) dr) (hdb : (x == ("__debug__" : Str)) = false := by decide)
    (he : starEach (e :: es) X.env = (false, eval e X.env) :: starEach es X.env := by rfl) (hpl : (backTo pos (starEach es X.env)).any (·.1) = false := by rfl) :
    DE X K (fun W => tCBS (fun σ vs H Q => spD K nn sp (vs ++ ms) H Q (WE W σ)) (tr W)) (.Call (.Name x p) (e :: es) [] pos) (dCallD sp nn md dr) :=
  ⟨fun W t => pe_fnS (callRS_x G hcl hr hb t) hl hm hk (ha.pa W t) hdb he hpl, sim_callD hm' ha.sim⟩
theorem d_fnD0 {ms : List V} {md : List D} (hm' : CRL K ms md) (G : Kx X.prog X.w X.K X.mg X.base (L2.CX X.prog X.w) k x qual st dvs kwd f ps (spD K nn sp)) (hcl : Calm X.A) (hr : Room k X.A) (hb : ∀ fd, FunD X.K x qual (defArgs st) (defBody st) (defScope st) dvs kwd f fd → ∃ ds, Vals ms ds ∧ Binds X.K fd ps ds)
    (hl : Gl X x) (hm : X.mg x = some (.ref f)) (hk : PySem.W.keepIn X.K (.ref f) = true) (hdb : (x == ("__debug__" : Str)) = false := by decide) :
    DE X K (fun W => tCBS (fun σ vs H Q => spD K nn sp (vs ++ ms) H Q (WE W σ)) tNil) (.Call (.Name x p) [] [] pos) (dCallD sp nn md dNil) :=
  ⟨fun W t => pe_fnS0 (callRS_x G hcl hr hb t) hl hm hk hdb, sim_callD hm' (da_nil (X := X)).sim⟩
/-- f(.., k = v) -/
def gPerm {α : Type} (is : List Nat) (ms : List α) (vs zs : List α) : List α := Dz.perm is (vs ++ ms ++ zs)
theorem gPerm_rp {S : Sta} {is : List Nat} {ms : List V} {md : List D} (hm : CRL K ms md) {vs zs : List V} {ds es : List D} (r1 : RpL K S.H S.Λ vs ds) (r2 : RpL K S.H S.Λ zs es) : RpL K S.H S.Λ (gPerm is ms vs zs) (gPerm is md ds es) := RpL.perm ((r1.append hm.rp).append r2) is
theorem d_fnK {is : List Nat} {ms : List V} {md : List D} (hm' : CRL K ms md) (G : Kx X.prog X.w X.K X.mg X.base (L2.CX X.prog X.w) k x qual st dvs kwd f ps (spD K nn sp)) (hcl : Calm X.A) (hr : Room k X.A) (hb : ∀ fd, FunD X.K x qual (defArgs st) (defBody st) (defScope st) dvs kwd f fd → ∃ g, KBn X.K fd ps n ks g (gPerm is ms))
    (hl : Gl X x) (hm : X.mg x = some (.ref f)) (hk : PySem.W.keepIn X.K (.ref f) = true) (ha : DA X K tr (e :: es) dr) (hkw : DK X K tk kws dk)
    (hall : (backToKw pos (keywordEach kws X.env)).all (·.1.isSome) = true := by rfl) (hks : (backToKw pos (keywordEach kws X.env)).filterMap (·.1) = ks := by rfl) (hdb : (x == ("__debug__" : Str)) = false := by decide)
    (he : starEach (e :: es) X.env = (false, eval e X.env) :: starEach es X.env := by rfl) (hpl : ((backTo pos (starEach (e :: es) X.env)).any (·.1) || (backToKw pos (keywordEach kws X.env)).any (·.1.isNone)) = false := by rfl) :
    DE X K (fun W => tCKS n ks.length (fun σ vs zs H Q => spD K nn sp (gPerm is ms vs zs) H Q (WE W σ)) (tr W) (tk W)) (.Call (.Name x p) (e :: es) kws pos) (dCallK sp n ks.length (gPerm is md) nn dr dk) := by
  refine ⟨fun W t => pe_fnKS (callKS_x (CX := L2.CX X.prog X.w) G hcl hr hb t) hl hm hk (ha.pa W t) (hkw.pk W t) hall hks hdb he hpl, ?_⟩
  intro W ew S σ ρ Q q I R h
  refine ha.sim W ew S σ ρ _ _ I (fun S1 vs xs e1 k1 r1 h1 => ?_) h
  refine hkw.sim W ew S1 σ ρ _ _ (I.ev e1 k1) (fun S2 zs ys e2 k2 r2 h2 => ?_) h1
  obtain ⟨l1, l2, l3, h2⟩ := h2
  exact ⟨by rw [r1.length]; exact l1, by rw [r2.length]; exact l2, S2, _, q, _, rfl, k2, gPerm_rp hm' (r1.ev e2) r2, l3, R.ev (e1.trans e2), relE_w (I.wi.ev (e1.trans e2)) (I.sl.ev (e1.trans e2)), h2⟩
theorem d_fnK0 {is : List Nat} {ms : List V} {md : List D} (hm' : CRL K ms md) (G : Kx X.prog X.w X.K X.mg X.base (L2.CX X.prog X.w) k x qual st dvs kwd f ps (spD K nn sp)) (hcl : Calm X.A) (hr : Room k X.A) (hb : ∀ fd, FunD X.K x qual (defArgs st) (defBody st) (defScope st) dvs kwd f fd → ∃ g, KBn X.K fd ps 0 ks g (gPerm is ms))
    (hl : Gl X x) (hm : X.mg x = some (.ref f)) (hk : PySem.W.keepIn X.K (.ref f) = true) (hkw : DK X K tk kws dk)
    (hall : (backToKw pos (keywordEach kws X.env)).all (·.1.isSome) = true := by rfl) (hks : (backToKw pos (keywordEach kws X.env)).filterMap (·.1) = ks := by rfl) (hdb : (x == ("__debug__" : Str)) = false := by decide)
    (hpl : ((backTo pos (starEach [] X.env)).any (·.1) || (backToKw pos (keywordEach kws X.env)).any (·.1.isNone)) = false := by rfl) :
    DE X K (fun W => tCKS 0 ks.length (fun σ vs zs H Q => spD K nn sp (gPerm is ms vs zs) H Q (WE W σ)) tNil (tk W)) (.Call (.Name x p) [] kws pos) (dCallK sp 0 ks.length (gPerm is md) nn dNil dk) := by
  refine ⟨fun W t => pe_fnKS0 (callKS_x (CX := L2.CX X.prog X.w) G hcl hr hb t) hl hm hk (hkw.pk W t) hall hks hdb hpl, ?_⟩
  intro W ew S σ ρ Q q I R h
  refine hkw.sim W ew S σ ρ _ _ I (fun S2 zs ys e2 k2 r2 h2 => ?_) h
  obtain ⟨l1, l2, l3, h2⟩ := h2
  exact ⟨rfl, by rw [r2.length]; exact l2, S2, _, q, _, rfl, k2, gPerm_rp hm' .nil r2, l3, R.ev e2, relE_w (I.wi.ev e2) (I.sl.ev e2), h2⟩
/-! methods of own instances -/
/-- the class and the fields of an instance -/
def vIns (L : Lc) : D → Option (Addr × List (Str × D))
  | .ins C fs => some (C, fs)
  | .ref a => match L a with
    | some (.ins C fs) => some (C, fs)
    | _ => none
  | _ => none
theorem vIns_ok {S : Sta} {v : V} {d : D} {fs : List (Str × D)} (k : Ok K S) (r : Rp K S.H S.Λ v d) (h : vIns S.L d = some (C, fs)) : ∃ a dx gs, v = .ref a ∧ S.H a = some (.ins C dx gs) ∧ TabR K S.H S.Λ gs fs := by
  cases r with
  | ins n h1 h2 h3 => cases h; exact ⟨_, _, _, rfl, h1, h2, h3⟩
  | ref a =>
    unfold vIns at h
    cases e : S.L a with
    | none => simp [e] at h
    | some c =>
      cases c with
      | ins C' es =>
        simp [e] at h
        obtain ⟨rfl, rfl⟩ := h
        obtain ⟨_, dx, ks, h1, h2, h3⟩ := k.cell a _ e
        exact ⟨a, dx, ks, rfl, h1, h2, h3⟩
      | _ => simp [e] at h
  | _ => cases h
theorem TabR.lookup {S : Sta} (g : Str) : ∀ {ks : List (Str × V)} {es : List (Str × D)}, TabR K S.H S.Λ ks es → (es.lookup g = none ∧ ks.lookup g = none) ∨ ∃ d v, es.lookup g = some d ∧ ks.lookup g = some v ∧ Rp K S.H S.Λ v d
  | [], [], _ => .inl ⟨rfl, rfl⟩
  | [], _ :: _, h => by have := h.len; simp at this
  | _ :: _, [], h => by have := h.len; simp at this
  | (a, v) :: ks, (b, d) :: es, h => by
    obtain ⟨h1, h2, h3⟩ := h.cons_inv
    obtain rfl : a = b := h1
    by_cases e : g = a
    · subst e
      exact .inr ⟨d, v, by simp, by simp, h2⟩
    · have e1 : (g == a) = false := beq_eq_false_iff_ne.mpr e
      simp only [List.lookup_cons, e1]
      exact TabR.lookup g h3
def putFD (f : Str) (v : D) : List (Str × D) → List (Str × D)
  | [] => [(f, v)]
  | (g, x) :: r => if g = f then (g, v) :: r else (g, x) :: putFD f v r
theorem TabR.putF {S : Sta} {v : V} {d : D} (g : Str) (r : Rp K S.H S.Λ v d) : ∀ {ks : List (Str × V)} {es : List (Str × D)}, TabR K S.H S.Λ ks es → TabR K S.H S.Λ (L2.putF g v ks) (putFD g d es)
  | [], [], _ => .cons rfl r .nil
  | [], _ :: _, h => by have := h.len; simp at this
  | _ :: _, [], h => by have := h.len; simp at this
  | (a, v') :: ks, (b, d') :: es, h => by
    obtain ⟨h1, h2, h3⟩ := h.cons_inv
    obtain rfl : a = b := h1
    unfold L2.putF putFD
    by_cases e : a = g
    · rw [if_pos e, if_pos e]; exact .cons rfl r h3
    · rw [if_neg e, if_neg e]; exact .cons rfl h2 (TabR.putF g r h3)
def tMthS (C : Addr) (m : Str) (r : L2.St → List V → Hp → VK → Prop) (ta : TE) (t : TA) : TE := fun σ H Q => ta σ H fun x H1 => ∃ a dx fs, x = .ref a ∧ H1 a = some (.ins C dx fs) ∧ fs.lookup m = none ∧ t σ H1 fun vs H2 => r σ (x :: vs) H2 Q
theorem pe_mthS {r : L2.St → List V → Hp → VK → Prop} {ta : TE} {t : TA} {pl : Sem Bool} (he : PE X o ta) (c : Cls X.K C) (hm : Meth X.K C m f) (hc : CallRS X (.ref f) r) (ha : PA X (e :: es) t)
    (hst : starEach (e :: es) X.env = (false, eval e X.env) :: starEach es X.env := by rfl) (hpl : (backTo pos (starEach es X.env)).any (·.1) = false := by rfl)
    (ht : eval (.Call (.Attribute o m apos) (e :: es) [] pos) X.env = (do
      let ov ← eval o X.env
      standAt apos.atName
      let (f, first) ← holding [ov] (getMethod ov m pl)
      callWith pos f first (backTo pos (starEach (e :: es) X.env)) (backToKw pos (keywordEach [] X.env))) := by rfl) :
    PE X (.Call (.Attribute o m apos) (e :: es) [] pos) (tMthS C m r ta t) := by
  constructor
  intro pins s σ H Q I h
  refine PySem.W.methodCall_KW (pl := pl) (thn (he.run pins s σ H _ I h) ?_) ht
  rintro u s1 ⟨y, H1, I1, ry, a, dx, fs, rfl, ea, l, q⟩
  cases (show u = Value.ref a from ry)
  refine getmeth_ok I1 ea c hm l ?_
  refine PySem.W.callWith_K (first := [.ref a]) (h₀ := X.base) I.ok.mod.kin hm.kp (thn (ha.run pos pins s1 σ H1 _ I1 q) ?_) hst hpl
  rintro us s2 ⟨vs, H2, I2, rv, q2⟩
  exact ⟨I2.kIn, hc pins s2 σ H2 (.ref a :: vs) (.ref a :: us) Q I2 (.cons rfl rv) q2⟩
theorem pe_mthS0 {r : L2.St → List V → Hp → VK → Prop} {ta : TE} {pl : Sem Bool} (he : PE X o ta) (c : Cls X.K C) (hm : Meth X.K C m f) (hc : CallRS X (.ref f) r)
    (ht : eval (.Call (.Attribute o m apos) [] [] pos) X.env = (do
      let ov ← eval o X.env
      standAt apos.atName
      let (f, first) ← holding [ov] (getMethod ov m pl)
      callWith pos f first (backTo pos (starEach [] X.env)) (backToKw pos (keywordEach [] X.env))) := by rfl) :
    PE X (.Call (.Attribute o m apos) [] [] pos) (tMthS C m r ta tNil) := by
  constructor
  intro pins s σ H Q I h
  refine PySem.W.methodCall_KW (pl := pl) (thn (he.run pins s σ H _ I h) ?_) ht
  rintro u s1 ⟨y, H1, I1, ry, a, dx, fs, rfl, ea, l, q⟩
  cases (show u = Value.ref a from ry)
  refine getmeth_ok I1 ea c hm l ?_
  exact PySem.W.callWith_K0 (first := [.ref a]) I1.kIn hm.kp (hc pins s1 σ H1 [.ref a] [.ref a] Q I1 (.cons rfl .nil) q)
def dMth (C : Addr) (m : Str) (sp : DSp) (n : Nat) (ms : List D) (o : DTE) (a : DTA) : DTE := fun w ρ L q => o w ρ L fun x L1 => ∃ fs, vIns L1 x = some (C, fs) ∧ fs.lookup m = none ∧ a w ρ L1 fun ds L2 => (x :: ds ++ ms).length = n ∧ sp (x :: ds ++ ms) L2 q fun E gs L3 => w E gs ρ L3
theorem sim_mth {np : Nat} {ms : List V} {md : List D} (hm : CRL K ms md) (ho : SimE K ta da) (ha : SimA K tr dr) : SimE K (fun W => tMthS C m (fun σ vs H Q => spD K np sp (vs ++ ms) H Q (WE W σ)) (ta W) (tr W)) (dMth C m sp np md da dr) := fun W ew S σ ρ Q q I R h => by
  refine ho W ew S σ ρ _ _ I (fun S1 v x e1 k1 r1 h1 => ?_) h
  obtain ⟨fs, hv, hl, h1⟩ := h1
  obtain ⟨a, dx, gs, rfl, h2, h3⟩ := vIns_ok k1 r1 hv
  have hn : gs.lookup m = none := by
    rcases h3.lookup m with ⟨_, z⟩ | ⟨d, v, z, _⟩
    · exact z
    · rw [hl] at z; cases z
  refine ⟨a, dx, gs, rfl, h2, hn, ?_⟩
  refine ha W ew S1 σ ρ _ _ (I.ev e1 k1) (fun S2 vs xs e2 k2 r2 h4 => ?_) h1
  exact ⟨S2, x :: xs ++ md, q, _, rfl, k2, RpL.append (.cons (r1.ev e2) r2) hm.rp, h4.1, R.ev (e1.trans e2), relE_w (I.wi.ev (e1.trans e2)) (I.sl.ev (e1.trans e2)), h4.2⟩
theorem spD_nil {np : Nat} {W : WX} : (fun (σ : L2.St) (vs : List V) (H : Hp) (Q : VK) => spD K np sp (vs ++ []) H Q (WE W σ)) = fun σ vs H Q => spD K np sp vs H Q (WE W σ) := by
  funext σ vs H Q; rw [List.append_nil]
theorem callS' {W : WX} (G : Kp X.prog X.w X.K X.mg X.base (L2.CX X.prog X.w) k f ps [] (spD K nn sp)) (hcl : Calm X.A) (hr : Room k X.A) (t : Takes X W) : CallRS X (.ref f) (fun σ vs H Q => spD K nn sp (vs ++ []) H Q (WE W σ)) := by
  rw [spD_nil]; exact callS G hcl hr t
theorem d_mth {pl : Sem Bool} (c : Cls X.K C) (hm : Meth X.K C m f) (G : Kp X.prog X.w X.K X.mg X.base (L2.CX X.prog X.w) k f ps [] (spD K nn sp)) (hcl : Calm X.A) (hr : Room k X.A) (ho : DE X K ta o da) (ha : DA X K tr (e :: es) dr)
    (hst : starEach (e :: es) X.env = (false, eval e X.env) :: starEach es X.env := by rfl) (hpl : (backTo pos (starEach es X.env)).any (·.1) = false := by rfl)
    (ht : eval (.Call (.Attribute o m apos) (e :: es) [] pos) X.env = (do
      let ov ← eval o X.env
      standAt apos.atName
      let (f, first) ← holding [ov] (getMethod ov m pl)
      callWith pos f first (backTo pos (starEach (e :: es) X.env)) (backToKw pos (keywordEach [] X.env))) := by rfl) :
    DE X K (fun W => tMthS C m (fun σ vs H Q => spD K nn sp (vs ++ []) H Q (WE W σ)) (ta W) (tr W)) (.Call (.Attribute o m apos) (e :: es) [] pos) (dMth C m sp nn [] da dr) :=
  ⟨fun W t => pe_mthS (ho.pe W t) c hm (callS' G hcl hr t) (ha.pa W t) hst hpl ht, sim_mth .nil ho.sim ha.sim⟩
theorem d_mth0 {pl : Sem Bool} (c : Cls X.K C) (hm : Meth X.K C m f) (G : Kp X.prog X.w X.K X.mg X.base (L2.CX X.prog X.w) k f ps [] (spD K nn sp)) (hcl : Calm X.A) (hr : Room k X.A) (ho : DE X K ta o da)
    (ht : eval (.Call (.Attribute o m apos) [] [] pos) X.env = (do
      let ov ← eval o X.env
      standAt apos.atName
      let (f, first) ← holding [ov] (getMethod ov m pl)
      callWith pos f first (backTo pos (starEach [] X.env)) (backToKw pos (keywordEach [] X.env))) := by rfl) :
    DE X K (fun W => tMthS C m (fun σ vs H Q => spD K nn sp (vs ++ []) H Q (WE W σ)) (ta W) tNil) (.Call (.Attribute o m apos) [] [] pos) (dMth C m sp nn [] da dNil) :=
  ⟨fun W t => pe_mthS0 (ho.pe W t) c hm (callS' G hcl hr t) ht, sim_mth .nil ho.sim (da_nil (X := X)).sim⟩
/-- .. where some are left out -/
theorem d_mthD {pl : Sem Bool} {ms : List V} {md : List D} (hm' : CRL K ms md) (c : Cls X.K C) (hm : Meth X.K C m f) (G : Kx X.prog X.w X.K X.mg X.base (L2.CX X.prog X.w) k x qual st dvs kwd f ps (spD K nn sp)) (hcl : Calm X.A) (hr : Room k X.A) (hb : ∀ fd, FunD X.K x qual (defArgs st) (defBody st) (defScope st) dvs kwd f fd → ∃ ds, Vals ms ds ∧ Binds X.K fd ps ds) (ho : DE X K ta o da) (ha : DA X K tr (e :: es) dr)
    (hst : starEach (e :: es) X.env = (false, eval e X.env) :: starEach es X.env := by rfl) (hpl : (backTo pos (starEach es X.env)).any (·.1) = false := by rfl)
    (ht : eval (.Call (.Attribute o m apos) (e :: es) [] pos) X.env = (do
      let ov ← eval o X.env
      standAt apos.atName
      let (f, first) ← holding [ov] (getMethod ov m pl)
      callWith pos f first (backTo pos (starEach (e :: es) X.env)) (backToKw pos (keywordEach [] X.env))) := by rfl) :
    DE X K (fun W => tMthS C m (fun σ vs H Q => spD K nn sp (vs ++ ms) H Q (WE W σ)) (ta W) (tr W)) (.Call (.Attribute o m apos) (e :: es) [] pos) (dMth C m sp nn md da dr) :=
  ⟨fun W t => pe_mthS (ho.pe W t) c hm (callRS_x G hcl hr hb t) (ha.pa W t) hst hpl ht, sim_mth hm' ho.sim ha.sim⟩
theorem d_mthD0 {pl : Sem Bool} {ms : List V} {md : List D} (hm' : CRL K ms md) (c : Cls X.K C) (hm : Meth X.K C m f) (G : Kx X.prog X.w X.K X.mg X.base (L2.CX X.prog X.w) k x qual st dvs kwd f ps (spD K nn sp)) (hcl : Calm X.A) (hr : Room k X.A) (hb : ∀ fd, FunD X.K x qual (defArgs st) (defBody st) (defScope st) dvs kwd f fd → ∃ ds, Vals ms ds ∧ Binds X.K fd ps ds) (ho : DE X K ta o da)
    (ht : eval (.Call (.Attribute o m apos) [] [] pos) X.env = (do
      let ov ← eval o X.env
      standAt apos.atName
      let (f, first) ← holding [ov] (getMethod ov m pl)
      callWith pos f first (backTo pos (starEach [] X.env)) (backToKw pos (keywordEach [] X.env))) := by rfl) :
    DE X K (fun W => tMthS C m (fun σ vs H Q => spD K nn sp (vs ++ ms) H Q (WE W σ)) (ta W) tNil) (.Call (.Attribute o m apos) [] [] pos) (dMth C m sp nn md da dNil) :=
  ⟨fun W t => pe_mthS0 (ho.pe W t) c hm (callRS_x G hcl hr hb t) ht, sim_mth hm' ho.sim (da_nil (X := X)).sim⟩
/-! fields -/
def dFld (C : Addr) (g : Str) (o : DTE) : DTE := fun w ρ L q => o w ρ L fun x L1 => ∃ fs d, vIns L1 x = some (C, fs) ∧ fs.lookup g = some d ∧ q d L1
theorem d_fld {g : Str} (hK : X.K = K) (c : Cls K C) (hn : NoAttr K C g) (ho : DE X K ta o da) (hb : attributeBase o g X.env (eval o X.env) = eval o X.env) : DE X K (fun W => tFld K (ta W) g) (.Attribute o g pos) (dFld C g da) := by
  subst hK
  refine ⟨fun W t => pe_fld (ho.pe W t) hb, fun W ew S σ ρ Q q I R h => ?_⟩
  refine ho.sim W ew S σ ρ _ _ I (fun S1 v x e1 k1 r1 h1 => ?_) h
  obtain ⟨fs, d, hv, hl, h1⟩ := h1
  obtain ⟨a, dx, gs, rfl, h2, h3⟩ := vIns_ok k1 r1 hv
  rcases h3.lookup g with ⟨z, _⟩ | ⟨d', v, z, z2, rv⟩
  · rw [hl] at z; cases z
  · rw [hl] at z
    cases z
    exact ⟨a, C, dx, gs, v, rfl, h2, c, hn, z2, R S1 _ _ e1 k1 rv h1⟩
def dSFld (C : Addr) (g : Str) (o v : DTE) : DTS := fun w D ρ L => v w ρ L fun y L1 => o w ρ L1 fun x L2 => ∃ a fs, x = .ref a ∧ L2 a = some (.ins C fs) ∧ fs.length < 1000 ∧ D.nx ρ (updL L2 a (.ins C (putFD g y fs)))
theorem ds_fld {g : Str} {pos' : Pos} (hK : X.K = K) (c : Cls K C) (hn : NoAttr K C g) (ho : DE X K ta o da) (hv : DE X K tb b db) (hs : swapsWith b (some (.Attribute o g pos')) pos.line X.env = pure false) : DS X K (fun W => sFld K (ta W) (tb W) g) (.Assign [.Attribute o g pos'] b pos) (dSFld C g da db) := by
  subst hK
  refine ⟨fun W t => ps_fld (ho.pe W t) (hv.pe W t) hs, fun W ew S σ ρ D d I R h => ?_⟩
  refine hv.sim W ew S σ ρ _ _ I (fun S1 v y e1 k1 r1 h1 => ?_) h
  refine ho.sim W ew S1 σ ρ _ _ (I.ev e1 k1) (fun S2 u x e2 k2 r2 h2 => ?_) h1
  obtain ⟨a, fs, rfl, hL, hl, h2⟩ := h2
  cases r2
  obtain ⟨_, dx, gs, h3, h4⟩ := k2.cell a _ hL
  have T : TabR X.K S2.H S2.Λ gs fs := h4
  have ev := ev_put (o := .ins C dx (L2.putF g v gs)) (c := .ins C (putFD g y fs)) hL k2
  exact ⟨a, C, dx, gs, rfl, h3, c, hn, by rw [T.len]; exact hl, R.nx (S2.put a (.ins C dx (L2.putF g v gs)) (.ins C (putFD g y fs))) σ ρ ((e1.trans e2).trans ev) (ok_put hL k2 ⟨dx, _, upd_same, (T.putF g (r1.ev e2)).ev ev⟩) (I.sl.ev ((e1.trans e2).trans ev)) h2⟩
end
end Ed

set_option Elab.async false
set_option linter.all false
set_option maxRecDepth 100000
set_option maxHeartbeats 2000000
/-! New instances; methods of built-in types; isinstance; empty dicts. -/
namespace Ed
open PySem PySem.Spec PyProof.Rows L2 Dz
theorem Gh.less {d : D} {L L' : Lc} (hL : ∀ a c, L' a = some c → L a = some c) : Gh d L d L' := fun K S v k e r => by
  subst e
  exact ⟨S.gone L', rfl, rfl, ev_gone hL, ok_gone hL k, r⟩
section
variable {X : Cx} {K : PySem.W.Frag} {k n nn : Nat} {f C : Addr} {ps ks : List Str} {sp : DSp} {x m qual : Str} {p pos apos : Pos} {e o a b : Expr} {es : List Expr} {kws : List Keyword} {tr tk : WX → TA} {dr dk : DTA} {st : Stmt} {dvs : List V} {kwd : List (Str × V)} {ta tb : WX → TE} {da db : DTE}
def dNew (C : Addr) (sp : DSp) (n mm : Nat) (g : List D → List D → List D) (np : Nat) (a b : DTA) : DTE := fun w ρ L q => a w ρ L fun ds L1 => b w ρ L1 fun es L2 => ds.length = n ∧ es.length = mm ∧ ∀ x, L2 x = none → (g (.ref x :: ds) es).length = np ∧
  sp (g (.ref x :: ds) es) (updL L2 x (.ins C [])) (fun d L3 => d = .non ∧ ∃ d' L4, Gh (.ref x) L3 d' L4 ∧ q d' L4) fun E gs L3 => ∃ L4, (∀ a c, L4 a = some c → L3 a = some c) ∧ w E gs ρ L4
theorem sim_new {is : List Nat} {ms : List V} {md : List D} (hm' : CRL K ms md) (ha : SimA K tr dr) (hk : SimA K tk dk) :
    SimE K (fun W => tCKS n ks.length (fun σ vs zs H Q => NewI C (spD K nn sp) (fun x => gPerm is ms (x :: vs) zs) H Q (WE W σ)) (tr W) (tk W)) (dNew C sp n ks.length (gPerm is md) nn dr dk) := fun W ew S σ ρ Q q I R h => by
  refine ha W ew S σ ρ _ _ I (fun S1 vs xs e1 k1 r1 h1 => ?_) h
  refine hk W ew S1 σ ρ _ _ (I.ev e1 k1) (fun S2 zs ys e2 k2 r2 h2 => ?_) h1
  obtain ⟨l1, l2, h2⟩ := h2
  refine ⟨by rw [r1.length]; exact l1, by rw [r2.length]; exact l2, fun x dx nx nd ne => ?_⟩
  have a1 := ev_new (o := .own x) nd k2
  have b1 := ok_new (o := .own x) nd k2
  have nx' : (S2.new dx (.own x)).H x = none := by
    show upd S2.H dx (.own x) x = none
    rw [upd_ne ne.symm]; exact nx
  have a2 := ev_newc (o := .ins C dx []) (c := .ins C []) nx' b1
  have b2 := ok_newc (K := K) (o := .ins C dx []) (c := .ins C []) nx' b1 ⟨dx, [], upd_same, rfl, .nil⟩
  have ee := (e1.trans e2).trans (a1.trans a2)
  obtain ⟨l3, h3⟩ := h2 x (k2.lno nx)
  refine ⟨(S2.new dx (.own x)).newc x (.ins C dx []) (.ins C []), gPerm is md (.ref x :: xs) ys, _, _, rfl, b2, gPerm_rp hm' (.cons (.ref x) ((r1.ev e2).ev (a1.trans a2))) (r2.ev (a1.trans a2)), l3, fun S' v d ev ok r hq => ?_, fun S' C' dd fs gs ev ok n1 n2 n3 n4 he => ?_, h3⟩
  · obtain ⟨rfl, d', L4, g, hq⟩ := hq
    cases r
    refine ⟨rfl, ?_⟩
    obtain ⟨T, t1, t2, e3, k3, r3⟩ := g K S' (.ref x) ok rfl (.ref x)
    subst t2
    have := R T _ d' ((ee.trans ev).trans e3) k3 r3 hq
    rw [t1] at this
    exact this
  · obtain ⟨L4, less, he⟩ := he
    have g1 := ev_gone (S := S') less
    exact I.wi (S'.gone L4) C' dd fs gs σ ρ ((ee.trans ev).trans g1) (ok_gone less ok) (I.sl.ev ((ee.trans ev).trans g1)) n1 n2 n3 (n4.ev g1) he
/-- C(e, .., k = v), a new instance -/
theorem d_new {is : List Nat} {ms : List V} {md : List D} (hm' : CRL K ms md) (G : Kx X.prog X.w X.K X.mg X.base (L2.CX X.prog X.w) k m qual st dvs kwd f ps (spD K nn sp)) (M : Mk X.K C f) (hcl : Calm X.A) (hr : Room (k + 1) X.A) (hb : ∀ fd, FunD X.K m qual (defArgs st) (defBody st) (defScope st) dvs kwd f fd → ∃ g, KBn X.K fd ps (n + 1) ks g (gPerm is ms))
    (hl : Gl X x) (hm : X.mg x = some (.ref C)) (ha : DA X K tr (e :: es) dr) (hkw : DK X K tk kws dk)
    (hall : (backToKw pos (keywordEach kws X.env)).all (·.1.isSome) = true := by rfl) (hks : (backToKw pos (keywordEach kws X.env)).filterMap (·.1) = ks := by rfl) (hdb : (x == ("__debug__" : Str)) = false := by decide)
    (he : starEach (e :: es) X.env = (false, eval e X.env) :: starEach es X.env := by rfl) (hpl : ((backTo pos (starEach (e :: es) X.env)).any (·.1) || (backToKw pos (keywordEach kws X.env)).any (·.1.isNone)) = false := by rfl) :
    DE X K (fun W => tCKS n ks.length (fun σ vs zs H Q => NewI C (spD K nn sp) (fun x => gPerm is ms (x :: vs) zs) H Q (WE W σ)) (tr W) (tk W)) (.Call (.Name x p) (e :: es) kws pos) (dNew C sp n ks.length (gPerm is md) nn dr dk) :=
  ⟨fun W t => pe_fnKS (callKS_mk G M hcl hr hb t) hl hm M.kp (ha.pa W t) (hkw.pk W t) hall hks hdb he hpl, sim_new hm' ha.sim hkw.sim⟩
theorem d_new0 {is : List Nat} {ms : List V} {md : List D} (hm' : CRL K ms md) (G : Kx X.prog X.w X.K X.mg X.base (L2.CX X.prog X.w) k m qual st dvs kwd f ps (spD K nn sp)) (M : Mk X.K C f) (hcl : Calm X.A) (hr : Room (k + 1) X.A) (hb : ∀ fd, FunD X.K m qual (defArgs st) (defBody st) (defScope st) dvs kwd f fd → ∃ g, KBn X.K fd ps (0 + 1) ks g (gPerm is ms))
    (hl : Gl X x) (hm : X.mg x = some (.ref C)) (hkw : DK X K tk kws dk)
    (hall : (backToKw pos (keywordEach kws X.env)).all (·.1.isSome) = true := by rfl) (hks : (backToKw pos (keywordEach kws X.env)).filterMap (·.1) = ks := by rfl) (hdb : (x == ("__debug__" : Str)) = false := by decide)
    (hpl : ((backTo pos (starEach [] X.env)).any (·.1) || (backToKw pos (keywordEach kws X.env)).any (·.1.isNone)) = false := by rfl) :
    DE X K (fun W => tCKS 0 ks.length (fun σ vs zs H Q => NewI C (spD K nn sp) (fun x => gPerm is ms (x :: vs) zs) H Q (WE W σ)) tNil (tk W)) (.Call (.Name x p) [] kws pos) (dNew C sp 0 ks.length (gPerm is md) nn dNil dk) :=
  ⟨fun W t => pe_fnKS0 (callKS_mk G M hcl hr hb t) hl hm M.kp (hkw.pk W t) hall hks hdb hpl, sim_new hm' (da_nil (X := X)).sim hkw.sim⟩
theorem dk_cons {kw : Keyword} (hp : ∀ W, Takes X W → PK X (kw :: kws) (tCons (ta W) (tr W))) (ha : SimE K ta da) (hr : SimA K tr dr) : DK X K (fun W => tCons (ta W) (tr W)) (kw :: kws) (dCons da dr) := ⟨hp, sim_cons ha hr⟩
/-! ### methods of built-in types -/
abbrev DRM := D → List D → Lc → DQ → Prop
def SimRM (K : PySem.W.Frag) (T : String) (r : V → List V → Hp → VK → Prop) (f : DRM) : Prop := ∀ (S S2 : Sta) (x : V) (a : D) (xs : List V) (as : List D) (Q : VK) (q : DQ), Ev S S2 → Ok K S → Ok K S2 → Rp K S.H S.Λ x a → RpL K S2.H S2.Λ xs as → RelQ K S2 Q q → f a as S2.L q → r x xs S2.H Q
/-- the receiver is of that type, ahead of the arguments -/
def tyD (L : Lc) (T : String) : D → Prop
  | .str _ => T = "str"
  | .lst _ => T = "list"
  | .dK _ => T = "dict"
  | .dT _ => T = "dict"
  | .ref a => (T = "list" ∧ ∃ ds, L a = some (.lst ds)) ∨ (T = "dict" ∧ ((∃ es, L a = some (.dK es)) ∨ ∃ es, L a = some (.dT es)))
  | _ => False
def dBM (T : String) (f : DRM) (o : DTE) (a : DTA) : DTE := fun w ρ L q => o w ρ L fun x L1 => tyD L1 T x ∧ a w ρ L1 fun ds L2 => f x ds L2 q
theorem tyD_ok {S : Sta} {T : String} {v : V} {d : D} (k : Ok K S) (r : Rp K S.H S.Λ v d) (h : tyD S.L T d) (nf : ∀ a, v = .ref a → ∀ o u, S.H a ≠ some (.frz o u)) : tyV K T v S.H := by
  cases r with
  | str x => exact h
  | lst n h1 h2 => exact .inl ⟨h, _, .of h1⟩
  | @dK a ks es n h1 h2 h3 =>
    rcases h1 with h1 | ⟨o, h1⟩
    · exact .inr (.inr (.inl ⟨h, .inl ⟨_, h1⟩⟩))
    · exact absurd h1 (nf _ rfl _ _)
  | @dT a ks es n h1 h2 h3 =>
    rcases h1 with h1 | ⟨o, h1⟩
    · exact .inr (.inr (.inl ⟨h, .inr ⟨_, h1⟩⟩))
    · exact absurd h1 (nf _ rfl _ _)
  | ref a =>
    rcases h with ⟨e, ds, h⟩ | ⟨e, h⟩
    · obtain ⟨_, xs, h1, h2⟩ := k.cell a _ h
      exact .inl ⟨e, _, .of h1⟩
    · rcases h with ⟨es, h⟩ | ⟨es, h⟩
      · obtain ⟨_, ks, h1, h2⟩ := k.cell a _ h
        exact .inr (.inr (.inl ⟨e, .inl ⟨_, h1⟩⟩))
      · obtain ⟨_, ks, h1, h2⟩ := k.cell a _ h
        exact .inr (.inr (.inl ⟨e, .inr ⟨_, h1⟩⟩))
  | _ => exact False.elim h
/-- lists and texts alone -/
def tyLS (L : Lc) (T : String) : D → Prop
  | .str _ => T = "str"
  | .lst _ => T = "list"
  | .ref a => T = "list" ∧ ∃ ds, L a = some (.lst ds)
  | _ => False
theorem tyLS_ok {S : Sta} {T : String} {v : V} {d : D} (k : Ok K S) (r : Rp K S.H S.Λ v d) (h : tyLS S.L T d) : tyV K T v S.H := by
  cases r with
  | str x => exact h
  | lst n h1 h2 => exact .inl ⟨h, _, .of h1⟩
  | ref a =>
    obtain ⟨e, ds, h⟩ := h
    obtain ⟨_, xs, h1, h2⟩ := k.cell a _ h
    exact .inl ⟨e, _, .of h1⟩
  | _ => exact False.elim h
def dBML (T : String) (f : DRM) (o : DTE) (a : DTA) : DTE := fun w ρ L q => o w ρ L fun x L1 => tyLS L1 T x ∧ a w ρ L1 fun ds L2 => f x ds L2 q
theorem d_bm {T id : String} {name : Str} {cpos : Pos} {r : V → List V → Hp → VK → Prop} {g : DRM} (hK : X.K = K) (pa : PlainAttrs T) (slot : Slot T name id) (hty : typeOf (.builtin id) = pure (.type "method_descriptor")) (hm : MtR X id r) (hs : SimRM K T r g) (ho : DE X K ta o da) (ha : DA X K tr (e :: es) dr)
    (hbase : attributeBase o name X.env (eval o X.env) = eval o X.env := by rfl)
    (hfew : ((backTo cpos (starEach (e :: es) X.env)).all (fun x => !x.1) && (backToKw cpos (keywordEach [] X.env)).all (fun x => x.1.isSome)
      && decide ((e :: es).length + ([] : List Keyword).length + (if ([] : List Keyword).isEmpty then 0 else 1) < 30)) = true := by rfl)
    (hline : (apos.endLine == cpos.line) = true := by rfl) (hst : starEach (e :: es) X.env = (false, eval e X.env) :: starEach es X.env := by rfl) (hplain : (backTo cpos (starEach es X.env)).any (·.1) = false := by rfl) :
    DE X K (fun W => tBM K T r (ta W) (tr W)) (.Call (.Attribute o name apos) (e :: es) [] cpos) (dBML T g da dr) := by
  subst hK
  refine ⟨fun W t => pe_bm pa slot hty hm (ho.pe W t) (ha.pa W t) hbase hfew hline hst hplain, fun W ew S σ ρ Q q I R h => ?_⟩
  refine ho.sim W ew S σ ρ _ _ I (fun S1 v x e1 k1 r1 h1 => ?_) h
  refine ⟨tyLS_ok k1 r1 h1.1, ?_⟩
  refine ha.sim W ew S1 σ ρ _ _ (I.ev e1 k1) (fun S2 vs xs e2 k2 r2 h2 => ?_) h1.2
  exact hs S1 S2 v x vs xs Q q e2 k1 k2 r1 r2 (R.ev (e1.trans e2)) h2
theorem d_bm0 {T id : String} {name : Str} {cpos : Pos} {r : V → List V → Hp → VK → Prop} {g : DRM} (hK : X.K = K) (pa : PlainAttrs T) (slot : Slot T name id) (hty : typeOf (.builtin id) = pure (.type "method_descriptor")) (hm : MtR X id r) (hs : SimRM K T r g) (ho : DE X K ta o da)
    (hbase : attributeBase o name X.env (eval o X.env) = eval o X.env := by rfl) (hline : (apos.endLine == cpos.line) = true := by rfl) :
    DE X K (fun W => tBM0 K T r (ta W)) (.Call (.Attribute o name apos) [] [] cpos) (dBML T g da dNil) := by
  subst hK
  refine ⟨fun W t => pe_bm0 pa slot hty hm (ho.pe W t) hbase hline, fun W ew S σ ρ Q q I R h => ?_⟩
  refine ho.sim W ew S σ ρ _ _ I (fun S1 v x e1 k1 r1 h1 => ?_) h
  exact ⟨tyLS_ok k1 r1 h1.1, hs S1 S1 v x [] [] Q q (.refl S1) k1 k1 r1 .nil (R.ev e1) h1.2⟩
/-- a cell's list is changed -/
def appendD : DRM := fun x xs L q => ∃ a ds y, x = .ref a ∧ xs = [y] ∧ L a = some (.lst ds) ∧ ds.length < sizeLine ∧ q .non (updL L a (.lst (ds ++ [y])))
theorem sim_append : SimRM K "list" rAppend appendD := by
  rintro S S2 x a xs as Q q e k k2 r rs R ⟨p, ds, y, rfl, rfl, h1, h2, h⟩
  cases r
  obtain ⟨v, rfl, rv⟩ := vals1R rs
  obtain ⟨_, us, h3, h4⟩ := k2.cell p _ h1
  have ev := ev_put (o := .lst (us ++ [v])) (c := .lst (ds ++ [y])) h1 k2
  exact ⟨p, us, v, rfl, rfl, h3, by rw [h4.length]; exact h2, R (S2.put p (.lst (us ++ [v])) (.lst (ds ++ [y]))) _ _ ev (ok_put h1 k2 ⟨_, upd_same, (h4.append (.cons rv .nil)).ev ev⟩) .non h⟩
def extendD : DRM := fun x xs L q => ∃ a ds y es, x = .ref a ∧ xs = [y] ∧ L a = some (.lst ds) ∧ vLst L y = some es ∧ ds.length + es.length ≤ sizeLine ∧ q .non (updL L a (.lst (ds ++ es)))
theorem sim_extend : SimRM K "list" rExtend extendD := by
  rintro S S2 x a xs as Q q e k k2 r rs R ⟨p, ds, y, es, rfl, rfl, h1, hy, h2, h⟩
  cases r
  obtain ⟨v, rfl, rv⟩ := vals1R rs
  obtain ⟨b, ws, rfl, h5, h6⟩ := vLst_ok k2 rv hy
  obtain ⟨_, us, h3, h4⟩ := k2.cell p _ h1
  have ev := ev_put (o := .lst (us ++ ws)) (c := .lst (ds ++ es)) h1 k2
  exact ⟨p, b, us, ws, rfl, rfl, h3, h5, by rw [h4.length, h6.length]; exact h2, R (S2.put p (.lst (us ++ ws)) (.lst (ds ++ es))) _ _ ev (ok_put h1 k2 ⟨_, upd_same, (h4.append h6).ev ev⟩) .non h⟩
def popAtD : DRM := fun x xs L q => ∃ a ds i j y, x = .ref a ∧ xs = [.int i] ∧ L a = some (.lst ds) ∧ -(2 ^ 63) ≤ i ∧ i < 2 ^ 63 ∧ seqIndex? i ds.length = some j ∧ ds[j]? = some y ∧ q y (updL L a (.lst (ds.eraseIdx j)))
theorem sim_popAt : SimRM K "list" rPopAt popAtD := by
  rintro S S2 x a xs as Q q e k k2 r rs R ⟨p, ds, i, j, y, rfl, rfl, h1, b1, b2, h2, hy, h⟩
  cases r
  obtain ⟨v, rfl, rv⟩ := vals1R rs
  cases rv
  obtain ⟨_, us, h3, h4⟩ := k2.cell p _ h1
  obtain ⟨u, hu, ru⟩ := h4.get hy
  have ev := ev_put (o := .lst (us.eraseIdx j)) (c := .lst (ds.eraseIdx j)) h1 k2
  exact ⟨p, us, i, j, u, rfl, rfl, h3, b1, b2, by rw [h4.length]; exact h2, hu, R (S2.put p (.lst (us.eraseIdx j)) (.lst (ds.eraseIdx j))) _ _ ev (ok_put h1 k2 ⟨_, upd_same, (h4.eraseIdx j).ev ev⟩) (ru.ev ev) h⟩
def reverseD : DRM := fun x xs L q => ∃ a ds, x = .ref a ∧ xs = [] ∧ L a = some (.lst ds) ∧ q .non (updL L a (.lst ds.reverse))
theorem sim_reverse : SimRM K "list" rReverse reverseD := by
  rintro S S2 x a xs as Q q e k k2 r rs R ⟨p, ds, rfl, rfl, h1, h⟩
  cases r; cases rs
  obtain ⟨_, us, h3, h4⟩ := k2.cell p _ h1
  have ev := ev_put (o := .lst us.reverse) (c := .lst ds.reverse) h1 k2
  exact ⟨p, us, rfl, rfl, h3, R (S2.put p (.lst us.reverse) (.lst ds.reverse)) _ _ ev (ok_put h1 k2 ⟨_, upd_same, h4.reverse.ev ev⟩) .non h⟩
/-- texts -/
def joinD : DRM := fun x xs L q => ∃ a y ys, x = .str a ∧ xs = [y] ∧ vSeq L y = some (List.map D.str ys) ∧ (ys.map (·.length)).sum + ys.length * a.length ≤ 16777216 ∧ q (.str (Txt.join a ys)) L
end
end Ed

set_option Elab.async false
set_option linter.all false
set_option maxRecDepth 100000
set_option maxHeartbeats 2000000
/-! Stars; texts; more methods; isinstance; dicts; raise, try. -/
namespace Ed
open PySem PySem.Spec PyProof.Rows L2 Dz
section
variable {X : Cx} {K : PySem.W.Frag} {k n : Nat} {f C : Addr} {ps ks : List Str} {sp : DSp} {x m qual : Str} {p pos apos cpos : Pos} {e o a b c : Expr} {es : List Expr} {kws : List Keyword} {tr tk : WX → TA} {dr dk : DTA} {st : Stmt} {dvs : List V} {kwd : List (Str × V)} {ta tb tc : WX → TE} {da db dc : DTE}
theorem dk_one {nm : Option Str} {kpos : Pos} (ha : DE X K ta e da) (hr : DK X K tr kws dr) : DK X K (fun W => tCons (ta W) (tr W)) (⟨nm, e, kpos⟩ :: kws) (dCons da dr) := ⟨fun W t => pk_cons (ha.pe W t) (hr.pk W t), sim_cons ha.sim hr.sim⟩
/-! stars -/
def dStar (a : DTE) (r : DTA) : DTA := fun w ρ L q => a w ρ L fun x L1 => ∃ ds, vSeq L1 x = some ds ∧ r w ρ L1 fun es L2 => q (ds ++ es) L2
theorem da_star {sp_ : Pos} (hK : X.K = K) (ha : DE X K ta a da) (hr : DA X K tr es dr) (hs : starEach (.Starred a sp_ :: es) X.env = (true, eval a X.env) :: starEach es X.env := by rfl) : DA X K (fun W => StX.tStar K (ta W) (tr W)) (.Starred a sp_ :: es) (dStar da dr) := by
  subst hK
  refine ⟨fun W t => StX.pa_star (ha.pe W t) (hr.pa W t) hs, fun W ew S σ ρ Q q I R h => ?_⟩
  refine ha.sim W ew S σ ρ _ _ I (fun S1 v x e1 k1 r1 h1 => ?_) h
  obtain ⟨ds, hv, h1⟩ := h1
  obtain ⟨p, xs, rfl, h2, h3⟩ := vSeq_ok k1 r1 hv
  refine ⟨p, xs, rfl, h2.symm, hr.sim W ew S1 σ ρ _ _ (I.ev e1 k1) (fun S2 vs ys e2 k2 r2 h4 => ?_) h1⟩
  exact R S2 _ _ (e1.trans e2) k2 ((h3.ev e2).append r2) h4
/-! texts -/
def rJoinA (K : PySem.W.Frag) : V → List V → Hp → VK → Prop := fun x xs H Q => ∃ a p, ∃ ys : List Str, x = .str a ∧ xs = [.ref p] ∧ (SqL K H p (ys.map V.str) ∨ SqT K H p (ys.map V.str)) ∧ (ys.map (·.length)).sum + ys.length * a.length ≤ 16777216 ∧ Q (.str (Txt.join a ys)) H
theorem mt_joinA (hK : X.K = K) : MtR X "str.join" (rJoinA K) := by subst hK; exact mt_join
theorem sim_join : SimRM K "str" (rJoinA K) joinD := by
  rintro S S2 x a xs as Q q e k k2 r rs R ⟨z, y, ys, rfl, rfl, h1, h2, h⟩
  cases r
  obtain ⟨v, rfl, rv⟩ := vals1R rs
  obtain ⟨p, us, rfl, h3, h4⟩ := vSeq_ok k2 rv h1
  exact ⟨z, p, ys, rfl, rfl, by rw [← h4.str_of]; exact h3, h2, R S2 _ _ (.refl S2) k2 (.str _) h⟩
def splitD : DRM := fun x xs L q => ∃ a b, x = .str a ∧ xs = [.str b] ∧ (b.length == 0) = false ∧ a.length + 2 ≤ sizeLine ∧ q (.lst ((Txt.split a b).map .str)) L
def rSplitA : V → List V → Hp → VK → Prop := fun x xs H Q => ∃ a b, x = .str a ∧ xs = [.str b] ∧ (b.length == 0) = false ∧ a.length + 2 ≤ sizeLine ∧ rNewStrs (Txt.split a b) H Q
theorem sim_split : SimRM K "str" rSplitA splitD := by
  rintro S S2 x a xs as Q q e k k2 r rs R ⟨z, b, rfl, rfl, h1, h2, h⟩
  cases r
  obtain ⟨v, rfl, rv⟩ := vals1R rs
  cases rv
  refine ⟨z, b, rfl, rfl, h1, h2, fun p np => ?_⟩
  have ev := ev_new (o := .lst ((Txt.split z b).map V.str)) np k2
  exact R _ _ _ ev (ok_new np k2) (.lst (k2.lam np) upd_same (RpL.strs (S := S2.new p _) _)) h
def upperD : DRM := fun x xs L q => ∃ a, x = .str a ∧ xs = [] ∧ a.length ≤ 5592405 ∧ q (.str (Txt.upper a)) L
theorem sim_upper : SimRM K "str" (fun x xs H Q => ∃ a, x = .str a ∧ xs = [] ∧ a.length ≤ 5592405 ∧ Q (.str (Txt.upper a)) H) upperD := by
  rintro S S2 x a xs as Q q e k k2 r rs R ⟨z, rfl, rfl, h1, h⟩
  cases r; cases rs
  exact ⟨z, rfl, rfl, h1, R S2 _ _ (.refl S2) k2 (.str _) h⟩
/-! lists -/
def insertD : DRM := fun x xs L q => ∃ a ds i y, x = .ref a ∧ xs = [.int i, y] ∧ L a = some (.lst ds) ∧ ds.length < sizeLine ∧ 0 ≤ i ∧ i < 2 ^ 63 ∧ q .non (updL L a (.lst (ds.take i.toNat ++ [y] ++ ds.drop i.toNat)))
def rInsert : V → List V → Hp → VK → Prop := fun x vs H Q => ∃ (l : Addr) (xs : List V) (i : Int) (y : V), x = .ref l ∧ vs = [.int i, y] ∧ H l = some (.lst xs) ∧ xs.length < sizeLine ∧ 0 ≤ i ∧ i < 2 ^ 63 ∧ Q .non (upd H l (.lst (xs.take i.toNat ++ [y] ++ xs.drop i.toNat)))
theorem sim_insert : SimRM K "list" rInsert insertD := by
  rintro S S2 x a xs as Q q e k k2 r rs R ⟨p, ds, i, y, rfl, rfl, h1, h2, b1, b2, h⟩
  cases r
  obtain ⟨v, w, rfl, rv, rw'⟩ := vals2R rs
  cases rv
  obtain ⟨_, us, h3, h4⟩ := k2.cell p _ h1
  have ev := ev_put (o := .lst (us.take i.toNat ++ [w] ++ us.drop i.toNat)) (c := .lst (ds.take i.toNat ++ [y] ++ ds.drop i.toNat)) h1 k2
  exact ⟨p, us, i, w, rfl, rfl, h3, by rw [h4.length]; exact h2, b1, b2, R (S2.put p _ _) _ _ ev (ok_put h1 k2 ⟨_, upd_same, (((h4.take _).append (.cons rw' .nil)).append (h4.drop _)).ev ev⟩) .non h⟩
def indexD : DRM := fun x xs L q => ∃ ds y us u j z, vRd L x = some ds ∧ xs = [y] ∧ scA ds = some us ∧ sc y = some u ∧ us[j]? = some z ∧ eqV z u = true ∧ (∀ m z', m < j → us[m]? = some z' → eqV z' u = false) ∧ q (.int (j : Nat)) L
/-! isinstance -/
def kindD (L : Lc) : D → Option String
  | .non => some "NoneType"
  | .bl _ => some "bool"
  | .int _ => some "int"
  | .str _ => some "str"
  | .lst _ => some "list"
  | .tup _ => some "tuple"
  | .ctup _ => some "tuple"
  | .scr _ => some "list"
  | .dK _ => some "dict"
  | .ref a => match L a with
    | some (.lst _) => some "list"
    | some (.dK _) => some "dict"
    | some (.dT _) => some "dict"
    | _ => none
  | _ => none
theorem kind_ok {S : Sta} {v : V} {d : D} {s : String} (k : Ok K S) (r : Rp K S.H S.Λ v d) (h : kindD S.L d = some s) : TyX K S.H v (.type s) := by
  cases r with
  | non => cases h; exact .base .non
  | bl b => cases h; exact .base (.bl b)
  | int i => cases h; exact .base (.int i)
  | str x => cases h; exact .base (.str x)
  | lst n h1 h2 => cases h; exact .base (.lst h1)
  | tup n h1 h2 => cases h; exact .base (.tup h1)
  | ctup h1 h2 =>
    cases h
    obtain ⟨o, its, n, l, c, _⟩ := h1
    exact .kTuple l c
  | scr h1 _ =>
    cases h
    rcases h1 with ⟨_, h1 | ⟨o, h1⟩⟩ | ⟨o, its, n, l, c, _⟩
    · exact .base (.lst h1)
    · exact .base (.frz h1)
    · exact .kList l c
  | dK n h1 h2 h3 =>
    cases h
    rcases h1 with h1 | ⟨o, h1⟩
    · exact .base (.dK h1)
    · exact .fDict h1
  | ref a =>
    unfold kindD at h
    cases e : S.L a with
    | none => simp [e] at h
    | some c =>
      cases c with
      | lst ds =>
        simp [e] at h; subst h
        obtain ⟨_, xs, h1, _⟩ := k.cell a _ e
        exact .base (.lst h1)
      | dK ds =>
        simp [e] at h; subst h
        obtain ⟨_, xs, h1, _⟩ := k.cell a _ e
        exact .base (.dK h1)
      | dT ds =>
        simp [e] at h; subst h
        obtain ⟨_, xs, h1, _⟩ := k.cell a _ e
        exact .base (.dT h1)
      | ins C fs => simp [e] at h
  | _ => cases h
/-- what a class of errors tells of itself -/
structure EIs (K : PySem.W.Frag) (C : Addr) : Prop where
  ei : EI K C
/-- isinstance(x, T), T a built-in class -/
def isiD : DRL := fun xs L q => ∃ x T s b, xs = [x, .ty T] ∧ kindD L x = some s ∧ kitB s T = some b ∧ q (.bl b) L
def rIsiB (K : PySem.W.Frag) : List V → Hp → VK → Prop := fun xs H Q => rIsi K xs H Q ∨ rIsiT K xs H Q
theorem call_isiA (hK : X.K = K) : CallR X (.builtin "isinstance") (rIsiB K) := by subst hK; exact call_isi.or call_isiT
theorem sim_isi : SimRL K (rIsiB K) isiD := by
  rintro S xs as Q q k r R ⟨x, T, s, b, rfl, h1, h2, h⟩
  obtain ⟨v, w, rfl, rv, rw'⟩ := vals2R r
  cases rw'
  exact .inl ⟨v, .ty T, .type s, .type T, b, rfl, .ty T, kind_ok k rv h1, kit_ty h2, R S _ _ (.refl S) k (.bl _) h⟩
/-- isinstance(x, (T, U)) -/
def isi2D : DRL := fun xs L q => ∃ x T U s b c, xs = [x, .tup [.ty T, .ty U]] ∧ kindD L x = some s ∧ kitB s T = some b ∧ kitB s U = some c ∧ q (.bl (b || c)) L
theorem sim_isi2 : SimRL K (rIsiB K) isi2D := by
  rintro S xs as Q q k r R ⟨x, T, U, s, b, c, rfl, h1, h2, h3, h⟩
  obtain ⟨v, w, rfl, rv, rw'⟩ := vals2R r
  cases rw' with
  | @tup tp us _ _ t1 r1 =>
  obtain ⟨u1, u2, rfl, ra, rb⟩ := vals2R r1
  cases ra; cases rb
  refine .inr ⟨v, tp, [.ty T, .ty U], .type s, [.type T, .type U], b || c, rfl, t1, .cons (.ty T) (.cons (.ty U) .nil), kind_ok k rv h1, ?_, R S _ _ (.refl S) k (.bl _) h⟩
  refine kitAny_cons (kit_ty h2) (fun hb => ?_) (fun hb => by rw [hb]; rfl)
  refine kitAny_cons (kit_ty h3) (fun hc => ?_) (fun hc => by rw [hc]; simp)
  rw [hb, hc]; rfl
/-! ### dicts -/
def dDK : DTE := fun _ _ L q => q (.dK []) L
def dDT : DTE := fun _ _ L q => q (.dT []) L
def dDKC : DTE := fun _ _ L q => ∀ p, L p = none → q (.ref p) (updL L p (.dK []))
def dDTC : DTE := fun _ _ L q => ∀ p, L p = none → q (.ref p) (updL L p (.dT []))
theorem d_dK : DE X K (fun _ => tDNewK) (.Dict [] [] pos) dDK := ⟨fun _ _ => pe_dnewK, fun W ew S σ ρ Q q I R h p np => R (S.new p (.dK [])) _ _ (ev_new np I.ok) (ok_new np I.ok) (.dK (I.ok.lam np) (.inl upd_same) rfl .nil) h⟩
theorem d_dT : DE X K (fun _ => tDNewT) (.Dict [] [] pos) dDT := ⟨fun _ _ => pe_dnewT, fun W ew S σ ρ Q q I R h p np => R (S.new p (.dT [])) _ _ (ev_new np I.ok) (ok_new np I.ok) (.dT (I.ok.lam np) (.inl upd_same) rfl .nil) h⟩
theorem d_dKC : DE X K (fun _ => tDNewK) (.Dict [] [] pos) dDKC := ⟨fun _ _ => pe_dnewK, fun W ew S σ ρ Q q I R h p np => R (S.newc p (.dK []) (.dK [])) _ _ (ev_newc np I.ok) (ok_newc np I.ok ⟨[], upd_same, rfl, .nil⟩) (.ref p) (h p (I.ok.lno np))⟩
theorem d_dTC : DE X K (fun _ => tDNewT) (.Dict [] [] pos) dDTC := ⟨fun _ _ => pe_dnewT, fun W ew S σ ρ Q q I R h p np => R (S.newc p (.dT []) (.dT [])) _ _ (ev_newc np I.ok) (ok_newc np I.ok ⟨[], upd_same, rfl, .nil⟩) (.ref p) (h p (I.ok.lno np))⟩
/-- d.get(k), d.get(k, x) -/
def isDD (L : Lc) (x : D) : Prop := (∃ es, vDK L x = some es) ∨ ∃ es, vDT L x = some es
theorem isDD_ok {S : Sta} {v : V} {d : D} (k : Ok K S) (r : Rp K S.H S.Λ v d) (h : isDD S.L d) : ∃ a, v = .ref a ∧ IsD S.H a := by
  rcases h with ⟨es, h⟩ | ⟨es, h⟩
  · obtain ⟨a, ks, rfl, h1, _⟩ := vDK_ok k r h
    exact ⟨a, rfl, .inl ⟨ks, h1⟩⟩
  · obtain ⟨a, ks, rfl, h1, _⟩ := vDT_ok k r h
    exact ⟨a, rfl, .inr ⟨ks, h1⟩⟩
def dGet1 (o y : DTE) : DTE := fun w ρ L q => o w ρ L fun x L1 => isDD L1 x ∧ y w ρ L1 fun z L2 => ∃ r, DGetD L2 x z r ∧ q (r.getD .non) L2
def dGet2 (o y u : DTE) : DTE := fun w ρ L q => o w ρ L fun x L1 => isDD L1 x ∧ y w ρ L1 fun z L2 => u w ρ L2 fun d L3 => ∃ r, DGetD L3 x z r ∧ q (r.getD d) L3
theorem d_get1 (hu : X.A.units + 1 < cLine) (ho : DE X K ta o da) (he : DE X K tb b db) (m : M1 X o "get" apos b cpos) : DE X K (fun W => tDGet1 (ta W) (tb W)) (.Call (.Attribute o "get" apos) [b] [] cpos) (dGet1 da db) := by
  refine ⟨fun W t => pe_dget1 hu (ho.pe W t) (he.pe W t) m, fun W ew S σ ρ Q q I R h => ?_⟩
  refine ho.sim W ew S σ ρ _ _ I (fun S1 v x e1 k1 r1 h1 => ?_) h
  obtain ⟨a, rfl, hd⟩ := isDD_ok k1 r1 h1.1
  refine ⟨a, rfl, hd, he.sim W ew S1 σ ρ _ _ (I.ev e1 k1) (fun S2 u y e2 k2 r2 h2 => ?_) h1.2⟩
  obtain ⟨r, g, h2⟩ := h2
  obtain ⟨a', w, ea, g', hw⟩ := g.ok k2 (r1.ev e2) r2
  cases ea
  refine ⟨w, g', ?_⟩
  rcases hw with ⟨rfl, rfl⟩ | ⟨d, z, rfl, rfl, rz⟩
  · exact R S2 _ _ (e1.trans e2) k2 .non h2
  · exact R S2 _ _ (e1.trans e2) k2 rz h2
theorem d_get2 (hu : X.A.units + 1 < cLine) (ho : DE X K ta o da) (he : DE X K tb b db) (hc : DE X K tc c dc) (m : M2 X o "get" apos b c cpos) : DE X K (fun W => tDGet2 (ta W) (tb W) (tc W)) (.Call (.Attribute o "get" apos) [b, c] [] cpos) (dGet2 da db dc) := by
  refine ⟨fun W t => pe_dget2 hu (ho.pe W t) (he.pe W t) (hc.pe W t) m, fun W ew S σ ρ Q q I R h => ?_⟩
  refine ho.sim W ew S σ ρ _ _ I (fun S1 v x e1 k1 r1 h1 => ?_) h
  obtain ⟨a, rfl, hd⟩ := isDD_ok k1 r1 h1.1
  refine ⟨a, rfl, hd, he.sim W ew S1 σ ρ _ _ (I.ev e1 k1) (fun S2 u y e2 k2 r2 h2 => ?_) h1.2⟩
  refine hc.sim W ew S2 σ ρ _ _ (I.ev (e1.trans e2) k2) (fun S3 t d e3 k3 r3 h3 => ?_) h2
  obtain ⟨r, g, h3⟩ := h3
  obtain ⟨a', w, ea, g', hw⟩ := g.ok k3 ((r1.ev e2).ev e3) (r2.ev e3)
  cases ea
  refine ⟨w, g', ?_⟩
  rcases hw with ⟨rfl, rfl⟩ | ⟨d, z, rfl, rfl, rz⟩
  · exact R S3 _ _ ((e1.trans e2).trans e3) k3 r3 h3
  · exact R S3 _ _ ((e1.trans e2).trans e3) k3 rz h3
/-! ### raise, try -/
def dRaise (C : Addr) (g : Str) (a : DTA) : DTS := fun w _ ρ L => a w ρ L fun xs L1 => ∃ y, xs = [y] ∧ w C [(g, y)] ρ L1
theorem ds_raise {g : Str} {fI : Addr} (T : Er X.K X.mg x g C fI) (G : Kp X.prog X.w X.K X.mg X.base CX0 k fI ["self", "found"] [] (spErr g C)) (hc : X.calm = true) (hcl : Calm X.A) (hr : Room (k + 1) X.A) (hg : Gl X x) (ha : DA X K tr (e :: es) dr)
    (hdb : (x == ("__debug__" : Str)) = false := by decide) (hst : starEach (e :: es) X.env = (false, eval e X.env) :: starEach es X.env := by rfl) (hpl : (backTo pos (starEach es X.env)).any (·.1) = false := by rfl) {pos' : Pos} :
    DS X K (fun W => tRz W (tMkE C g (tr W))) (.Raise (some (.Call (.Name x p) (e :: es) [] pos)) none pos') (dRaise C g dr) := by
  refine ⟨fun W t => ps_rz hc t (pmk_err T G hcl hr hg (ha.pa W t) hdb hst hpl), fun W ew S σ ρ D d I R h => ?_⟩
  refine ha.sim W ew S σ ρ _ _ I (fun S1 vs xs e1 k1 r1 h1 => ?_) h
  obtain ⟨y, rfl, h1⟩ := h1
  obtain ⟨v, rfl, rv⟩ := vals1R r1
  refine ⟨v, rfl, fun dd nd => ?_⟩
  have ev := ev_new (o := .xd [(g, v)]) nd k1
  exact I.wi (S1.new dd (.xd [(g, v)])) C dd [(g, v)] [(g, y)] σ ρ (e1.trans ev) (ok_new nd k1) (I.sl.ev (e1.trans ev)) (k1.lam nd) upd_same rfl (.cons (rv.ev ev) .nil) h1
/-- a clause: its class, its name's slot, its suite (by the error's own places) -/
structure DCl where
  c : Addr
  i : Option Nat
  ds : Addr → Addr → Addr → DTS
def DEnds.gone (D : DEnds) : Option Nat → DEnds
  | some i => ⟨fun ρ L => D.nx (ρ.set i none) L, D.rt, fun ρ L => D.bk (ρ.set i none) L, fun ρ L => D.ct (ρ.set i none) L⟩
  | none => D
def dput (ρ : Dv) (d : D) : Option Nat → Dv
  | some i => ρ.set i (some d)
  | none => ρ
/-- the clauses, one behind the other -/
def dCls (K : PySem.W.Frag) (w : EW) (D : DEnds) : List (Option DCl) → EW
  | [] => w
  | none :: _ => fun _ _ _ _ => False
  | some q :: l => fun C gs ρ L => ∃ b, PySem.W.exmOne K (.ref C) (.ref q.c) = some b ∧ (b = true → ∀ a dd, q.ds a dd C noW (D.gone q.i) (dput ρ (.exo a dd C gs) q.i) L) ∧ (b = false → dCls K w D l C gs ρ L)
def dTry (K : PySem.W.Frag) (tb : DTS) (l : List (Option DCl)) : DTS := fun w D ρ L => tb (dCls K w D l) D ρ L
inductive DHds (X : Cx) (K : PySem.W.Frag) : List ExceptHandler → List (Option Cl) → List (Option DCl) → Prop
  | nil : DHds X K [] [] []
  | never {hds : List ExceptHandler} : DHds X K hds [none] [none]
  | as_ {x n : Str} {c : Addr} {i : Nat} {ts : Addr → Value → Option Addr → WX → TS} {ds : Addr → Addr → Addr → DTS} {b₀ : Stmt} {suite : List Stmt} {np pos' : Pos} {hds : List ExceptHandler} {l : List (Option Cl)} {dl : List (Option DCl)} (hi : X.N[i]? = some n) (hln : X.env.kindOf n = some .local) (hc : Names X x (.ref c))
      (hsu : ∀ (a : Addr) (oe : Obj) (cls : Value) (d : Option Addr) (pn : List (Addr × Obj)), Zc cls d oe → (∃ vs, oe.data = .fields vs) → ∀ W, Takes (X.suite a ((a, oe) :: pn)) W → PSs (X.suite a ((a, oe) :: pn)) (b₀ :: suite) (ts a cls d W))
      (sim : ∀ a dd C, SimS K (ts a (.ref C) (some dd)) (ds a dd C)) (r : DHds X K hds l dl) :
      DHds X K (.ExceptHandler (some (.Name x np)) (some n) (b₀ :: suite) pos' :: hds) (some ⟨.ref c, some i, fun a cls d => ts a cls d fun _ _ _ _ => False⟩ :: l) (some ⟨c, some i, ds⟩ :: dl)
  | plain {x : Str} {c : Addr} {ts : Addr → Value → Option Addr → WX → TS} {ds : Addr → Addr → Addr → DTS} {b₀ : Stmt} {suite : List Stmt} {np pos' : Pos} {hds : List ExceptHandler} {l : List (Option Cl)} {dl : List (Option DCl)} (hc : Names X x (.ref c))
      (hsu : ∀ (a : Addr) (oe : Obj) (cls : Value) (d : Option Addr) (pn : List (Addr × Obj)), Zc cls d oe → (∃ vs, oe.data = .fields vs) → ∀ W, Takes (X.suite a ((a, oe) :: pn)) W → PSs (X.suite a ((a, oe) :: pn)) (b₀ :: suite) (ts a cls d W))
      (sim : ∀ a dd C, SimS K (ts a (.ref C) (some dd)) (ds a dd C)) (r : DHds X K hds l dl) :
      DHds X K (.ExceptHandler (some (.Name x np)) none (b₀ :: suite) pos' :: hds) (some ⟨.ref c, none, fun a cls d => ts a cls d fun _ _ _ _ => False⟩ :: l) (some ⟨c, none, ds⟩ :: dl)
theorem DHds.hds {hds : List ExceptHandler} {l : List (Option Cl)} {dl : List (Option DCl)} (h : DHds X K hds l dl) : Hds X hds l := by
  induction h with
  | nil => exact .nil
  | never => exact .never
  | as_ hi hln hc hsu sim r ih => exact .as_ hi hln hc (fun a oe cls d pn hz hf => hsu a oe cls d pn hz hf _ takes0) ih
  | plain hc hsu sim r ih => exact .plain hc (fun a oe cls d pn hz hf => hsu a oe cls d pn hz hf _ takes0) ih
theorem noW_rel {S : Sta} : RelW K S (fun _ _ _ _ => False) noW := fun _ _ _ _ _ _ _ _ _ _ _ _ _ _ z => z.elim
/-- what the clauses wish, of both levels -/
theorem cls_rel {hds : List ExceptHandler} {l : List (Option Cl)} {dl : List (Option DCl)} (h : DHds X K hds l dl) {S : Sta} {W : WX} {ew : EW} {D : Ends} {d : DEnds} (hw : RelW K S W ew) (hd : RelD K S D d) : RelW K S (wN K W D l) (dCls K ew d dl) := by
  induction h with
  | nil => exact hw
  | never => exact fun _ _ _ _ _ _ _ _ _ _ _ _ _ _ z => z.elim
  | @as_ x n c i ts ds b₀ suite np pos' hds l dl hi hln hc hsu sim r ih =>
    intro S' C dd fs gs σ ρ ev ok s n1 n2 n3 n4 hh
    obtain ⟨b, hb, yes, no⟩ := hh
    refine ⟨b, hb, fun e a na => ?_, fun e => ih S' C dd fs gs σ ρ ev ok s n1 n2 n3 n4 (no e)⟩
    refine sim a dd C _ noW S' (σ.set i (some (.ref a))) (ρ.set i (some (.exo a dd C gs))) (Ends.gone D (some i)) (DEnds.gone d (some i)) ⟨ok, s.set (.exo n1 n2 n3 n4), noW_rel⟩ ⟨fun T σ2 ρ2 ev2 ok2 s2 h2 => ?_, hd.rt.ev ev, fun T σ2 ρ2 ev2 ok2 s2 h2 => ?_, fun T σ2 ρ2 ev2 ok2 s2 h2 => ?_⟩ (yes e a dd)
    · exact hd.nx T _ _ (ev.trans ev2) ok2 s2.unset h2
    · exact hd.bk T _ _ (ev.trans ev2) ok2 s2.unset h2
    · exact hd.ct T _ _ (ev.trans ev2) ok2 s2.unset h2
  | @plain x c ts ds b₀ suite np pos' hds l dl hc hsu sim r ih =>
    intro S' C dd fs gs σ ρ ev ok s n1 n2 n3 n4 hh
    obtain ⟨b, hb, yes, no⟩ := hh
    refine ⟨b, hb, fun e a na => ?_, fun e => ih S' C dd fs gs σ ρ ev ok s n1 n2 n3 n4 (no e)⟩
    exact sim a dd C _ noW S' σ ρ _ _ ⟨ok, s, noW_rel⟩ (hd.ev ev) (yes e a dd)
theorem ds_try {body : List Stmt} {h₀ : ExceptHandler} {hds : List ExceptHandler} {l : List (Option Cl)} {dl : List (Option DCl)} {tb : WX → TS} {db : DTS} (hK : X.K = K) (hs : X.stack = X.env :: X.outer) (hf : X.env.frame = some X.env.locals) (hN : X.N.Nodup)
    (hb : ∀ (pn : List (Addr × Obj)) (xe : Value → Shared → Prop), PassesOwn (model X.prog X.w) X.A X.env xe → DSs (X.tr pn xe) K tb body db) (hh : DHds X K (h₀ :: hds) l dl) :
    DS X K (fun W => tTryN tb K W l) (.Try body (h₀ :: hds) [] [] pos) (dTry K db dl) := by
  subst hK
  refine ⟨fun W t => ps_tryN hs hf hN t (fun W pn xe tk po => (hb pn xe po).ps W tk) hh.hds, fun W ew S σ ρ D d I R h => ?_⟩
  have B := hb [] (fun _ _ => False) PassesOwn.never
  exact B.sim _ _ S σ ρ D d ⟨I.ok, I.sl, cls_rel hh I.wi R⟩ R h
/-- e.f of a caught error -/
def dXf (a dd C : Addr) (g : Str) (o : DTE) : DTE := fun w ρ L q => o w ρ L fun x L1 => ∃ gs d, x = .exo a dd C gs ∧ gs.lookup g = some d ∧ q d L1
end
end Ed

set_option Elab.async false
set_option linter.all false
set_option maxRecDepth 100000
set_option maxHeartbeats 2000000
/-! x in l, where one turn may change the state. -/
namespace Ed
open PySem PySem.Spec PySem.SeqAt
open AutoSeq1 (wpAny_loadPart')
open MeetsSeq MeetsSeq2 MeetsSeq3 SeqRoads2
section
variable {prog : Program} {w : World} {A : Around} {R : Result → Shared → Prop}
def TurnI (prog : Program) (w : World) (A : Around) (E : Value → Shared → Prop) (l : Addr) (x : Value) (N : Nat) (I : Nat → Shared → Prop) (Y : Shared → Prop) : Prop :=
  ∀ i s, I i s → ∃ (items : Array Value) (n : Nat), s.heap.get? l = some { cls := .type "list", data := .seq items n } ∧ items.size = N ∧
    ∀ h1 : i < items.size, wpAny (model prog w) A.in1 (eqBool items[i] x) (fun r s' => (r = true → Y s') ∧ (r = false → I (i + 1) s')) E s
theorem contains_loopG (l : Addr) (x : Value) (N : Nat) (I : Nat → Shared → Prop) (Y : Shared → Prop) (hl : TurnI prog w A (fun e s' => R (.error e) s') l x N I Y)
    (yes : ∀ s, Y s → R (.ok (.ret (.bool true))) s) (fin : ∀ s, I N s → R (.ok (.ret (.bool false))) s) (k : Nat) :
    ∀ i : Nat, N - i = k → i ≤ N → ∀ s, I i s →
      wpAny (model prog w) A.in1 (Builtin.«list.__contains__.loop» ⟨[.ref l, x, rawInt i], []⟩) (GQ.FinOf prog w A R) (fun e s' => R (.error e) s') s := by
  induction k with
  | zero =>
    intro i hk hi s h
    obtain ⟨items, n, hl1, hs1, _⟩ := hl _ _ h
    have hi' : i = N := by omega
    have hR : R (.ok (.ret (.bool false))) s := fin s (hi' ▸ h)
    obtain ⟨hp, g, d, tk, os⟩ := s
    wp_walk using wpAny_loadPart' hl1
    have hi1 : items[((i : Nat) : Int).toNat]? = none := by simp; omega
    rw [hi1]
    wp_walk
    exact hR
  | succ k ih =>
    intro i hk hi s h
    obtain ⟨items, n, hl1, hs1, turn⟩ := hl _ _ h
    have hlt : i < items.size := by omega
    have ht := turn hlt
    obtain ⟨hp, g, d, tk, os⟩ := s
    wp_walk using wpAny_loadPart' hl1
    have hi1 : items[((i : Nat) : Int).toNat]? = some items[i] := by simp [hlt]
    have hc : ((i : Int) + 1) = ((i + 1 : Nat) : Int) := by omega
    rw [hi1]
    refine wpAny_bind (wpAny_mono ht (fun r s2 h2 => ?_) fun _ _ x => x)
    cases r with
    | true =>
      have y := yes s2 (h2.1 rfl)
      obtain ⟨hp2, g2, d2, tk2, os2⟩ := s2
      wp_walk
      exact y
    | false =>
      have hrec := ih (i + 1) (by omega) (by omega) s2 (h2.2 rfl)
      obtain ⟨hp2, g2, d2, tk2, os2⟩ := s2
      wp_walk
      rw [hc]
      exact ⟨plainId_quiet plain_contains_loop _, codeAny_builtin entry_contains_loop (by
        rw [Around.under_plainId plain_contains_loop _]
        exact hrec)⟩
theorem list_containsG (l : Addr) (x : Value) (N : Nat) (I : Nat → Shared → Prop) (Y : Shared → Prop) (hl : TurnI prog w A (fun e s' => R (.error e) s') l x N I Y)
    (yes : ∀ s, Y s → R (.ok (.ret (.bool true))) s) (fin : ∀ s, I N s → R (.ok (.ret (.bool false))) s) {s : Shared} (h : I 0 s) :
    wpAny (model prog w) A.in1 (Builtin.«list.__contains__» ⟨[.ref l, x], []⟩) (GQ.FinOf prog w A R) (fun e s' => R (.error e) s') s := by
  obtain ⟨items, n, hl1, hs1, _⟩ := hl _ _ h
  have hrec := contains_loopG (A := A) (R := R) l x N I Y hl yes fin _ 0 rfl (Nat.zero_le _) s h
  obtain ⟨hp, g, d, tk, os⟩ := s
  wp_walk using wpAny_loadPart' hl1
  exact ⟨plainId_quiet plain_contains_loop _, codeAny_builtin entry_contains_loop (by
    rw [Around.under_plainId plain_contains_loop _]
    exact hrec)⟩
end
section
variable {prog : Program} {w : World} {A : Around} {E : Value → Shared → Prop} {s : Shared}
theorem call_containsG {l : Addr} {x : Value} {N : Nat} {Q : Value → Shared → Prop} (I : Nat → Shared → Prop) (Y : Shared → Prop) (hl : TurnI prog w A E l x N I Y)
    (yes : ∀ s, Y s → Q (.bool true) s) (fin : ∀ s, I N s → Q (.bool false) s) (h : I 0 s) : wpAny (model prog w) A (call (.builtin "list.__contains__") [.ref l, x]) Q E s := by
  obtain ⟨items, n, hl1, _, _⟩ := hl _ _ h
  refine GQ.call_here F.slot_list_contains ⟨_, hl1, rfl⟩ F.entry_list_contains (F.args_list_contains_2 _ _) ?_
  exact list_containsG (R := wants Q E) l x N I Y hl (fun s' q => yes s' q) (fun s' q => fin s' q) h
end
end Ed

set_option Elab.async false
set_option linter.all false
set_option maxRecDepth 100000
set_option maxHeartbeats 2000000
/-! A text's own class: ==, in, isinstance, str. -/
namespace Ed
open PySem PySem.Spec PyProof.Rows L2 Dz
def noE : DE_ := fun _ _ _ => False
theorem relE_no {K : PySem.W.Frag} {S : Sta} : RelE K S E0 noE := fun _ _ _ _ _ _ _ _ _ _ _ z => z.elim
theorem passX0 {X : Cx} : Passes (L2.CX X.prog X.w) X E0 := fun _ _ _ _ _ _ _ h => by
  obtain ⟨_, _, _, _, _, _, _, _, _, _, _, _, z⟩ := h
  exact z.elim
/-- an operation as its data tell it -/
def rOf (K : PySem.W.Frag) (f : DR2) : R2 := fun x y H Q => ∃ (S : Sta) (a b : D) (q : DQ), S.H = H ∧ Ok K S ∧ Rp K S.H S.Λ x a ∧ Rp K S.H S.Λ y b ∧ RelQ K S Q q ∧ f a b S.L q
theorem sim_of {K : PySem.W.Frag} {f : DR2} : SimR2 K (rOf K f) f := fun S x y a b Q q k rx ry R h => ⟨S, a, b, q, rfl, k, rx, ry, R, h⟩
def rOfL (K : PySem.W.Frag) (f : DRL) : List V → Hp → VK → Prop := fun xs H Q => ∃ (S : Sta) (as : List D) (q : DQ), S.H = H ∧ Ok K S ∧ RpL K S.H S.Λ xs as ∧ RelQ K S Q q ∧ f as S.L q
theorem sim_ofL {K : PySem.W.Frag} {f : DRL} : SimRL K (rOfL K f) f := fun S xs as Q q k r R h => ⟨S, as, q, rfl, k, r, R, h⟩
/-- kinds of built-in things whose type is known -/
def kind5 (L : Lc) : D → Option String
  | .non => some "NoneType"
  | .bl _ => some "bool"
  | .int _ => some "int"
  | .str _ => some "str"
  | .lst _ => some "list"
  | .tup _ => some "tuple"
  | .ref a => match L a with
    | some (.lst _) => some "list"
    | some (.dK _) => some "dict"
    | _ => none
  | _ => none
theorem kind5_ok {K : PySem.W.Frag} {S : Sta} {v : V} {d : D} {s : String} (k : Ok K S) (r : Rp K S.H S.Λ v d) (h : kind5 S.L d = some s) : Ty5 S.H v (.type s) := by
  cases r with
  | non => cases h; exact .non
  | bl b => cases h; exact .bl b
  | int i => cases h; exact .int i
  | str x => cases h; exact .str x
  | lst n h1 h2 => cases h; exact .lst h1
  | tup n h1 h2 => cases h; exact .tup h1
  | ref a =>
    unfold kind5 at h
    cases e : S.L a with
    | none => simp [e] at h
    | some c =>
      cases c with
      | lst ds =>
        simp [e] at h; subst h
        obtain ⟨_, xs, h1, _⟩ := k.cell a _ e
        exact .lst h1
      | dK ds =>
        simp [e] at h; subst h
        obtain ⟨_, xs, h1, _⟩ := k.cell a _ e
        exact .dK h1
      | dT ds => simp [e] at h
      | ins C fs => simp [e] at h
  | _ => cases h
def b7 : List String := ["NoneType", "bool", "int", "str", "list", "tuple", "dict"]
theorem kind5_b7 {L : Lc} {d : D} {s : String} (h : kind5 L d = some s) : s ∈ b7 := by
  unfold kind5 at h
  split at h
  any_goals (cases h; simp [b7])
  · split at h <;> first | cases h; done | (cases h; simp [b7])
  · cases h
theorem kindD_b7 {L : Lc} {d : D} {s : String} (h : kindD L d = some s) : s ∈ b7 := by
  unfold kindD at h
  split at h
  any_goals (cases h; simp [b7])
  · split at h <;> first | cases h; done | (cases h; simp [b7])
  · cases h
/-- what the top tells of an own class with its own == -/
structure OwnC (K : PySem.W.Frag) (C : Addr) : Prop where
  cl : Cls K C
  ca : PySem.W.findIn K (.ref C) "__class__" = some (some (.builtin "object.__class__"))
  cn : PySem.W.specialIn K (.builtin "object.__class__") "__get__" = some (some (.builtin "getset_descriptor.__get__"))
  ct : PySem.W.takesIn K (.builtin "object.__class__") = some true
  cm : PySem.W.mroIn K C (.type "object") = some true
  ic : PySem.W.isClsIn K C = true
  ty : PySem.W.typeIn K (.ref C) = some (.type "type")
  ns : NoSub K C
  nb : ∀ T, T ∈ b7 → PySem.W.subIn K (.type T) (.ref C) = some false
  nf : ∀ T, T ∈ b7 → PySem.W.notFirst K C (.type T) = true
theorem nf_self {K : PySem.W.Frag} {C : Addr} : PySem.W.notFirst K C (.ref C) = true := by simp [PySem.W.notFirst]
theorem kitOwn {K : PySem.W.Frag} {C : Addr} (c : OwnC K C) {T : String} (h : T ∈ b7) : PySem.W.kitOne K (.type T) (.ref C) = some false := by
  unfold PySem.W.kitOne PySem.W.kitCls
  rw [if_neg (by intro z; cases z)]
  have e : ((PySem.W.clsIn K C).isSome && PySem.W.typeIn K (.ref C) == some (.type "type")) = true := by
    rw [c.ty]
    have := c.ic
    unfold PySem.W.isClsIn at this
    simp [this]
  show (if _ = true then _ else none) = _
  rw [if_pos e]
  exact c.nb T h
theorem kitSelf {K : PySem.W.Frag} {C : Addr} : PySem.W.kitOne K (.ref C) (.ref C) = some true := by
  unfold PySem.W.kitOne
  rw [if_pos (by simp)]
theorem tyx_own {K : PySem.W.Frag} {C : Addr} (c : OwnC K C) {H : Hp} {a dx : Addr} {fs : List (Str × V)} (h : H a = some (.ins C dx fs)) : TyX K H (.ref a) (.ref C) :=
  .base (.ins h c.cl c.ca c.cn c.ct c.cm)
/-- isinstance(x, C) -/
def isiOD (C : Addr) : DRL := fun xs L q => ∃ x, xs = [x, .ref C] ∧ ((∃ s, kindD L x = some s ∧ q (.bl false) L) ∨ ∃ fs, vIns L x = some (C, fs) ∧ q (.bl true) L)
theorem sim_isiO {K : PySem.W.Frag} {C : Addr} (c : OwnC K C) : SimRL K (rIsiB K) (isiOD C) := by
  rintro S xs as Q q k r R ⟨x, rfl, h⟩
  obtain ⟨v, w, rfl, rv, rw'⟩ := vals2R r
  cases rw'
  rcases h with ⟨s, h1, h⟩ | ⟨fs, h1, h⟩
  · exact .inl ⟨v, .ref C, .type s, .ref C, false, rfl, .own C, kind_ok k rv h1, kitOwn c (kindD_b7 h1), R S _ _ (.refl S) k (.bl _) h⟩
  · obtain ⟨a, dx, gs, rfl, h2, _⟩ := vIns_ok k rv h1
    exact .inl ⟨.ref a, .ref C, .ref C, .ref C, true, rfl, .own C, tyx_own c h2, kitSelf, R S _ _ (.refl S) k (.bl _) h⟩
/-- .. a built-in class -/
def isiBD (C : Addr) : DRL := fun xs L q => ∃ x T fs, xs = [x, .ty T] ∧ vIns L x = some (C, fs) ∧ (T = "int" ∨ T = "bool" ∨ T = "str" ∨ T = "list" ∨ T = "tuple" ∨ T = "dict") ∧ q (.bl false) L
theorem sim_isiOB {K : PySem.W.Frag} {C : Addr} (c : OwnC K C) : SimRL K (rIsiB K) (isiBD C) := by
  rintro S xs as Q q k r R ⟨x, T, fs, rfl, h1, hT, h⟩
  obtain ⟨v, w, rfl, rv, rw'⟩ := vals2R r
  cases rw'
  obtain ⟨a, dx, gs, rfl, h2, _⟩ := vIns_ok k rv h1
  refine .inl ⟨.ref a, .ty T, .ref C, .type T, false, rfl, .ty T, tyx_own c h2, ?_, R S _ _ (.refl S) k (.bl _) h⟩
  rcases hT with rfl | rfl | rfl | rfl | rfl | rfl
  · exact kit_no (by decide +kernel) c.ns.i
  · exact kit_no (by decide +kernel) c.ns.b
  · exact kit_no (by decide +kernel) c.ns.s
  · exact kit_no (by decide +kernel) c.ns.l
  · exact kit_no (by decide +kernel) c.ns.t
  · exact kit_no (by decide +kernel) c.ns.d
theorem SimRL.or {K : PySem.W.Frag} {r : List V → Hp → VK → Prop} {f g : DRL} (h1 : SimRL K r f) (h2 : SimRL K r g) : SimRL K r (fun xs L q => f xs L q ∨ g xs L q) := fun S xs as Q q k rr R h =>
  h.elim (h1 S xs as Q q k rr R) (h2 S xs as Q q k rr R)
theorem SimR2.or {K : PySem.W.Frag} {r r' : R2} {f g : DR2} (h1 : SimR2 K r f) (h2 : SimR2 K r' g) : SimR2 K (fun x y H Q => r x y H Q ∨ r' x y H Q) (fun x y L q => f x y L q ∨ g x y L q) := fun S x y a b Q q k rx ry R h =>
  h.elim (fun h => .inl (h1 S x y a b Q q k rx ry R h)) fun h => .inr (h2 S x y a b Q q k rx ry R h)
/-! ### == -/
section
variable {X : Cx} {K : PySem.W.Frag} {C f : Addr} {k : Nat} {ps : List Str} {sp : DSp}
/-- an answer that is a truth -/
def qB (q : Bool → Lc → Prop) : DQ := fun d L => ∃ b, d = .bl b ∧ q b L
/-- x == y, x an instance with its own == -/
def eqID (C : Addr) (sp : DSp) : DR2 := fun x y L q => ∃ fs, vIns L x = some (C, fs) ∧ ((∃ s, kind5 L y = some s) ∨ ∃ gs, vIns L y = some (C, gs)) ∧ sp [x, y] L (qB fun b L' => q (.bl b) L') noE
/-- y == x, y a built-in thing -/
def eqRD (C : Addr) (sp : DSp) : DR2 := fun y x L q => ∃ fs, vIns L x = some (C, fs) ∧ (∃ s, kind5 L y = some s) ∧ sp [x, y] L (qB fun b L' => q (.bl b) L') noE
theorem spD_q {S : Sta} {vs : List V} {ds : List D} {Q : VK} {q : DQ} (k1 : Ok K S) (r : RpL K S.H S.Λ vs ds) (hl : ds.length = 2) (R : RelQ K S Q q) (h : sp ds S.L (qB fun b L' => q (.bl b) L') noE) : spD K 2 sp vs S.H (fun v H' => (∃ b, v = .bl b) ∧ Q v H') E0 :=
  ⟨S, ds, _, noE, rfl, k1, r, hl, fun S' v d e k2 r2 h2 => by
    obtain ⟨b, rfl, h2⟩ := h2
    cases r2
    exact ⟨⟨b, rfl⟩, R S' _ _ e k2 (.bl b) h2⟩, relE_no, h⟩
theorem op_eqID (hK : X.K = K) (c : OwnC K C) (hs : PySem.W.findIn K (.ref C) "__eq__" = some (some (.ref f))) (hf : PySem.W.isFn K (.ref f) = true) (G : Kp X.prog X.w X.K X.mg X.base (L2.CX X.prog X.w) k f ps [] (spD K 2 sp)) (hcl : Calm X.A) (hr : Room k X.A) (hu : X.A.units < cLine) :
    OpR X (compareOp .Eq) (rOf K (eqID C sp)) := by
  subst hK
  rintro pins s σ H x y v u Q I rx ry ⟨S, a, b, q, rfl, k1, ra, rb, R, fs, h1, ht, h⟩
  obtain ⟨ad, dx, gs, rfl, h2, _⟩ := vIns_ok k1 ra h1
  have hsp := spD_q k1 (.cons ra (.cons rb .nil)) rfl R h
  have hc := callK0 G hcl hr (passX0 (X := X))
  rcases ht with ⟨t, ht⟩ | ⟨gs', ht⟩
  · exact op_eqI hs hf hc hu pins s σ S.H (.ref ad) y v u Q I rx ry ⟨ad, dx, gs, .type t, rfl, h2, kind5_ok k1 rb ht, c.nf t (kind5_b7 ht), hsp⟩
  · obtain ⟨bd, dy, hs', rfl, h3, _⟩ := vIns_ok k1 rb ht
    exact op_eqI hs hf hc hu pins s σ S.H (.ref ad) (.ref bd) v u Q I rx ry ⟨ad, dx, gs, .ref C, rfl, h2, .ins h3, nf_self, hsp⟩
theorem op_eqRD (hK : X.K = K) (c : OwnC K C) (hs : PySem.W.findIn K (.ref C) "__eq__" = some (some (.ref f))) (hf : PySem.W.isFn K (.ref f) = true) (G : Kp X.prog X.w X.K X.mg X.base (L2.CX X.prog X.w) k f ps [] (spD K 2 sp)) (hcl : Calm X.A) (hr : Room k X.A) (hu : X.A.units < cLine) :
    OpR X (compareOp .Eq) (rOf K (eqRD C sp)) := by
  subst hK
  rintro pins s σ H y x v u Q I ry rx ⟨S, b, a, q, rfl, k1, rb, ra, R, fs, h1, ⟨t, ht⟩, h⟩
  obtain ⟨ad, dx, gs, rfl, h2, _⟩ := vIns_ok k1 ra h1
  exact op_eqR c.ns hs hf (callK0 G hcl hr (passX0 (X := X))) hu pins s σ S.H y (.ref ad) v u Q I ry rx ⟨ad, dx, gs, t, rfl, h2, kind5_ok k1 rb ht, spD_q k1 (.cons ra (.cons rb .nil)) rfl R h⟩
/-- both, and data -/
def eqAD (C : Addr) (sp : DSp) : DR2 := fun x y L q => eqD x y L q ∨ eqID C sp x y L q ∨ eqRD C sp x y L q
theorem op_eqAD (hK : X.K = K) (c : OwnC K C) (hs : PySem.W.findIn K (.ref C) "__eq__" = some (some (.ref f))) (hf : PySem.W.isFn K (.ref f) = true) (G : Kp X.prog X.w X.K X.mg X.base (L2.CX X.prog X.w) k f ps [] (spD K 2 sp)) (hcl : Calm X.A) (hr : Room k X.A) (hu : X.A.units + 64 < cLine) :
    OpR X (compareOp .Eq) (fun x y H Q => rEqA K x y H Q ∨ rOf K (eqID C sp) x y H Q ∨ rOf K (eqRD C sp) x y H Q) :=
  (op_eqA hK hu).or ((op_eqID hK c hs hf G hcl hr (by omega)).or (op_eqRD hK c hs hf G hcl hr (by omega)))
theorem sim_eqA : SimR2 K (fun x y H Q => rEqA K x y H Q ∨ rOf K (eqID C sp) x y H Q ∨ rOf K (eqRD C sp) x y H Q) (eqAD C sp) := sim_eq.or (sim_of.or sim_of)
/-! ### in -/
def inGo (C : Addr) (sp : DSp) (x : D) (q : Bool → Lc → Prop) : List D → Lc → Prop
  | [], L => q false L
  | d :: ds, L => q true L ∧ ∃ fs gs, vIns L x = some (C, fs) ∧ vIns L d = some (C, gs) ∧ sp [d, x] L (qB fun b L' => if b = true then q true L' else inGo C sp x q ds L') noE
def inOD (C : Addr) (sp : DSp) (neg : Bool) : DR2 := fun x y L q => ∃ ds, y = .lst ds ∧ inGo C sp x (fun b L' => q (.bl (if neg then !b else b)) L') ds L
theorem turn_own (hK : X.K = K) (c : OwnC K C) (hs : PySem.W.findIn K (.ref C) "__eq__" = some (some (.ref f))) (hf : PySem.W.isFn K (.ref f) = true) (G : Kp X.prog X.w X.K X.mg X.base (L2.CX X.prog X.w) k f ps [] (spD K 2 sp)) (hcl : Calm X.A) (hr : Room (k + 1) X.A)
    {pins : List (Addr × Obj)} {σ : L2.St} {S0 : Sta} {ad : Addr} {x : D} {l : Addr} {xs : List V} {ds : List D} {q : Bool → Lc → Prop} (rx : Rp K S0.H S0.Λ (.ref ad) x) (hl : S0.H l = some (.lst xs)) (nl : ¬ S0.Λ l) (rl : RpL K S0.H S0.Λ xs ds) :
    TurnI X.prog X.w X.A X.xe l (.ref ad) ds.length (fun i s => ∃ S, Inv X pins σ S.H s ∧ Ev S0 S ∧ Ok K S ∧ inGo C sp x q (ds.drop i) S.L) (fun s => ∃ S, Inv X pins σ S.H s ∧ Ev S0 S ∧ Ok K S ∧ q true S.L) := by
  subst hK
  rintro i s ⟨S, I, e, k1, h⟩
  obtain ⟨_, hl'⟩ := e.one hl nl (fun z => z) (by intro o w z; cases z)
  obtain ⟨z, its, n, rr, hle, e2⟩ := I.lstM hl'
  have hlen : its.length = ds.length := by rw [← rl.length]; exact rr.length.symm
  refine ⟨its.toArray, n, ?_, by simpa using hlen, fun h1 => ?_⟩
  · exact e2
  have hi : i < ds.length := by simpa [hlen] using h1
  rw [List.drop_eq_getElem_cons hi] at h
  obtain ⟨yes, fs, gs, hx, hd, hq⟩ := h
  have rl' := rl.ev e
  have rx' := rx.ev e
  obtain ⟨v, hv, rv⟩ := rl'.get (List.getElem?_eq_getElem hi)
  obtain ⟨u, hu, ru⟩ := rr.get hv
  have hu' : its.toArray[i] = u := by
    have : its[i]? = some its.toArray[i] := by
      have h1' : i < its.length := by simpa using h1
      rw [List.getElem?_eq_getElem h1'] <;> simp
    rw [this] at hu
    exact Option.some.inj hu
  rw [hu']
  obtain ⟨bd, dy, hs', rfl, h3, _⟩ := vIns_ok k1 rv hd
  obtain ⟨ad', dx, hs2, eq, h2, _⟩ := vIns_ok k1 rx' hx
  cases eq
  cases ru
  by_cases hab : bd = ad
  · subst hab
    exact SeqAt.EqAt.same (A := X.A.in1) (s := s) (.ref bd) X.prog X.w X.xe _ ⟨fun _ => ⟨S, I, e, k1, yes⟩, fun z => nomatch z⟩
  · have hr1 := hr.in1
    refine GQ.eqBool_refG hab ?_
    obtain ⟨mA, J, _⟩ := ins_get I.hok h3
    obtain ⟨mB, J', _⟩ := ins_get I.hok h2
    obtain ⟨od, J, _⟩ := J.look
    obtain ⟨od', J', _⟩ := J'.look
    obtain ⟨m, hF⟩ := I.fr
    refine PySem.W.cmp_K (op := .Eq) (tb := .ref C) hr1.units0 hF I.ok.mod.kin J J'.type nf_self hs hf ?_
    obtain ⟨fd, Gf, b⟩ := G.ex
    have hsp : spD X.K 2 sp [.ref bd, .ref ad] S.H (fun v H' => ∃ b S', v = .bl b ∧ S'.H = H' ∧ Ev S S' ∧ Ok X.K S' ∧ if b = true then q true S'.L else inGo C sp x q (ds.drop (i + 1)) S'.L) E0 :=
      ⟨S, _, _, noE, rfl, k1, .cons rv (.cons rx' .nil), rfl, fun S' v d e k2 r2 h2 => by
        obtain ⟨b, rfl, h2⟩ := h2
        cases r2
        exact ⟨b, S', rfl, rfl, e, k2, h2⟩, relE_no, hq⟩
    have hl2 : ([Value.ref bd, Value.ref ad] ++ []).length = ps.length := Gf.ln _ _ _ _ hsp
    have bb := b s [.ref bd, .ref ad] I.kIn hl2
    refine wpAny_call (codeAny_mono (Gf.go X.A.in1 X.stack s S.H ⟨[.ref bd, .ref ad], []⟩ [.ref bd, .ref ad] [.ref bd, .ref ad] _ E0 hcl.in1 hr1 I.env0.in1 bb (.cons rfl (.cons rfl .nil)) hsp) ?_)
    intro rs s' hh
    match rs, hh with
    | .error e, hh => exact passX0 pins σ S.H s e s' I hh
    | .ok (.ret w), hh =>
      obtain ⟨z, H', I', rz, b, S', rfl, rfl, e3, k3, h4⟩ := I.after hh
      cases rz
      refine ⟨b, rfl, fun hb => ⟨S', I', e.trans e3, k3, ?_⟩, fun hb => ⟨S', I', e.trans e3, k3, ?_⟩⟩
      · subst hb; exact h4
      · subst hb; exact h4
theorem op_inOD (neg : Bool) (hK : X.K = K) (c : OwnC K C) (hs : PySem.W.findIn K (.ref C) "__eq__" = some (some (.ref f))) (hf : PySem.W.isFn K (.ref f) = true) (G : Kp X.prog X.w X.K X.mg X.base (L2.CX X.prog X.w) k f ps [] (spD K 2 sp)) (hcl : Calm X.A) (hr : Room (k + 1) X.A) :
    OpR X (compareOp (if neg then .NotIn else .In)) (rOf K (inOD C sp neg)) := by
  rintro pins s σ H x y v u Q I rx ry ⟨S, a, b, q, rfl, k1, ra, rb, R, ds, rfl, h⟩
  have hx : (∃ ad, x = .ref ad) ∨ ds = [] := by
    cases ds with
    | nil => exact .inr rfl
    | cons d ds =>
      obtain ⟨_, fs, gs, hx, _⟩ := h
      obtain ⟨ad, _, _, rfl, _⟩ := vIns_ok k1 ra hx
      exact .inl ⟨ad, rfl⟩
  cases rb with
  | @lst l xs _ nl h1 h2 =>
  cases ry
  obtain ⟨z, its, n, rr, hle, e2⟩ := I.lstM h1
  have ti : s.TypeIs (.ref l) "list" := ⟨_, e2, rfl⟩
  have key : ∀ (Qv : Value → Shared → Prop), (∀ s' b S', Inv X pins σ S'.H s' → Ev S S' → Ok K S' → q (.bl (if neg then !b else b)) S'.L → Qv (.bool b) s') → wpAny (model X.prog X.w) X.A (call (.builtin "list.__contains__") [.ref l, v]) Qv X.xe s := by
    intro Qv fin
    rcases hx with ⟨ad, rfl⟩ | rfl
    · cases rx
      exact call_containsG _ _ (turn_own hK c hs hf G hcl hr ra h1 nl h2) (fun s' ⟨S', I', e, k', hh⟩ => fin s' true S' I' e k' hh) (fun s' ⟨S', I', e, k', hh⟩ => fin s' false S' I' e k' (by rw [List.drop_length] at hh; exact hh)) ⟨S, I, .refl S, k1, h⟩
    · have hx0 : xs = [] := by cases h2; rfl
      subst hx0
      have hi0 : its = [] := by cases rr; rfl
      subst hi0
      exact call_containsG (N := 0) (fun i s' => i = 0 ∧ s' = s) (fun _ => False) (fun i s' hi => ⟨#[], n, by rw [hi.2]; exact e2, rfl, fun hlt => by simp at hlt⟩) (fun _ z => z.elim) (fun s' z => by rw [z.2]; exact fin s false S I (.refl S) k1 h) ⟨rfl, rfl⟩
  cases neg with
  | false =>
    exact In_slot ti PySem.F.slot_list_contains (key _ fun s' b S' I' e k' hh => wpAny_truthy_bool ⟨.bl b, S'.H, I', rfl, R S' _ _ e k' (.bl b) hh⟩)
  | true =>
    exact NotIn_slot ti PySem.F.slot_list_contains (key _ fun s' b S' I' e k' hh => wpAny_truthy_bool ⟨.bl (!b), S'.H, I', rfl, R S' _ _ e k' (.bl (!b)) hh⟩)
/-- str(o) by an own __str__ -/
def strOD (C : Addr) (sp : DSp) : DRL := fun xs L q => ∃ x fs, xs = [x] ∧ vIns L x = some (C, fs) ∧ sp [x] L (fun d L' => (∃ z, d = .str z) ∧ q d L') noE
theorem call_strOD (hK : X.K = K) (hs : PySem.W.findIn K (.ref C) "__str__" = some (some (.ref f))) (hf : PySem.W.isFn K (.ref f) = true) (G : Kp X.prog X.w X.K X.mg X.base (L2.CX X.prog X.w) k f ["self"] [] (spD K 1 sp)) (hcl : Calm X.A) (hr : Room (k + 2) X.A) :
    CallR X (.type "str") (rOfL K (strOD C sp)) := by
  subst hK
  rintro pins s σ H xs us Q I r ⟨S, as, q, rfl, k1, ra, R, x, fs, rfl, hx, h⟩
  obtain ⟨v, rfl, rv⟩ := vals1R ra
  obtain ⟨a, dx, gs, rfl, h2, _⟩ := vIns_ok k1 rv hx
  cases r with
  | @cons _ u _ _ ru rn =>
  cases rn
  cases (show u = Value.ref a from ru)
  obtain ⟨mA, J, _⟩ := ins_get I.hok h2
  obtain ⟨od, J, _⟩ := J.look
  obtain ⟨fd, Gf, b⟩ := G.ex
  have r2 := hr.in1.in1
  have hsp : spD X.K 1 sp [.ref a] S.H (fun v H' => (∃ z, v = .str z) ∧ Q v H') E0 :=
    ⟨S, _, _, noE, rfl, k1, ra, rfl, fun S' v d e k2 rr h2 => by
      obtain ⟨⟨z, rfl⟩, h2⟩ := h2
      cases rr
      exact ⟨⟨z, rfl⟩, R S' _ _ e k2 (.str z) h2⟩, relE_no, h⟩
  refine PySem.W.kso_call r2.units0 I.kIn J hs hf ?_
  have bb := b s [.ref a] I.kIn rfl
  refine wpAny_call (codeAny_mono (Gf.go X.A.in1.in1 X.stack s S.H ⟨[.ref a], []⟩ [.ref a] [.ref a] _ E0 hcl.in1.in1 r2 I.env0.in1.in1 bb (.cons rfl .nil) hsp) ?_)
  intro rs s' hq
  match rs, hq with
  | .error e, hq => exact passX0 pins σ S.H s e s' I hq
  | .ok (.ret u), hq =>
    obtain ⟨v, H', I', rw', ⟨z, rfl⟩, q'⟩ := I.after hq
    obtain ⟨t, rfl⟩ := rw'
    exact ⟨.str z, H', I', ⟨t, rfl⟩, q'⟩
end
end Ed

set_option Elab.async false
set_option linter.all false
set_option maxRecDepth 100000
set_option maxHeartbeats 2000000
/-! f-strings; tests in chains; fields of errors; in a tuple. -/
namespace Ed
open PySem PySem.Spec PyProof.Rows L2 Dz
section
variable {X : Cx} {K : PySem.W.Frag} {e a b c v1 v2 : Expr} {es rest : List Expr} {te ta tb tc : WX → TE} {de da db dc : DTE} {pos : Pos}
inductive DJ (X : Cx) (K : PySem.W.Frag) : List Expr → List (WX → TE) → List DTE → Prop
  | nil : DJ X K [] [] []
  | cons {e : Expr} {t : WX → TE} {d : DTE} {es : List Expr} {ts : List (WX → TE)} {ds : List DTE} (h : DE X K t e d) (r : DJ X K es ts ds) : DJ X K (e :: es) (t :: ts) (d :: ds)
def dJs : List DTE → Str → EW → Dv → Lc → (Str → Lc → Prop) → Prop
  | [], acc, _, _, L, q => q acc L
  | d :: ds, acc, w, ρ, L, q => d w ρ L fun x L1 => ∃ y, x = .str y ∧ (acc ++ y).length ≤ sizeLine ∧ dJs ds (acc ++ y) w ρ L1 q
def dFmt (a : DTE) : DTE := fun w ρ L q => a w ρ L fun x L1 => (∃ y, x = .str y ∧ y.length ≤ sizeLine ∧ q (.str y) L1) ∨ ∃ i, x = .int i ∧ i.natAbs.log2 < 1920 ∧ q (.str (toString i)) L1
def dJoined (ds : List DTE) : DTE := fun w ρ L q => dJs ds Str.empty w ρ L fun out L1 => q (.str out) L1
theorem d_fmt (ha : DE X K ta e da) : DE X K (fun W => tFmt (ta W)) (.FormattedValue e (-1) none pos) (dFmt da) := by
  refine ⟨fun W t => pe_fmt (ha.pe W t), fun W ew S σ ρ Q q I R h => ?_⟩
  refine ha.sim W ew S σ ρ _ _ I (fun S1 v x e1 k1 r1 h1 => ?_) h
  rcases h1 with ⟨y, rfl, hy, h1⟩ | ⟨i, rfl, hi, h1⟩
  · cases r1; exact .inl ⟨y, rfl, hy, R S1 _ _ e1 k1 (.str _) h1⟩
  · cases r1; exact .inr ⟨i, rfl, hi, R S1 _ _ e1 k1 (.str _) h1⟩
theorem DJ.pj {es : List Expr} {ts : List (WX → TE)} {ds : List DTE} (h : DJ X K es ts ds) (W : WX) (t : Takes X W) : PJ X es (ts.map fun f => f W) := by
  induction h with
  | nil => exact .nil
  | cons h r ih => exact .cons (h.pe W t) ih
theorem DJ.sim {es : List Expr} {ts : List (WX → TE)} {ds : List DTE} (h : DJ X K es ts ds) (W : WX) (ew : EW) (σ : L2.St) (ρ : Dv) : ∀ (S : Sta) (acc : Str) (Q : Str → Hp → Prop) (q : Str → Lc → Prop), In K W ew S σ ρ →
    (∀ S' out, Ev S S' → Ok K S' → q out S'.L → Q out S'.H) → dJs ds acc ew ρ S.L q → tJs (ts.map fun f => f W) acc σ S.H Q := by
  induction h with
  | nil => exact fun S acc Q q I R h => R S acc (.refl S) I.ok h
  | @cons e t d es ts ds h r ih =>
    intro S acc Q q I R hh
    refine h.sim W ew S σ ρ _ _ I (fun S1 v x e1 k1 r1 h1 => ?_) hh
    obtain ⟨y, rfl, hy, h1⟩ := h1
    cases r1
    exact ⟨y, rfl, hy, ih S1 (acc ++ y) Q q (I.ev e1 k1) (fun S' out e k => R S' out (e1.trans e) k) h1⟩
theorem d_joined {ts : List (WX → TE)} {ds : List DTE} (h : DJ X K (v1 :: v2 :: rest) ts ds) : DE X K (fun W σ H Q => tJs (ts.map fun f => f W) Str.empty σ H fun out H1 => Q (.str out) H1) (.JoinedStr (v1 :: v2 :: rest) pos) (dJoined ds) :=
  ⟨fun W t => pe_joined (h.pj W t), fun W ew S σ ρ Q q I R hh => h.sim W ew σ ρ S _ _ _ I (fun S' out e k hq => R S' _ _ e k (.str out) hq) hh⟩
theorem d_tchain {op op' : CmpOp} {r r' : R2} {f g : DR2} (ho : OpR X (compareOp op) r) (hs : SimR2 K r f) (ho' : OpR X (compareOp op') r') (hs' : SimR2 K r' g) (ha : DE X K ta a da) (hb : DE X K tb b db) (hc : DE X K tc c dc)
    (hm : lastMarks [op, op'] [b, c] = false := by with_unfolding_all rfl) : DT X K (fun W => tTest (tChain r r' (ta W) (tb W) (tc W))) (.Compare a [op, op'] [b, c] pos) (dTest (dChain f g da db dc)) := by
  refine ⟨fun W t => pt_chain ho ho' (ha.pe W t) (hb.pe W t) (hc.pe W t) hm, fun W ew S σ ρ Q q I R h => ?_⟩
  refine (d_chain ho hs ho' hs' ha hb hc hm (pos := pos)).sim W ew S σ ρ _ _ I (fun S1 v x e1 k1 r1 h1 => ?_) h
  obtain ⟨c, rfl, h1⟩ := h1
  cases r1
  exact ⟨c, rfl, R S1 c e1 k1 h1⟩
end
end Ed

set_option Elab.async false
set_option linter.all false
set_option maxRecDepth 100000
set_option maxHeartbeats 2000000
/-! Names for the operations; the law's end. -/
namespace Ed
open PySem PySem.Spec PyProof.Rows L2 Dz
section
variable {K : PySem.W.Frag}
def subD : DR2 := iopD (fun _ _ => True) fun i j => i - j
def modD : DR2 := iopD (fun _ j => 0 < j) fun i j => i % j
def powD : DR2 := iopD CPow fun i j => i ^ j.toNat
def fdivD : DR2 := iopD CDivW fun i j => i / j
def ltD : DR2 := icmpD fun i j => decide (i < j)
def leD : DR2 := icmpD fun i j => decide (i ≤ j)
def gtD : DR2 := icmpD fun i j => decide (j < i)
def geD : DR2 := icmpD fun i j => decide (j ≤ i)
theorem sim_sub : SimR2 K (rI0 fun i j => .int (i - j)) subD := sim_iop0
theorem sim_mod : SimR2 K (rI (fun _ j => 0 < j) fun i j => .int (i % j)) modD := sim_iop
theorem sim_pow : SimR2 K (rI CPow fun i j => .int (i ^ j.toNat)) powD := sim_iop
theorem sim_fdiv : SimR2 K (rI CDivW fun i j => .int (i / j)) fdivD := sim_iop
theorem sim_lt : SimR2 K (rI0 fun i j => .bl (decide (i < j))) ltD := sim_icmp
theorem sim_le : SimR2 K (rI0 fun i j => .bl (decide (i ≤ j))) leD := sim_icmp
theorem sim_gt : SimR2 K (rI0 fun i j => .bl (decide (j < i))) gtD := sim_icmp
theorem sim_ge : SimR2 K (rI0 fun i j => .bl (decide (j ≤ i))) geD := sim_icmp
end
/-- isinstance of one built-in class, whatever the thing is -/
def isiAD (C : Addr) : DRL := fun xs L q => isiOD C xs L q ∨ isiBD C xs L q ∨ isiD xs L q
theorem sim_isiA {K : PySem.W.Frag} {C : Addr} (c : OwnC K C) : SimRL K (rIsiB K) (isiAD C) := fun S xs as Q q k rr R h =>
  h.elim (sim_isiO c S xs as Q q k rr R) fun h => h.elim (sim_isiOB c S xs as Q q k rr R) (sim_isi S xs as Q q k rr R)
/-! ### the law -/
theorem fnG_x0 {P : Program} {w : World} {K : PySem.W.Frag} {mg : Str → Option Value} {base : Heap} {k n : Nat} {f : Addr} {fd : FuncData} {ps : List Str} {sp : DSp} (F : FnG P w K mg base (L2.CX P w) k f fd ps (spD K n sp)) :
    FnG P w K mg base CX0 k f fd ps (fun vs H Q _ => spD K n sp vs H Q E0) :=
  ⟨fun vs H Q E h => F.ln _ _ _ _ h, fun A out s H ar us vs Q E g r e b v h => codeAny_mono (F.go A out s H ar us vs Q E0 g r e b v h) fun rs s' hh => by
    match rs, hh with
    | .error e, hh =>
      obtain ⟨_, _, _, _, _, _, _, _, _, _, _, _, z⟩ := hh
      exact z.elim
    | .ok (.ret u), hh => exact hh⟩
theorem kl_mk {P : Program} {w : World} {K : PySem.W.Frag} {mg : Str → Option Value} {base : Heap} {x qual : Str} {st : Stmt} {f : Addr} {fd : FuncData} {N ps : List Str} {k : Nat} {sp : DSp} {b : DTS} {ts : WX → TS} (F : Fun K x qual st f fd) (SC : FnScope N ps (defScope st)) (hb : ∀ (cdv : Value) (A : Around) (outer : List Env) (s : Shared) (H : Hp) (E : XK), Calm A → Room k (A.deeper (envOfC qual (defScope st) s.heap.objs.size f cdv)) → DSs (cxOf (L2.CX P w) P w K mg base N qual (defScope st) f cdv A outer s H E) K ts (defBody st) b)
    (htk : ∀ (cdv : Value) (A : Around) (outer : List Env) (s : Shared) (H : Hp) (E : XK), Takes (cxOf (L2.CX P w) P w K mg base N qual (defScope st) f cdv A outer s H E) (fun cls d _ H => E cls d H)) (rd : Keeps N b ps.length sp) : FnG P w K mg base CX0 (k + 1) f fd ps (fun vs H Q _ => spD K ps.length sp vs H Q E0) :=
  fnG_x0 (fnG_of F SC (fun vs H Q E h => by obtain ⟨S, ds, q, e, rfl, k1, r1, hl, _⟩ := h; rw [r1.length]; exact hl) fun cdv A outer s H vs Q E hg hr h => fnD_walk hb rd htk cdv A outer s H vs Q E hg hr h)
def spLaw : DSp := fun ds _ q _ => ∃ ns, ds = [.scr ns] ∧ ns.length ≤ 63 ∧ ∀ L', q (.bl true) L'
theorem law_sp {K : PySem.W.Frag} {H : Hp} {a : Addr} {ns : List Int} (hl : ns.length ≤ 63) (h : SqL K H a (ns.map V.int)) : spD K 1 spLaw [.ref a] H (fun v _ => v = .bl true) E0 := by
  refine ⟨⟨H, fun _ => none, fun _ => False⟩, [.scr ns], fun d _ => d = .bl true, noE, rfl, ⟨fun a c h => (by cases h), fun a h => h.elim⟩, .cons (.scr ?_ hl) .nil, rfl, fun S' v d e k2 r2 h2 => ?_, relE_no, ns, rfl, hl, fun _ => rfl⟩
  · rcases h with h | h
    · exact .inl ⟨fun z => z, h⟩
    · exact .inr h
  · subst h2
    cases r2
    rfl
end Ed

set_option Elab.async false
set_option linter.all false
set_option maxRecDepth 100000
set_option maxHeartbeats 2000000
namespace Ed
open PySem PySem.Spec PyProof.Rows L2 Dz
theorem dv {X : Cx} {K : PySem.W.Frag} (i : Nat) {x : Str} {pos : Pos} (hN : X.N[i]? = some x := by rfl) (hv : Vis X.env.scope x := by first | exact Or.inl rfl | exact Or.inr (Or.inl rfl) | exact Or.inr (Or.inr rfl)) (hd : (x == ("__debug__" : Str)) = false := by decide) (hcd : (x == ("__classdict__" : Str)) = false := by decide) : DE X K (fun _ => tVar i) (.Name x pos) (dVar i) := d_var hN hv hd hcd
theorem all7 {p : String → Prop} (h0 : p "NoneType") (h1 : p "bool") (h2 : p "int") (h3 : p "str") (h4 : p "list") (h5 : p "tuple") (h6 : p "dict") : ∀ T, T ∈ b7 → p T := fun T h => by
  simp only [b7, List.mem_cons, List.not_mem_nil, or_false] at h
  rcases h with rfl | rfl | rfl | rfl | rfl | rfl | rfl
  · exact h0
  · exact h1
  · exact h2
  · exact h3
  · exact h4
  · exact h5
  · exact h6
end Ed

set_option Elab.async false
set_option linter.all false
set_option maxRecDepth 100000
set_option maxHeartbeats 2000000
/-! The steps of a reading. -/
namespace Ed
open PySem PySem.Spec PyProof.Rows L2 Dz
section
variable {w : EW} {D0 : DEnds} {ρ : Dv} {L : Lc} {q : DQ} {t u : DTS} {a b c o v : DTE} {es ks : DTA} {x y z : D} {i j : Int} {n : Dv → Lc → Prop}
theorem v_seq (h : t w ⟨fun ρ1 L1 => u w D0 ρ1 L1, D0.rt, D0.bk, D0.ct⟩ ρ L) : dSeq t u w D0 ρ L := h
theorem v_next (h : D0.nx ρ L) : dNext w D0 ρ L := h
theorem v_brk (h : D0.bk ρ L) : dBreak w D0 ρ L := h
theorem v_cnt (h : D0.ct ρ L) : dCont w D0 ρ L := h
theorem v_drop (h : a w ρ L fun _ L1 => D0.nx ρ L1) : dDrop a w D0 ρ L := h
theorem v_ret (h : a w ρ L D0.rt) : dRet a w D0 ρ L := h
theorem v_retN (h : D0.rt .non L) : dRetN w D0 ρ L := h
theorem v_ifS {k : DTT} (h : k w ρ L fun b L1 => if b = true then t w D0 ρ L1 else u w D0 ρ L1) : dIfS k t u w D0 ρ L := h
theorem v_set {i : Nat} (h : a w ρ L fun x L1 => D0.nx (ρ.set i (some x)) L1) : dSet i a w D0 ρ L := h
theorem v_asg {g : DTG} (h : a w ρ L fun x L1 => g w x ρ L1 D0.nx) : dAsg a g w D0 ρ L := h
theorem v_par {i j : Nat} (h : es w ρ L fun xs L1 => ∃ x y, xs = [x, y] ∧ D0.nx ((ρ.set i (some x)).set j (some y)) L1) : dPar i j es w D0 ρ L := h
theorem v_gn {i : Nat} (h : n (ρ.set i (some x)) L) : dgName i w x ρ L n := h
theorem v_gtup {k : Nat} {r : DTGs} {ds : List D} (h : ds.length = k ∧ r w ds ρ L n) : dgTup k r w (.tup ds) ρ L n := ⟨ds, .inl rfl, h⟩
theorem v_gcons {g : DTG} {r : DTGs} {ds : List D} (h : g w x ρ L fun ρ1 L1 => r w ds ρ1 L1 n) : dgCons g r w (x :: ds) ρ L n := ⟨x, ds, rfl, h⟩
theorem v_gnil (h : n ρ L) : dgNil w [] ρ L n := ⟨rfl, h⟩
theorem v_gsub {f : D → D → D → Lc → (Lc → Prop) → Prop} (h : o w ρ L fun y L1 => v w ρ L1 fun z L2 => f y z x L2 fun L3 => n ρ L3) : dgSub f o v w x ρ L n := h
theorem v_var {i : Nat} (h : ∃ d, ρ[i]? = some (some d) ∧ q d L) : dVar i w ρ L q := h
theorem v_c (h : q x L) : dC x w ρ L q := h
theorem v_op {f : DR2} (h : a w ρ L fun x L1 => b w ρ L1 fun y L2 => f x y L2 q) : dOp f a b w ρ L q := h
theorem v_un {f : DR1} (h : a w ρ L fun x L1 => f x L1 q) : dUn f a w ρ L q := h
theorem v_nil {q : List D → Lc → Prop} (h : q [] L) : dNil w ρ L q := h
theorem v_cons {q : List D → Lc → Prop} (h : a w ρ L fun x L1 => es w ρ L1 fun xs L2 => q (x :: xs) L2) : dCons a es w ρ L q := h
theorem v_cb {f : DRL} (h : es w ρ L fun xs L1 => f xs L1 q) : dCB f es w ρ L q := h
theorem v_not (h : a w ρ L fun x L1 => ∃ c, x = .bl c ∧ q (.bl (!c)) L1) : dNot a w ρ L q := h
theorem v_and (h : a w ρ L fun x L1 => ∃ c, x = .bl c ∧ if c = true then b w ρ L1 q else q (.bl false) L1) : dAnd a b w ρ L q := h
theorem v_or (h : a w ρ L fun x L1 => ∃ c, x = .bl c ∧ if c = true then q (.bl true) L1 else b w ρ L1 q) : dOr a b w ρ L q := h
theorem v_test {q : Bool → Lc → Prop} (h : a w ρ L fun x L1 => ∃ c, x = .bl c ∧ q c L1) : dTest a w ρ L q := h
theorem v_tnot {t : DTT} {q : Bool → Lc → Prop} (h : t w ρ L fun c L1 => q (!c) L1) : dtNot t w ρ L q := h
theorem v_tand {t u : DTT} {q : Bool → Lc → Prop} (h : t w ρ L fun c L1 => if c = true then u w ρ L1 q else q false L1) : dtAnd t u w ρ L q := h
theorem v_tor {t u : DTT} {q : Bool → Lc → Prop} (h : t w ρ L fun c L1 => if c = true then q true L1 else u w ρ L1 q) : dtOr t u w ρ L q := h
theorem v_ifE {k : DTT} (h : k w ρ L fun c L1 => if c = true then a w ρ L1 q else b w ρ L1 q) : dIfE k a b w ρ L q := h
theorem v_chain {f g : DR2} (h : a w ρ L fun x L1 => b w ρ L1 fun y L2 => f x y L2 fun z L3 => ∃ k, z = .bl k ∧ if k = true then c w ρ L3 fun u L4 => g y u L4 q else q (.bl false) L3) : dChain f g a b c w ρ L q := h
theorem v_tup (h : es w ρ L fun xs L1 => xs.length ≤ sizeLine ∧ q (.tup xs) L1) : dTup es w ρ L q := h
theorem v_lst (h : es w ρ L fun xs L1 => xs.length ≤ sizeLine ∧ q (.lst xs) L1) : dLst es w ρ L q := h
theorem v_lstC (h : es w ρ L fun xs L1 => xs.length ≤ sizeLine ∧ ∀ p, L1 p = none → q (.ref p) (updL L1 p (.lst xs))) : dLstC es w ρ L q := h
theorem v_bl {b : Bool} {p : Bool → Prop} (h : p b) : ∃ c, D.bl b = .bl c ∧ p c := ⟨b, rfl, h⟩
theorem v_int {p : Int → Prop} (h : p i) : ∃ c, D.int i = .int c ∧ p c := ⟨i, rfl, h⟩
theorem v_pair {p : D → D → Prop} (h : p x y) : ∃ a b, [x, y] = [a, b] ∧ p a b := ⟨x, y, rfl, h⟩
/-! operations -/
theorem v_addI (h : q (.int (i + j)) L) : addD (.int i) (.int j) L q := .inl ⟨i, j, rfl, rfl, h⟩
theorem v_addS {a b : Str} (hl : a.length + b.length ≤ sizeLine) (h : q (.str (a ++ b)) L) : addD (.str a) (.str b) L q := .inr (.inl ⟨a, b, rfl, rfl, hl, h⟩)
theorem v_addL {x y : D} {xs ys : List D} (h1 : vLst L x = some xs) (h2 : vLst L y = some ys) (hl : xs.length + ys.length ≤ sizeLine) (h : q (.lst (xs ++ ys)) L) : addD x y L q := .inr (.inr (.inl ⟨xs, ys, h1, h2, hl, h⟩))
theorem v_addT {xs ys : List D} (hl : xs.length + ys.length ≤ sizeLine) (h : q (.tup (xs ++ ys)) L) : addD (.tup xs) (.tup ys) L q := .inr (.inr (.inr ⟨xs, ys, rfl, rfl, hl, h⟩))
theorem v_sub (h : q (.int (i - j)) L) : subD (.int i) (.int j) L q := ⟨i, j, rfl, rfl, trivial, h⟩
theorem v_mod (hj : 0 < j) (h : q (.int (i % j)) L) : modD (.int i) (.int j) L q := ⟨i, j, rfl, rfl, hj, h⟩
theorem v_fdiv (hj : CDivW i j) (h : q (.int (i / j)) L) : fdivD (.int i) (.int j) L q := ⟨i, j, rfl, rfl, hj, h⟩
theorem v_pow (hj : CPow i j) (h : q (.int (i ^ j.toNat)) L) : powD (.int i) (.int j) L q := ⟨i, j, rfl, rfl, hj, h⟩
theorem v_mulI (hj : CMulW i j) (h : q (.int (i * j)) L) : mulD (.int i) (.int j) L q := .inl ⟨i, j, rfl, rfl, hj, h⟩
theorem v_neg (h : q (.int (-i)) L) : negD (.int i) L q := ⟨i, rfl, h⟩
theorem v_lt (h : q (.bl (decide (i < j))) L) : ltD (.int i) (.int j) L q := ⟨i, j, rfl, rfl, h⟩
theorem v_le (h : q (.bl (decide (i ≤ j))) L) : leD (.int i) (.int j) L q := ⟨i, j, rfl, rfl, h⟩
theorem v_gt (h : q (.bl (decide (j < i))) L) : gtD (.int i) (.int j) L q := ⟨i, j, rfl, rfl, h⟩
theorem v_ge (h : q (.bl (decide (j ≤ i))) L) : geD (.int i) (.int j) L q := ⟨i, j, rfl, rfl, h⟩
theorem v_eqI (h : q (.bl (decide (i = j))) L) : eqD (.int i) (.int j) L q := .inl ⟨.int i, .int j, rfl, rfl, rfl, by rw [show decide (V.int i = V.int j) = decide (i = j) by simp]; exact h⟩
theorem v_neI (h : q (.bl (!decide (i = j))) L) : neD (.int i) (.int j) L q := .inl ⟨.int i, .int j, rfl, rfl, rfl, by rw [show decide (V.int i = V.int j) = decide (i = j) by simp]; exact h⟩
theorem v_eqS {a b : Str} (h : q (.bl (decide (a = b))) L) : eqD (.str a) (.str b) L q := .inl ⟨.str a, .str b, rfl, rfl, rfl, by rw [show decide (V.str a = V.str b) = decide (a = b) by simp]; exact h⟩
theorem v_neS {a b : Str} (h : q (.bl (!decide (a = b))) L) : neD (.str a) (.str b) L q := .inl ⟨.str a, .str b, rfl, rfl, rfl, by rw [show decide (V.str a = V.str b) = decide (a = b) by simp]; exact h⟩
theorem v_isN (h : q (.bl true) L) : isND .non .non L q := ⟨rfl, .inl ⟨rfl, h⟩⟩
theorem v_isN' (hx : x ≠ .non) (h : q (.bl false) L) : isND x .non L q := ⟨rfl, .inr ⟨hx, h⟩⟩
theorem v_notN (h : q (.bl false) L) : notND .non .non L q := ⟨rfl, .inl ⟨rfl, h⟩⟩
theorem v_notN' (hx : x ≠ .non) (h : q (.bl true) L) : notND x .non L q := ⟨rfl, .inr ⟨hx, h⟩⟩
theorem v_isB {a b : Bool} (h : q (.bl (decide (a = b))) L) : isBD (.bl a) (.bl b) L q := ⟨a, b, rfl, rfl, h⟩
theorem v_notB {a b : Bool} (h : q (.bl (!decide (a = b))) L) : notBD (.bl a) (.bl b) L q := ⟨a, b, rfl, rfl, h⟩
theorem v_ix {x : D} {ds : List D} {d : D} (h1 : vSeq L x = some ds) (h2 : atI ds i = some d) (h : q d L) : ixD x (.int i) L q := .inl ⟨ds, i, d, h1, rfl, h2, h⟩
theorem v_ixS {z : Str} {c : Nat} (hl : z.length ≤ sizeLine) (h2 : atI z.cps.toList i = some c) (h : q (.str ⟨#[c]⟩) L) : ixD (.str z) (.int i) L q := .inr (.inl ⟨z, i, c, rfl, rfl, hl, h2, h⟩)
theorem v_sl {f : D → Option Int → Option Int → Lc → DQ → Prop} {l r : DTO} (h : a w ρ L fun x L1 => l w ρ L1 fun lo L2 => r w ρ L2 fun hi L3 => f x lo hi L3 q) : dSl f a l r w ρ L q := h
theorem v_nopart {q : Option Int → Lc → Prop} (h : q none L) : dNoPart w ρ L q := h
theorem v_part {q : Option Int → Lc → Prop} (h : a w ρ L fun x L1 => ∃ i, x = .int i ∧ q (some i) L1) : dPart a w ρ L q := h
theorem v_slS {z : Str} {lo hi : Option Int} (hl : z.length ≤ sizeLine) (h : q (.str (cutS z lo hi)) L) : slD (.str z) lo hi L q := .inr (.inr ⟨z, rfl, hl, h⟩)
theorem v_slL {x : D} {ds : List D} {lo hi : Option Int} (h1 : vRd L x = some ds) (h : q (.lst (cutD ds lo hi)) L) : slD x lo hi L q := .inl ⟨ds, h1, h⟩
theorem v_slT {ds : List D} {lo hi : Option Int} (h : q (.tup (cutD ds lo hi)) L) : slD (.tup ds) lo hi L q := .inr (.inl ⟨ds, rfl, h⟩)
/-! calls -/
theorem v_call {sp : DSp} {m : Nat} (h : es w ρ L fun ds L1 => ds.length = m ∧ sp ds L1 q fun C gs L2 => w C gs ρ L2) : dCall sp m es w ρ L q := h
theorem v_callD {sp : DSp} {m : Nat} {ms : List D} (h : es w ρ L fun ds L1 => (ds ++ ms).length = m ∧ sp (ds ++ ms) L1 q fun C gs L2 => w C gs ρ L2) : dCallD sp m ms es w ρ L q := h
theorem v_mth {C : Addr} {m : Str} {sp : DSp} {n : Nat} {ms : List D} (h : o w ρ L fun x L1 => ∃ fs, vIns L1 x = some (C, fs) ∧ fs.lookup m = none ∧ es w ρ L1 fun ds L2 => (x :: ds ++ ms).length = n ∧ sp (x :: ds ++ ms) L2 q fun E gs L3 => w E gs ρ L3) : dMth C m sp n ms o es w ρ L q := h
theorem v_fld {C : Addr} {g : Str} (h : o w ρ L fun x L1 => ∃ fs d, vIns L1 x = some (C, fs) ∧ fs.lookup g = some d ∧ q d L1) : dFld C g o w ρ L q := h
theorem v_sfld {C : Addr} {g : Str} (h : v w ρ L fun y L1 => o w ρ L1 fun x L2 => ∃ a fs, x = .ref a ∧ L2 a = some (.ins C fs) ∧ fs.length < 1000 ∧ D0.nx ρ (updL L2 a (.ins C (putFD g y fs)))) : dSFld C g o v w D0 ρ L := h
theorem v_new {C : Addr} {sp : DSp} {n mm np : Nat} {g : List D → List D → List D} (h : es w ρ L fun ds L1 => ks w ρ L1 fun zs L2 => ds.length = n ∧ zs.length = mm ∧ ∀ x, L2 x = none → (g (.ref x :: ds) zs).length = np ∧
  sp (g (.ref x :: ds) zs) (updL L2 x (.ins C [])) (fun d L3 => d = .non ∧ ∃ d' L4, Gh (.ref x) L3 d' L4 ∧ q d' L4) fun E gs L3 => ∃ L4, (∀ a c, L4 a = some c → L3 a = some c) ∧ w E gs ρ L4) : dNew C sp n mm g np es ks w ρ L q := h
theorem v_bm {T : String} {f : DRM} (h : o w ρ L fun x L1 => tyLS L1 T x ∧ es w ρ L1 fun ds L2 => f x ds L2 q) : dBML T f o es w ρ L q := h
theorem v_raise {C : Addr} {g : Str} (h : es w ρ L fun xs L1 => ∃ y, xs = [y] ∧ w C [(g, y)] ρ L1) : dRaise C g es w D0 ρ L := h
theorem v_one {p : D → Prop} (h : p x) : ∃ y, [x] = [y] ∧ p y := ⟨x, rfl, h⟩
theorem v_for {di : DTI} {g : DTG} {tb : DTS} (h : di w ρ L fun ds G L1 => forD (g w) (tb w) G D0 ds ρ L1) : dFor di g tb w D0 ρ L := h
theorem v_lc {di : DTI} {g : DTG} {tt : DTT} {te : DTE} {vs : List Nat} (h : di w ρ L fun ds G L1 => lcD (g noW) (tt noW) (te noW) G (dwipe ρ vs) (fun acc L2 => q (.lst acc) L2) ds [] L1) : dLc di g tt te vs w ρ L q := h
theorem v_lcC {di : DTI} {g : DTG} {tt : DTT} {te : DTE} {vs : List Nat} (h : di w ρ L fun ds G L1 => lcD (g noW) (tt noW) (te noW) G (dwipe ρ vs) (fun acc L2 => ∀ p, L2 p = none → q (.ref p) (updL L2 p (.lst acc))) ds [] L1) : dLcC di g tt te vs w ρ L q := h
theorem v_yes {q : Bool → Lc → Prop} (h : q true L) : dYes w ρ L q := h
theorem v_rng1 {k : List D → (Lc → Prop) → Lc → Prop} (h : es w ρ L fun xs L1 => ∃ j : Int, xs = [.int j] ∧ -(2 ^ 62) ≤ j ∧ j < 2 ^ 62 ∧ k ((List.range j.toNat).map fun i => .int (i : Nat)) (fun _ => True) L1) : diRng1 es w ρ L k := h
theorem v_iseq {k : List D → (Lc → Prop) → Lc → Prop} (h : a w ρ L fun x L1 => ∃ ds, vRd L1 x = some ds ∧ k ds (fun L' => vRd L' x = some ds) L1) : diSeq a w ρ L k := h
theorem v_itup {k : List D → (Lc → Prop) → Lc → Prop} (h : a w ρ L fun x L1 => ∃ ds, (x = .tup ds ∨ x = .ctup ds) ∧ k ds (fun _ => True) L1) : diTup a w ρ L k := h
theorem v_istr {k : List D → (Lc → Prop) → Lc → Prop} (h : a w ρ L fun x L1 => ∃ z : Str, x = .str z ∧ k (z.cps.toList.map fun c => .str ⟨#[c]⟩) (fun _ => True) L1) : diStr a w ρ L k := h
theorem v_joined {ds : List DTE} (h : dJs ds Str.empty w ρ L fun out L1 => q (.str out) L1) : dJoined ds w ρ L q := h
theorem v_jnil {acc : Str} {q : Str → Lc → Prop} (h : q acc L) : dJs [] acc w ρ L q := h
theorem v_jcons {d : DTE} {ds : List DTE} {acc : Str} {q : Str → Lc → Prop} (h : d w ρ L fun x L1 => ∃ y, x = .str y ∧ (acc ++ y).length ≤ sizeLine ∧ dJs ds (acc ++ y) w ρ L1 q) : dJs (d :: ds) acc w ρ L q := h
theorem v_str1 {a : Str} {p : Str → Prop} (h : p a) : ∃ y, D.str a = .str y ∧ p y := ⟨a, rfl, h⟩
theorem v_fmtS {d : DTE} (h : d w ρ L fun x L1 => (∃ y, x = .str y ∧ y.length ≤ sizeLine ∧ q (.str y) L1) ∨ ∃ i, x = .int i ∧ i.natAbs.log2 < 1920 ∧ q (.str (toString i)) L1) : dFmt d w ρ L q := h
theorem v_dKC (h : ∀ p, L p = none → q (.ref p) (updL L p (.dK []))) : dDKC w ρ L q := h
theorem v_dK (h : q (.dK []) L) : dDK w ρ L q := h
theorem v_rt {q : DQ} (h : q x L) : (dEnd q).rt x L := ⟨x, L, Gh.refl, h⟩
theorem v_gh {q : DQ} {d' : D} {L' : Lc} (g : Gh x L d' L') (h : q d' L') : (dEnd q).rt x L := ⟨d', L', g, h⟩
/-! branches -/
theorem v_ite {c : Bool} {p r : Prop} (h1 : c = true → p) (h2 : c = false → r) : if c = true then p else r := by
  cases c with
  | true => exact h1 rfl
  | false => exact h2 rfl
theorem v_itT {c : Bool} {p r : Prop} (e : c = true) (h : p) : if c = true then p else r := by subst e; exact h
theorem v_itF {c : Bool} {p r : Prop} (e : c = false) (h : r) : if c = true then p else r := by subst e; exact h
/-! walks -/
/-- a for whose turns keep P -/
theorem for_go {g : D → Dv → Lc → (Dv → Lc → Prop) → Prop} {tb : DEnds → Dv → Lc → Prop} {G : Lc → Prop} {E : DEnds} {ds : List D} (P : Nat → Dv → Lc → Prop) (h0 : P 0 ρ L) (hG : ∀ i ρ L, P i ρ L → G L)
    (hs : ∀ (i : Nat) (d : D) (ρ : Dv) (L : Lc) (R : Dv → Lc → Prop), ds[i]? = some d → P i ρ L → (∀ ρ L, P (i + 1) ρ L → R ρ L) → g d ρ L fun ρ1 L1 => tb ⟨R, E.rt, E.nx, R⟩ ρ1 L1) (hn : ∀ ρ L, P ds.length ρ L → E.nx ρ L) : forD g tb G E ds ρ L := by
  have key : ∀ (es : List D) (k : Nat) (ρ : Dv) (L : Lc), ds.drop k = es → k ≤ ds.length → P k ρ L → forD g tb G E es ρ L := by
    intro es
    induction es with
    | nil =>
      intro k ρ L hd hk p
      have hk' : k = ds.length := by
        have := congrArg List.length hd
        rw [List.length_drop, List.length_nil] at this
        omega
      rw [hk'] at p
      exact ⟨hG _ _ _ p, hn ρ L p⟩
    | cons e es ih =>
      intro k ρ L hd hk p
      have hlt : k < ds.length := by
        by_cases z : k < ds.length
        · exact z
        · rw [List.drop_eq_nil_of_le (by omega)] at hd; cases hd
      rw [List.drop_eq_getElem_cons hlt] at hd
      cases hd
      refine ⟨hG _ _ _ p, ?_⟩
      exact hs k _ ρ L (forD g tb G E (ds.drop (k + 1))) (List.getElem?_eq_getElem hlt) p fun ρ L p' => ih (k + 1) ρ L rfl hlt p'
  exact key ds 0 ρ L rfl (Nat.zero_le _) h0
/-- a comprehension whose turns keep P; P i acc L -/
theorem lc_go {g : D → Dv → Lc → (Dv → Lc → Prop) → Prop} {tt : Dv → Lc → (Bool → Lc → Prop) → Prop} {te : Dv → Lc → DQ → Prop} {G : Lc → Prop} {q : List D → Lc → Prop} {ds : List D} (P : Nat → List D → Lc → Prop) (h0 : P 0 [] L) (hG : ∀ i acc L, P i acc L → G L)
    (hs : ∀ (i : Nat) (d : D) (acc : List D) (L : Lc) (R S : Lc → Prop) (Rq : D → Lc → Prop), ds[i]? = some d → P i acc L → (∀ y L, P (i + 1) (acc ++ [y]) L → Rq y L) → (∀ L, P (i + 1) acc L → S L) → g d ρ L fun ρ2 L2 => tt ρ2 L2 fun b L3 => if b = true then te ρ2 L3 fun y L4 => acc.length < sizeLine ∧ Rq y L4 else S L3)
    (hn : ∀ acc L, P ds.length acc L → q acc L) : lcD g tt te G ρ q ds [] L := by
  have key : ∀ (es : List D) (k : Nat) (acc : List D) (L : Lc), ds.drop k = es → k ≤ ds.length → P k acc L → lcD g tt te G ρ q es acc L := by
    intro es
    induction es with
    | nil =>
      intro k acc L hd hk p
      have hk' : k = ds.length := by
        have := congrArg List.length hd
        rw [List.length_drop, List.length_nil] at this
        omega
      rw [hk'] at p
      exact ⟨hG _ _ _ p, hn acc L p⟩
    | cons e es ih =>
      intro k acc L hd hk p
      have hlt : k < ds.length := by
        by_cases z : k < ds.length
        · exact z
        · rw [List.drop_eq_nil_of_le (by omega)] at hd; cases hd
      rw [List.drop_eq_getElem_cons hlt] at hd
      cases hd
      refine ⟨hG _ _ _ p, ?_⟩
      exact hs k _ acc L (fun _ => True) _ (fun y L4 => lcD g tt te G ρ q (ds.drop (k + 1)) (acc ++ [y]) L4) (List.getElem?_eq_getElem hlt) p (fun y L p' => ih (k + 1) _ L rfl hlt p') fun L p' => ih (k + 1) _ L rfl hlt p'
  exact key ds 0 [] L rfl (Nat.zero_le _) h0
/-- one that changes no cell -/
theorem lc_pure {g : D → Dv → Lc → (Dv → Lc → Prop) → Prop} {tt : Dv → Lc → (Bool → Lc → Prop) → Prop} {te : Dv → Lc → DQ → Prop} {G : Lc → Prop} {q : List D → Lc → Prop} {ds : List D} (keep : D → Bool) (f : D → D) (hG : G L) (hl : ds.length ≤ sizeLine)
    (hs : ∀ d, d ∈ ds → ∀ (acc : List D) (Rq : D → Lc → Prop) (S : Lc → Prop), acc.length < sizeLine → (keep d = true → Rq (f d) L) → (keep d = false → S L) → g d ρ L fun ρ2 L2 => tt ρ2 L2 fun b L3 => if b = true then te ρ2 L3 fun y L4 => acc.length < sizeLine ∧ Rq y L4 else S L3)
    (hn : q ((ds.filter keep).map f) L) : lcD g tt te G ρ q ds [] L := by
  have key : ∀ (es acc : List D), (∀ d, d ∈ es → d ∈ ds) → acc.length + es.length ≤ sizeLine → q (acc ++ (es.filter keep).map f) L → lcD g tt te G ρ q es acc L := by
    intro es
    induction es with
    | nil =>
      intro acc _ _ h
      rw [List.filter_nil, List.map_nil, List.append_nil] at h
      exact ⟨hG, h⟩
    | cons e es ih =>
      intro acc hm hz h
      rw [List.length_cons] at hz
      refine ⟨hG, hs e (hm e List.mem_cons_self) acc (fun y L4 => lcD g tt te G ρ q es (acc ++ [y]) L4) _ (by omega) (fun hk => ?_) fun hk => ?_⟩
      · refine ih _ (fun d hd => hm d (List.mem_cons_of_mem _ hd)) (by rw [List.length_append, List.length_singleton]; omega) ?_
        rw [List.filter_cons_of_pos hk, List.map_cons] at h
        rw [List.append_assoc]
        exact h
      · refine ih _ (fun d hd => hm d (List.mem_cons_of_mem _ hd)) (by omega) ?_
        rw [List.filter_cons_of_neg (by rw [hk]; decide)] at h
        exact h
  exact key ds [] (fun _ h => h) (by simpa using hl) hn
end
/-! bags of draws -/
def BagC (c : Int) (x : Cell) : Prop := ∃ a b k, x = .lst [.int a, .int b, .int k] ∧ 0 ≤ a ∧ 0 ≤ b ∧ b < 2147483629 ∧ 0 ≤ k ∧ k ≤ c
theorem BagC.more {c d : Int} {x : Cell} (h : BagC c x) (l : c ≤ d) : BagC d x := by
  obtain ⟨a, b, k, e, h1, h2, h3, h4, h5⟩ := h
  exact ⟨a, b, k, e, h1, h2, h3, h4, by omega⟩
/-- at p a bag from which at most c numbers were made; it is all that changed since M -/
structure Bag (M L : Lc) (p : Addr) (c : Int) : Prop where
  bag : ∃ x, L p = some x ∧ BagC c x
  rest : ∀ a, a ≠ p → L a = M a
theorem Bag.more {M L : Lc} {p : Addr} {c d : Int} (h : Bag M L p c) (l : c ≤ d) : Bag M L p d := by
  obtain ⟨⟨x, e, b⟩, r⟩ := h
  exact ⟨⟨x, e, b.more l⟩, r⟩
theorem Bag.take {M L : Lc} {p : Addr} {c d : Int} {x : Cell} (h : Bag M L p c) (b : BagC d x) : Bag M (updL L p x) p d :=
  ⟨⟨x, updL_same, b⟩, fun a n => by rw [updL_ne n]; exact h.rest a n⟩
theorem Bag.at_ {M L : Lc} {p a : Addr} {c : Int} {x : Cell} (h : Bag M L p c) (hm : M p = none ∨ a ≠ p) (e : M a = some x) : L a = some x := by
  have n : a ≠ p := by
    rcases hm with hm | hm
    · intro z; rw [z, hm] at e; cases e
    · exact hm
  rw [h.rest a n]; exact e
def spTakeD (y m : Int) : DSp := fun ds L q _ => ∃ p n c, ds = [.ref p, .int n] ∧ (∃ x, L p = some x ∧ BagC c x) ∧ 0 ≤ c ∧ c ≤ 900000 ∧ 0 < n ∧ n.natAbs.log2 < 9000 ∧ ∀ i x, 0 ≤ i → i < n → BagC (c + 1) x → q (.int i) (updL L p x)
def spBagD : DSp := fun ds L q _ => ∃ z, ds = [.int z] ∧ ∀ p x, L p = none → BagC 0 x → q (.ref p) (updL L p x)
def spCellD : DSp := fun ds L q _ => ∃ ns k, ds = [.scr ns, .int k] ∧ 0 ≤ k ∧ k ≤ 1000000 ∧ ∀ i, q (.int i) L
end Ed

set_option Elab.async false
set_option linter.all false
set_option maxRecDepth 100000
set_option maxHeartbeats 2000000
/-! Draws; letters; cells read and set. -/
namespace Ed
open PySem PySem.Spec PyProof.Rows L2 Dz
theorem ixN_of {n : Nat} {i : Int} (h0 : 0 ≤ i) (h1 : i < n) : ixN n i = some i.toNat := by
  unfold ixN
  rw [if_pos h0]
  rw [if_pos (by omega)]
theorem atI_ofD {α : Type} {l : List α} {i : Int} {x : α} (h0 : 0 ≤ i) (h : l[i.toNat]? = some x) : atI l i = some x := by
  have hi := (List.getElem?_eq_some_iff.mp h).1
  unfold L2.atI
  rw [ixN_of h0 (by omega)]
  exact h
theorem at0 {α : Type} {x : α} {l : List α} : atI (x :: l) 0 = some x := atI_ofD (Int.le_refl _) rfl
theorem at1 {α : Type} {x y : α} {l : List α} : atI (x :: y :: l) 1 = some y := atI_ofD (by decide) rfl
theorem at2 {α : Type} {x y z : α} {l : List α} : atI (x :: y :: z :: l) 2 = some z := atI_ofD (by decide) rfl
theorem at3 {α : Type} {x y z u : α} {l : List α} : atI (x :: y :: z :: u :: l) 3 = some u := atI_ofD (by decide) rfl
/-- an index from 0 on -/
theorem at_lt {α : Type} {l : List α} {i : Int} (h0 : 0 ≤ i) (h1 : i < l.length) : ∃ x, atI l i = some x ∧ l[i.toNat]? = some x ∧ x ∈ l := by
  have hi : i.toNat < l.length := by omega
  exact ⟨l[i.toNat], atI_ofD h0 (List.getElem?_eq_getElem hi), List.getElem?_eq_getElem hi, List.getElem_mem hi⟩
section
variable {L : Lc} {p : Addr} {ds : List D}
theorem vs_ref (h : L p = some (.lst ds)) : vSeq L (.ref p) = some ds := by simp [vSeq, vLst, h]
theorem vr_ref (h : L p = some (.lst ds)) : vRd L (.ref p) = some ds := by simp [vRd, vLst, h]
theorem vl_ref (h : L p = some (.lst ds)) : vLst L (.ref p) = some ds := by simp [vLst, h]
theorem v_setL {n : Lc → Prop} {i : Int} {j : Nat} {v : D} (h : L p = some (.lst ds)) (hi : ixN ds.length i = some j) (k : n (updL L p (.lst (ds.set j v)))) : setD (.ref p) (.int i) v L n :=
  .inl ⟨p, ds, i, j, rfl, h, rfl, hi, k⟩
end
theorem Bag.trans {M L L' : Lc} {p : Addr} {c d : Int} (h : Bag M L p c) (h' : Bag L L' p d) : Bag M L' p d := ⟨h'.bag, fun a n => (h'.rest a n).trans (h.rest a n)⟩
theorem Bag.self {L : Lc} {p : Addr} {c : Int} (h : ∃ x, L p = some x ∧ BagC c x) : Bag L L p c := ⟨h, fun _ _ => rfl⟩
/-- a new cell beside -/
theorem Bag.new {M L : Lc} {p a : Addr} {c : Int} {x : Cell} (h : Bag M L p c) (n : L a = none) : Bag (updL M a x) (updL L a x) p c := by
  obtain ⟨⟨y, hy, b⟩, r⟩ := h
  have ne : p ≠ a := fun z => by rw [← z, hy] at n; cases n
  refine ⟨⟨y, by rw [updL_ne ne]; exact hy, b⟩, fun b hb => ?_⟩
  by_cases z : b = a
  · rw [z, updL_same, updL_same]
  · rw [updL_ne z, updL_ne z, r b hb]
def spTk : DSp := spTakeD 0 0
theorem take_d {M L : Lc} {p : Addr} {c : Nat} {n : Int} {q : DQ} {e : DE_} (h : Bag M L p c) (hc : c ≤ 900000) (n0 : 0 < n) (nn : n.natAbs.log2 < 9000) (k : ∀ i L', 0 ≤ i → i < n → Bag M L' p ((c + 1 : Nat) : Int) → q (.int i) L') : spTk [.ref p, .int n] L q e :=
  ⟨p, n, c, rfl, h.bag, by omega, by omega, n0, nn, fun i x h0 h1 b => k i _ h0 h1 (h.take (by rw [show ((c + 1 : Nat) : Int) = (c : Int) + 1 by omega]; exact b))⟩
def LTR : Str := "abcdefghijklmnopqrstuvwxyz"
theorem ltr_len : LTR.length = 26 := by decide +kernel
def LetS (z : Str) : Prop := ∀ c ∈ z.cps.toList, c ∈ LTR.cps.toList
def Nm (z : Str) : Prop := 1 ≤ z.length ∧ z.length ≤ 8 ∧ LetS z
theorem len_app (x y : Str) : (x ++ y).length = x.length + y.length := by
  show (x.cps ++ y.cps).size = _
  rw [Array.size_append]; rfl
theorem let_app {x y : Str} (hx : LetS x) (hy : LetS y) : LetS (x ++ y) := fun c hc => by
  have e : (x ++ y).cps.toList = x.cps.toList ++ y.cps.toList := by
    show (x.cps ++ y.cps).toList = _
    simp
  rw [e] at hc
  rcases List.mem_append.mp hc with h | h
  · exact hx c h
  · exact hy c h
theorem let_cut {z : Str} {lo hi : Option Int} (h : LetS z) : LetS (cutS z lo hi) := fun c hc => h c (cut_mem hc)
theorem let_one {c : Nat} (h : c ∈ LTR.cps.toList) : LetS ⟨#[c]⟩ := fun d hd => by
  have : d = c := by simpa using hd
  rw [this]; exact h
theorem cut_take {z : Str} {k : Int} (h : 0 ≤ k) : ((cutS z none (some k)).length : Int) ≤ k := by
  have e : (cutS z none (some k)).length = ((z.cps.toList.drop (HT.sIx z.length 0 none)).take (HT.sIx z.length z.length (some k) - HT.sIx z.length 0 none)).length := by
    show Array.size _ = _
    simp [cutS]
  rw [e, List.length_take]
  obtain ⟨n, rfl⟩ : ∃ n : Nat, k = n := ⟨k.toNat, (Int.toNat_of_nonneg h).symm⟩
  rw [HT.sIx_nat]
  show ((min (min n z.length - 0) _ : Nat) : Int) ≤ n
  omega
theorem cut_two {z : Str} {k : Int} (h : 0 ≤ k) : (cutS z none (some k)).length + (cutS z (some k) none).length ≤ z.length := by
  obtain ⟨n, rfl⟩ : ∃ n : Nat, k = n := ⟨k.toNat, (Int.toNat_of_nonneg h).symm⟩
  have e1 : (cutS z none (some (n : Int))).length = ((z.cps.toList.drop (HT.sIx z.length 0 none)).take (HT.sIx z.length z.length (some (n : Int)) - HT.sIx z.length 0 none)).length := by
    show Array.size _ = _
    simp [cutS]
  have e2 : (cutS z (some (n : Int)) none).length = ((z.cps.toList.drop (HT.sIx z.length 0 (some (n : Int)))).take (HT.sIx z.length z.length none - HT.sIx z.length 0 (some (n : Int)))).length := by
    show Array.size _ = _
    simp [cutS]
  have lz : z.cps.toList.length = z.length := Array.length_toList
  rw [e1, e2, List.length_take, List.length_take, List.length_drop, List.length_drop, HT.sIx_nat, HT.sIx_nat, lz]
  show min (min n z.length - 0) (z.length - 0) + min (z.length - min n z.length) (z.length - min n z.length) ≤ z.length
  omega
/-- one of the letters -/
theorem ltr_at {i : Int} (h0 : 0 ≤ i) (h1 : i < 26) : ∃ c, atI LTR.cps.toList i = some c ∧ LetS ⟨#[c]⟩ := by
  have l : LTR.cps.toList.length = 26 := by rw [Array.length_toList]; exact ltr_len
  obtain ⟨c, hc, _, m⟩ := at_lt (l := LTR.cps.toList) h0 (by rw [l]; exact h1)
  exact ⟨c, hc, let_one m⟩
theorem sz_lt {n : Nat} (h : n ≤ 1000) : n ≤ sizeLine := Nat.le_trans h (by decide)
theorem join_nil {zs : List Str} (h1 : ∀ z ∈ zs, z.length = 1 ∧ LetS z) : (Txt.join "" zs).length = zs.length ∧ LetS (Txt.join "" zs) ∧ (zs.map (·.length)).sum = zs.length := by
  have hsum : (zs.map (·.length)).sum = zs.length := by
    induction zs with
    | nil => rfl
    | cons z zs ih =>
      rw [List.map_cons, List.sum_cons, (h1 z List.mem_cons_self).1, ih fun y hy => h1 y (List.mem_cons_of_mem _ hy), List.length_cons]
      omega
  refine ⟨by rw [TL.join_eq]; exact (join_len "" rfl zs).trans hsum, fun c hc => ?_, hsum⟩
  rw [TL.join_eq] at hc
  obtain ⟨y, hy, hc'⟩ := join_mem "" rfl zs c hc
  exact (h1 y hy).2 c hc'
end Ed

set_option Elab.async false
set_option linter.all false
set_option maxRecDepth 100000
set_option maxHeartbeats 2000000
/-! Lists unpacked; letters by their numbers. -/
namespace Ed
open PySem PySem.Spec PyProof.Rows L2 Dz
def dgUnl (k : Nat) (r : DTGs) : DTG := fun w x ρ L n => ∃ ds, vRd L x = some ds ∧ ds.length = k ∧ r w ds ρ L n
theorem dg_unl {X : Cx} {K : PySem.W.Frag} {es : List Expr} {pos : Pos} {k m : Nat} {tgs : WX → TGs} {dgs : DTGs} (hK : X.K = K) (hc : X.calm = true) (h : DGs X K tgs es dgs) (hn : (assignEach es X.env).length = m := by rfl) (hst : (assignEach es X.env).findIdx? (·.1) = none := by rfl) :
    DG X K (fun W => L2.gUnl K m (tgs W)) (.Tuple es k pos) (dgUnl m dgs) := by
  subst hK
  refine ⟨fun W t => L2.pg_unl hc (h.pg W t) hn hst, fun W ew S σ ρ v x N n I r R hh => ?_⟩
  obtain ⟨ds, hx, hl, hh⟩ := hh
  obtain ⟨a, xs, rfl, h1, h2⟩ := vRd_ok I.ok r hx
  exact ⟨a, xs, rfl, h1, by rw [h2.length]; exact hl, h.sim W ew S σ ρ xs ds N n I h2 R hh⟩
theorem v_gunl {w : EW} {ρ : Dv} {L : Lc} {n : Dv → Lc → Prop} {k : Nat} {r : DTGs} {ds : List D} (h : ds.length = k ∧ r w ds ρ L n) : dgUnl k r w (.lst ds) ρ L n := ⟨ds, rfl, h⟩
end Ed

set_option Elab.async false
set_option linter.all false
set_option maxRecDepth 100000
set_option maxHeartbeats 2000000
/-! in a tuple, of any data; slots changed in place. -/
namespace Ed
open PySem PySem.Spec PyProof.Rows L2 Dz
def inTD (neg : Bool) : DR2 := fun x y L q => ∃ d ds, PyR L x d ∧ PyR L y (.tuple ds) ∧ SeqAt.shaped d = true ∧ SeqAt.shaped (.tuple ds) = true ∧ q (.bl (if neg then !(ds.any fun e => PyData.eqv e d) else ds.any fun e => PyData.eqv e d)) L
theorem op_inTD {X : Cx} {K : PySem.W.Frag} (hK : X.K = K) (hu : X.A.units + 65 < cLine) : OpR X (compareOp .In) (rOf K (inTD false)) := by
  subst hK
  rintro pins s σ H x y v u Q I rx ry ⟨S, a, b, q, rfl, k1, ra, rb, R, d, ds, hd, he, sd, se, h⟩
  obtain ⟨as, r1⟩ := Dp.reads I d x v (hd.dp k1 ra) rx
  obtain ⟨bs, r2⟩ := Dp.reads I (.tuple ds) y u (he.dp k1 rb) ry
  exact SeqAt.in_tuple_reads r2 r1 (SeqAt.canLay_of_shaped se) (SeqAt.canLay_of_shaped sd) (room_in_shaped sd hu) ⟨.bl _, S.H, I, rfl, R S _ _ (.refl S) k1 (.bl _) h⟩
theorem op_ninTD {X : Cx} {K : PySem.W.Frag} (hK : X.K = K) (hu : X.A.units + 65 < cLine) : OpR X (compareOp .NotIn) (rOf K (inTD true)) := by
  subst hK
  rintro pins s σ H x y v u Q I rx ry ⟨S, a, b, q, rfl, k1, ra, rb, R, d, ds, hd, he, sd, se, h⟩
  obtain ⟨as, r1⟩ := Dp.reads I d x v (hd.dp k1 ra) rx
  obtain ⟨bs, r2⟩ := Dp.reads I (.tuple ds) y u (he.dp k1 rb) ry
  exact SeqAt.notIn_tuple_reads r2 r1 (SeqAt.canLay_of_shaped se) (SeqAt.canLay_of_shaped sd) (room_in_shaped sd hu) ⟨.bl _, S.H, I, rfl, R S _ _ (.refl S) k1 (.bl _) h⟩
def inAD (neg : Bool) : DR2 := fun x y L q => inD neg x y L q ∨ inTD neg x y L q
theorem op_inAD {X : Cx} {K : PySem.W.Frag} (hK : X.K = K) (hu : X.A.units + 65 < cLine) : OpR X (compareOp .In) (fun x y H Q => rInA K false x y H Q ∨ rOf K (inTD false) x y H Q) := (op_inA hK hu).or (op_inTD hK hu)
theorem op_ninAD {X : Cx} {K : PySem.W.Frag} (hK : X.K = K) (hu : X.A.units + 65 < cLine) : OpR X (compareOp .NotIn) (fun x y H Q => rInA K true x y H Q ∨ rOf K (inTD true) x y H Q) := (op_ninA hK hu).or (op_ninTD hK hu)
theorem sim_inAD {K : PySem.W.Frag} {neg : Bool} : SimR2 K (fun x y H Q => rInA K neg x y H Q ∨ rOf K (inTD neg) x y H Q) (inAD neg) := sim_in.or sim_of
/-! x += e -/
def dAug (i : Nat) (f : DR2) (a : DTE) : DTS := fun w D ρ L => ∃ x, ρ[i]? = some (some x) ∧ a w ρ L fun y L1 => f x y L1 fun z L2 => D.nx (ρ.set i (some z)) L2
theorem ds_aug {X : Cx} {K : PySem.W.Frag} {i : Nat} {x : Str} {e : Expr} {ta : WX → TE} {da : DTE} {op : Operator} {ti : TIp} {f : DR2} {pos pos' : Pos} (hN : X.N.Nodup) (hi : X.N[i]? = some x) (hx : Loc X.env.scope x) (ha : DE X K ta e da) (ho : PIp X op ti) (hs : SimR2 K ti f)
    (hf : X.fn x = true ∨ X.env.scope.names.lookup x = some .local := by first | exact .inl rfl | exact .inr rfl | assumption) : DS X K (fun W => tAug i (ta W) ti) (.AugAssign (.Name x pos') op e pos) (dAug i f da) := by
  refine ⟨fun W t => ps_aug hN hi hx (ha.pe W t) ho hf, fun W ew S σ ρ D d I R h => ?_⟩
  obtain ⟨y, hy, h⟩ := h
  obtain ⟨v, hv, rv⟩ := I.sl.at_ i y hy
  refine ⟨v, hv, ha.sim W ew S σ ρ _ _ I (fun S1 u z e1 k1 r1 h1 => ?_) h⟩
  refine hs S1 v u y z _ _ k1 (rv.ev e1) r1 (fun S2 t t' e2 k2 r2 h2 => ?_) h1
  exact R.nx S2 _ _ (e1.trans e2) k2 ((I.sl.ev (e1.trans e2)).set r2) h2
def ipD (g : Int → Int → Int) : DR2 := iopD (fun _ _ => True) g
theorem sim_ip {K : PySem.W.Frag} {g : Int → Int → Int} : SimR2 K (ipI g) (ipD g) := by
  rintro S x y a b Q q k rx ry R ⟨i, j, rfl, rfl, _, h⟩
  cases rx; cases ry
  exact ⟨i, j, rfl, rfl, R S _ _ (.refl S) k (.int _) h⟩
theorem v_aug {w : EW} {D0 : DEnds} {ρ : Dv} {L : Lc} {i : Nat} {f : DR2} {a : DTE} (h : ∃ x, ρ[i]? = some (some x) ∧ a w ρ L fun y L1 => f x y L1 fun z L2 => D0.nx (ρ.set i (some z)) L2) : dAug i f a w D0 ρ L := h
theorem v_ip {g : Int → Int → Int} {i j : Int} {L : Lc} {q : DQ} (h : q (.int (g i j)) L) : ipD g (.int i) (.int j) L q := ⟨i, j, rfl, rfl, trivial, h⟩
end Ed

set_option Elab.async false
set_option linter.all false
set_option maxRecDepth 100000
set_option maxHeartbeats 2000000
/-! A try with clauses of one class, named or not, and a last one of two. -/
namespace Dz
open PySem PySem.Spec PyProof.Rows L2
inductive Ct where
  | one (q : Cl)
  | two (c1 c2 : Value) (ts : Addr → Value → Option Addr → TS)
def wT (K : PySem.W.Frag) (Wout : WX) (D : Ends) : List (Option Ct) → WX
  | [] => Wout
  | none :: _ => fun _ _ _ _ => False
  | some (.one q) :: l => fun cls d σ H => ∃ b, PySem.W.exmOne K cls q.c = some b ∧ (b = true → ∀ a, H a = none → q.ts a cls d (Ends.gone D q.i) (put σ a q.i) H) ∧ (b = false → wT K Wout D l cls d σ H)
  | some (.two c1 c2 ts) :: _ => fun cls d σ H => PySem.W.exmAny K cls [c1, c2] = some true ∧ ∀ a, H a = none → ts a cls d D σ H
inductive HdsT (X : Cx) : List ExceptHandler → List (Option Ct) → Prop
  | nil : HdsT X [] []
  | never {hds : List ExceptHandler} : HdsT X hds [none]
  | as_ {x n : Str} {c : Value} {i : Nat} {ts : Addr → Value → Option Addr → TS} {b₀ : Stmt} {suite : List Stmt} {np pos' : Pos} {hds : List ExceptHandler} {l : List (Option Ct)} (hi : X.N[i]? = some n) (hln : X.env.kindOf n = some .local) (hc : Names X x c)
      (hsu : ∀ (a : Addr) (oe : Obj) (cls : Value) (d : Option Addr) (pn : List (Addr × Obj)), Zc cls d oe → (∃ vs, oe.data = .fields vs) → PSs (X.suite a ((a, oe) :: pn)) (b₀ :: suite) (ts a cls d)) (r : HdsT X hds l) :
      HdsT X (.ExceptHandler (some (.Name x np)) (some n) (b₀ :: suite) pos' :: hds) (some (.one ⟨c, some i, ts⟩) :: l)
  | plain {x : Str} {c : Value} {ts : Addr → Value → Option Addr → TS} {b₀ : Stmt} {suite : List Stmt} {np pos' : Pos} {hds : List ExceptHandler} {l : List (Option Ct)} (hc : Names X x c)
      (hsu : ∀ (a : Addr) (oe : Obj) (cls : Value) (d : Option Addr) (pn : List (Addr × Obj)), Zc cls d oe → (∃ vs, oe.data = .fields vs) → PSs (X.suite a ((a, oe) :: pn)) (b₀ :: suite) (ts a cls d)) (r : HdsT X hds l) :
      HdsT X (.ExceptHandler (some (.Name x np)) none (b₀ :: suite) pos' :: hds) (some (.one ⟨c, none, ts⟩) :: l)
  | tup2 {x1 x2 : Str} {c1 c2 : Value} {ts : Addr → Value → Option Addr → TS} {b₀ : Stmt} {suite : List Stmt} {p1 p2 tpos pos' : Pos} {kk : Nat} {hds : List ExceptHandler} (n1 : Names X x1 c1) (n2 : Names X x2 c2)
      (hsu : ∀ (a : Addr) (oe : Obj) (cls : Value) (d : Option Addr) (pn : List (Addr × Obj)), Zc cls d oe → (∃ vs, oe.data = .fields vs) → PSs (X.suite a ((a, oe) :: pn)) (b₀ :: suite) (ts a cls d)) :
      HdsT X (.ExceptHandler (some (.Tuple [.Name x1 p1, .Name x2 p2] kk tpos)) none (b₀ :: suite) pos' :: hds) [some (.two c1 c2 ts)]
def tTryT (tb : WX → TS) (K : PySem.W.Frag) (Wout : WX) (l : List (Option Ct)) : TS := fun D σ H => tb (wT K Wout D l) D σ H
section
variable {X : Cx} {body : List Stmt} {h₀ : ExceptHandler} {hds : List ExceptHandler} {l : List (Option Ct)} {pos : Pos} {tb : WX → TS} {Wout : WX}
theorem ps_tryT (hs : X.stack = X.env :: X.outer) (hf : X.env.frame = some X.env.locals) (hN : X.N.Nodup) (tk : Takes X Wout)
    (hb : ∀ (W : WX) (pn : List (Addr × Obj)) (xe : Value → Shared → Prop), Takes (X.tr pn xe) W → PassesOwn (model X.prog X.w) X.A X.env xe → PSs (X.tr pn xe) body (tb W))
    (hh : HdsT X (h₀ :: hds) l) : PS X (.Try body (h₀ :: hds) [] [] pos) (tTryT tb X.K Wout l) := by
  constructor
  intro pins s σ H D I h
  have ok := I.ok
  have hfr : X.A.frames = some (X.env :: X.outer) := by rw [ok.frames, hs]
  refine wpAny_Try_except ?_
  refine wpAny_mono ((hb (wT X.K Wout D l) (X.pn ++ pins) (fun e s₁ => wpAny (model X.prog X.w) X.A (noteFrame e X.env) (fun _ s₂ => wpAny (model X.prog X.w) X.A (setFlight e none) (fun _ s₃ =>
    wpAny (model X.prog X.w) X.A (handleBy e X.env (h₀ :: hds)) (SP X pins D) X.xe s₃) X.xe s₂) X.xe s₁) ?_ PassesOwn.looking).run [] s σ H D (I.toTry _) h) ?_ fun e s1 he => he
  · rintro u s' ⟨a, B, sI, pins', σ', H', cls, d, rfl, J', nb, up, sky, na, os, ag, w⟩
    have J : Inv X pins σ' H' sI := J'.ofTry ok
    show wpAny (model X.prog X.w) X.A (noteFrame (.ref a) X.env) _ _ _
    refine Sky.land Zc.steady hfr hf (by rw [← hs]; exact sky) fun h3 fl3 up3 => ?_
    have J3 : Inv X pins σ' H' { s' with heap := h3 } := J.landed nb fl3.1 (up.trans up3) os ag
    obtain ⟨oe3, vs3, he3, hz3, hd3⟩ := fl3.there
    have nfr : a ∉ frs (X.env :: X.outer) := fun hm => by
      obtain ⟨_, o', e', hnf⟩ := fl3.2.2.1.mem hm
      rw [he3] at e'
      cases e'
      exact hnf _ hd3
    have nL : a ≠ X.env.locals := fun z => nfr (List.mem_filterMap.mpr ⟨X.env, List.mem_cons_self, by rw [hf, z]⟩)
    have nF : a ∉ X.fs := fun hm => by
      obtain ⟨e, he, q⟩ := List.mem_filterMap.mp hm
      exact nfr (List.mem_filterMap.mpr ⟨e, List.mem_cons_of_mem _ he, q⟩)
    have S3 := J3.suite he3 hd3 na nL nF
    have LT : PySem.W.Looks (model X.prog X.w) h3 (typeOf (.ref a)) cls := fun A Q E s k q => wpAny_typeOf_ref (k _ _ he3) (by rw [hz3.1]; exact q)
    have test : ∀ {x : Str} {c : Value} {np : Pos} {Q : Value → Shared → Prop} {E : Value → Shared → Prop}, Names X x c → Q c { s' with heap := h3 } → wpAny (model X.prog X.w) (X.A.mark (some (.ref a))) (eval (.Name x np) X.env) Q E { s' with heap := h3 } := by
      intro x c np Q E hc q
      obtain ⟨hg, hdbg, hm | ⟨hm, hv, hnn⟩⟩ := hc
      · exact ld_glob (X := X.suite a ((a, oe3) :: (X.pn ++ pins))) S3 hg hm q hdbg
      · exact ld_blt (X := X.suite a ((a, oe3) :: (X.pn ++ pins))) S3 hg hm hv q hnn hdbg
    have go : ∀ {hds' : List ExceptHandler} {l' : List (Option Ct)}, HdsT X hds' l' → wT X.K Wout D l' cls d σ' H' → wpAny (model X.prog X.w) X.A (handleBy (.ref a) X.env hds') (SP X pins D) X.xe { s' with heap := h3 } := by
      intro hds' l' hk
      induction hk with
      | never => exact fun w => w.elim
      | nil =>
        intro w
        refine wpAny_handleBy_nil ?_
        obtain ⟨k1, k2, k3, oe, vs, T, oT, ts', he, hz, hd, h1, hr⟩ := id fl3
        unfold PySem.passOn
        refine wpAny_bind (wpAny_field he hd h1 ?_)
        rw [if_neg (show ¬ ((Value.ref T == Value.none) = true) from by simp)]
        have fin : wpAny (model X.prog X.w) X.A (setFlight (.ref a) X.env.frame) (fun _ s4 => wpAny (model X.prog X.w) X.A (throw (.ref a) : Sem Flow) (SP X pins D) X.xe s4) X.xe { s' with heap := h3 } := by
          rw [hf]
          refine HandSPX.setFlight_upZ fl3 fun h4 hh4 up4 => wpAny_throw (tk _ _ ?_)
          exact ⟨a, B, sI, pins, σ', H', cls, d, rfl, J, nb, (up.trans up3).trans up4, .inr (.inr (by rw [hs]; exact hh4)), na, os, ag, w⟩
        first
          | exact wpAny_bind (wpAny_pure (wpAny_bind fin))
          | exact wpAny_bind fin
      | @as_ x n c i ts b₀ suite np pos' hds2 l2 hi hln hc hsu r ih =>
        intro w
        obtain ⟨b, hb1, hyes, hno⟩ := w
        refine wpAny_handleBy_cons (codeAny_handlers_test (test hc ((PySem.W.exm_one (M := model X.prog X.w) J3.kIn LT hb1).here ?_))) (by intro q; cases q)
        cases b with
        | false =>
          show wpAny _ X.A (handleBy (.ref a) X.env hds2) _ _ _
          exact ih (hno rfl)
        | true =>
          refine codeAny_handlers_suite_as ?_
          refine HandSPX.lands_againZ fl3 fun h4 fl4 up4 => ?_
          have J4 : Inv X pins σ' H' { s' with heap := h4 } := J.landed nb fl4.1 ((up.trans up3).trans up4) os ag
          obtain ⟨oe4, vs4, he4, hz4, hd4⟩ := fl4.there
          have S4 := J4.suite he4 hd4 na nL nF
          refine store_ok (X := X.suite a ((a, oe4) :: (X.pn ++ pins))) (v := .ref a) S4 hN hi (.inl hln) rfl (fun s5 S5 => ?_) (.inr hln)
          refine wpAny_mono ((hsu a oe4 cls d (X.pn ++ pins) hz4 ⟨_, hd4⟩).run [] s5 _ H' _ S5 (hyes rfl a na)) (fun f s6 hsp => ?_) (fun _ _ z => False.elim z)
          have end_ : ∀ {σ6 : L2.St} {H6 : Hp} {Q : Shared → Prop}, Inv (X.suite a ((a, oe4) :: (X.pn ++ pins))) [] σ6 H6 s6 → (∀ s7, Inv X pins (σ6.set i none) H6 s7 → Q s7) →
              wpAny (model X.prog X.w) X.A (do bindName X.env n .none; unbindBehindTheSuite X.env n pos') (fun _ s7 => Q s7) X.xe s6 := fun {σ6 H6 Q} S6 hq => gone_ok (S6.unsuite ok) hN hi hln hq
          cases f with
          | next =>
            obtain ⟨σ6, H6, S6, q6⟩ := hsp
            exact end_ S6 fun s7 J7 => ⟨_, _, J7, q6⟩
          | brk =>
            obtain ⟨σ6, H6, S6, q6⟩ := hsp
            exact end_ S6 fun s7 J7 => ⟨_, _, J7, q6⟩
          | cont =>
            obtain ⟨σ6, H6, S6, q6⟩ := hsp
            exact end_ S6 fun s7 J7 => ⟨_, _, J7, q6⟩
          | ret u =>
            obtain ⟨v6, σ6, H6, S6, r6, q6⟩ := hsp
            exact end_ S6 fun s7 J7 => ⟨_, _, _, J7, r6, q6⟩
      | @plain x c ts b₀ suite np pos' hds2 l2 hc hsu r ih =>
        intro w
        obtain ⟨b, hb1, hyes, hno⟩ := w
        refine wpAny_handleBy_cons (codeAny_handlers_test (test hc ((PySem.W.exm_one (M := model X.prog X.w) J3.kIn LT hb1).here ?_))) (by intro q; cases q)
        cases b with
        | false =>
          show wpAny _ X.A (handleBy (.ref a) X.env hds2) _ _ _
          exact ih (hno rfl)
        | true =>
          refine codeAny_handlers_suite ?_
          refine HandSPX.lands_againZ fl3 fun h4 fl4 up4 => ?_
          have J4 : Inv X pins σ' H' { s' with heap := h4 } := J.landed nb fl4.1 ((up.trans up3).trans up4) os ag
          obtain ⟨oe4, vs4, he4, hz4, hd4⟩ := fl4.there
          have S4 := J4.suite he4 hd4 na nL nF
          refine wpAny_mono ((hsu a oe4 cls d (X.pn ++ pins) hz4 ⟨_, hd4⟩).run [] _ _ H' _ S4 (hyes rfl a na)) (fun f s6 hsp => ?_) (fun _ _ z => False.elim z)
          cases f with
          | next =>
            obtain ⟨σ6, H6, S6, q6⟩ := hsp
            exact ⟨_, _, S6.unsuite ok, q6⟩
          | brk =>
            obtain ⟨σ6, H6, S6, q6⟩ := hsp
            exact ⟨_, _, S6.unsuite ok, q6⟩
          | cont =>
            obtain ⟨σ6, H6, S6, q6⟩ := hsp
            exact ⟨_, _, S6.unsuite ok, q6⟩
          | ret u =>
            obtain ⟨v6, σ6, H6, S6, r6, q6⟩ := hsp
            exact ⟨_, _, _, S6.unsuite ok, r6, q6⟩
      | @tup2 x1 x2 c1 c2 ts b₀ suite p1 p2 tpos pos2 kk hds2 n1 n2 hsu =>
        rintro ⟨hb1, hyes⟩
        have kp : ∀ q o, h3.get? q = some o → (h3.push { cls := .type "tuple", data := .seq [c1, c2].toArray }).get? q = some o := fun _ _ z => Heap.get?_push_of_some _ z
        refine wpAny_handleBy_cons (codeAny_handlers_test ?_) (by intro q; cases q)
        refine wpAny_Tuple ?_
        refine wpAny_items_cons (test n1 ?_)
        refine wpAny_items_cons (test n2 ?_)
        refine wpAny_items_nil ⟨by size_fits, ?_⟩
        refine (PySem.W.exm_tup2 (M := model X.prog X.w) (J3.kIn.keeps kp) (LT.keeps kp) (Heap.get?_push_size h3 rfl) hb1).here ?_
        have fl5 : HandSPX.FlyingZ B (X.env :: X.outer) a (Zc cls d) (h3.push { cls := .type "tuple", data := .seq [c1, c2].toArray }) := by
          obtain ⟨y1, y2, y3, oe, vs, T, oT, ts', he, hz, hd, h1, hn, ne, hT, hdT, h9⟩ := fl3
          exact ⟨fun b o q => kp b o (y1 b o q), y2, y3.of_keeps fun b o q _ => ⟨o, kp b o q, rfl⟩, oe, vs, T, oT, ts', kp _ _ he, hz, hd, h1, hn, ne, kp _ _ hT, hdT, h9⟩
        refine codeAny_handlers_suite ?_
        refine HandSPX.lands_againZ fl5 fun h4 fl4 up4 => ?_
        have J4 : Inv X pins σ' H' { s' with heap := h4 } := J.landed nb fl4.1 (((up.trans up3).trans (Heap.UpToSlots.of_keeps kp)).trans up4) os ag
        obtain ⟨oe4, vs4, he4, hz4, hd4⟩ := fl4.there
        have S4 := J4.suite he4 hd4 na nL nF
        refine wpAny_mono ((hsu a oe4 cls d (X.pn ++ pins) hz4 ⟨_, hd4⟩).run [] _ _ H' _ S4 (hyes a na)) (fun f s6 hsp => ?_) (fun _ _ z => False.elim z)
        cases f with
        | next =>
          obtain ⟨σ6, H6, S6, q6⟩ := hsp
          exact ⟨_, _, S6.unsuite ok, q6⟩
        | brk =>
          obtain ⟨σ6, H6, S6, q6⟩ := hsp
          exact ⟨_, _, S6.unsuite ok, q6⟩
        | cont =>
          obtain ⟨σ6, H6, S6, q6⟩ := hsp
          exact ⟨_, _, S6.unsuite ok, q6⟩
        | ret u =>
          obtain ⟨v6, σ6, H6, S6, r6, q6⟩ := hsp
          exact ⟨_, _, _, S6.unsuite ok, r6, q6⟩
    exact go hh w
  · intro f s1 hsp
    cases f with
    | next =>
      obtain ⟨σ', H', J', q⟩ := hsp
      exact wpAny_execs_nil ⟨σ', H', J'.ofTry ok, q⟩
    | brk =>
      obtain ⟨σ', H', J', q⟩ := hsp
      exact ⟨σ', H', J'.ofTry ok, q⟩
    | cont =>
      obtain ⟨σ', H', J', q⟩ := hsp
      exact ⟨σ', H', J'.ofTry ok, q⟩
    | ret u =>
      obtain ⟨v, σ', H', J', r, q⟩ := hsp
      exact ⟨v, σ', H', J'.ofTry ok, r, q⟩
end
end Dz

set_option Elab.async false
set_option linter.all false
set_option maxRecDepth 100000
set_option maxHeartbeats 2000000
/-! A try, at the level of data: which classes take which is told by mt. -/
namespace Ed
open PySem PySem.Spec PyProof.Rows L2 Dz
inductive DCt where
  | one (q : DCl)
  | two (c1 c2 : Addr) (ds : Addr → Addr → Addr → DTS)
def dClsT (mt : Addr → Addr → Bool → Prop) (w : EW) (D : DEnds) : List (Option DCt) → EW
  | [] => w
  | none :: _ => fun _ _ _ _ => False
  | some (.one q) :: l => fun C gs ρ L => ∃ b, mt C q.c b ∧ (b = true → ∀ a dd, q.ds a dd C noW (D.gone q.i) (dput ρ (.exo a dd C gs) q.i) L) ∧ (b = false → dClsT mt w D l C gs ρ L)
  | some (.two c1 c2 ds) :: _ => fun C gs ρ L => ∃ b1 b2, mt C c1 b1 ∧ mt C c2 b2 ∧ (b1 || b2) = true ∧ ∀ a dd, ds a dd C noW D ρ L
def dTryT (mt : Addr → Addr → Bool → Prop) (tb : DTS) (l : List (Option DCt)) : DTS := fun w D ρ L => tb (dClsT mt w D l) D ρ L
section
variable {X : Cx} {K : PySem.W.Frag} {pos : Pos}
inductive DHdsT (X : Cx) (K : PySem.W.Frag) : List ExceptHandler → List (Option Ct) → List (Option DCt) → Prop
  | nil : DHdsT X K [] [] []
  | never {hds : List ExceptHandler} : DHdsT X K hds [none] [none]
  | as_ {x n : Str} {c : Addr} {i : Nat} {ts : Addr → Value → Option Addr → WX → TS} {ds : Addr → Addr → Addr → DTS} {b₀ : Stmt} {suite : List Stmt} {np pos' : Pos} {hds : List ExceptHandler} {l : List (Option Ct)} {dl : List (Option DCt)} (hi : X.N[i]? = some n) (hln : X.env.kindOf n = some .local) (hc : Names X x (.ref c))
      (hsu : ∀ (a : Addr) (oe : Obj) (cls : Value) (d : Option Addr) (pn : List (Addr × Obj)), Zc cls d oe → (∃ vs, oe.data = .fields vs) → ∀ W, Takes (X.suite a ((a, oe) :: pn)) W → PSs (X.suite a ((a, oe) :: pn)) (b₀ :: suite) (ts a cls d W))
      (sim : ∀ a dd C, SimS K (ts a (.ref C) (some dd)) (ds a dd C)) (r : DHdsT X K hds l dl) :
      DHdsT X K (.ExceptHandler (some (.Name x np)) (some n) (b₀ :: suite) pos' :: hds) (some (.one ⟨.ref c, some i, fun a cls d => ts a cls d fun _ _ _ _ => False⟩) :: l) (some (.one ⟨c, some i, ds⟩) :: dl)
  | plain {x : Str} {c : Addr} {ts : Addr → Value → Option Addr → WX → TS} {ds : Addr → Addr → Addr → DTS} {b₀ : Stmt} {suite : List Stmt} {np pos' : Pos} {hds : List ExceptHandler} {l : List (Option Ct)} {dl : List (Option DCt)} (hc : Names X x (.ref c))
      (hsu : ∀ (a : Addr) (oe : Obj) (cls : Value) (d : Option Addr) (pn : List (Addr × Obj)), Zc cls d oe → (∃ vs, oe.data = .fields vs) → ∀ W, Takes (X.suite a ((a, oe) :: pn)) W → PSs (X.suite a ((a, oe) :: pn)) (b₀ :: suite) (ts a cls d W))
      (sim : ∀ a dd C, SimS K (ts a (.ref C) (some dd)) (ds a dd C)) (r : DHdsT X K hds l dl) :
      DHdsT X K (.ExceptHandler (some (.Name x np)) none (b₀ :: suite) pos' :: hds) (some (.one ⟨.ref c, none, fun a cls d => ts a cls d fun _ _ _ _ => False⟩) :: l) (some (.one ⟨c, none, ds⟩) :: dl)
  | tup2 {x1 x2 : Str} {c1 c2 : Addr} {ts : Addr → Value → Option Addr → WX → TS} {ds : Addr → Addr → Addr → DTS} {b₀ : Stmt} {suite : List Stmt} {p1 p2 tpos pos' : Pos} {kk : Nat} {hds : List ExceptHandler} (n1 : Names X x1 (.ref c1)) (n2 : Names X x2 (.ref c2))
      (hsu : ∀ (a : Addr) (oe : Obj) (cls : Value) (d : Option Addr) (pn : List (Addr × Obj)), Zc cls d oe → (∃ vs, oe.data = .fields vs) → ∀ W, Takes (X.suite a ((a, oe) :: pn)) W → PSs (X.suite a ((a, oe) :: pn)) (b₀ :: suite) (ts a cls d W))
      (sim : ∀ a dd C, SimS K (ts a (.ref C) (some dd)) (ds a dd C)) :
      DHdsT X K (.ExceptHandler (some (.Tuple [.Name x1 p1, .Name x2 p2] kk tpos)) none (b₀ :: suite) pos' :: hds) [some (.two (.ref c1) (.ref c2) fun a cls d => ts a cls d fun _ _ _ _ => False)] [some (.two c1 c2 ds)]
theorem DHdsT.hdsT {hds : List ExceptHandler} {l : List (Option Ct)} {dl : List (Option DCt)} (h : DHdsT X K hds l dl) : HdsT X hds l := by
  induction h with
  | nil => exact .nil
  | never => exact .never
  | as_ hi hln hc hsu sim r ih => exact .as_ hi hln hc (fun a oe cls d pn hz hf => hsu a oe cls d pn hz hf _ takes0) ih
  | plain hc hsu sim r ih => exact .plain hc (fun a oe cls d pn hz hf => hsu a oe cls d pn hz hf _ takes0) ih
  | tup2 n1 n2 hsu sim => exact .tup2 n1 n2 (fun a oe cls d pn hz hf => hsu a oe cls d pn hz hf _ takes0)
/-- what the clauses wish, of both levels -/
theorem clsT_rel {mt : Addr → Addr → Bool → Prop} (hm : ∀ C c b, mt C c b → PySem.W.exmOne K (.ref C) (.ref c) = some b) {hds : List ExceptHandler} {l : List (Option Ct)} {dl : List (Option DCt)} (h : DHdsT X K hds l dl) {S : Sta} {W : WX} {ew : EW} {D : Ends} {d : DEnds} (hw : RelW K S W ew) (hd : RelD K S D d) : RelW K S (wT K W D l) (dClsT mt ew d dl) := by
  induction h with
  | nil => exact hw
  | never => exact fun _ _ _ _ _ _ _ _ _ _ _ _ _ _ z => z.elim
  | @as_ x n c i ts ds b₀ suite np pos' hds l dl hi hln hc hsu sim r ih =>
    intro S' C dd fs gs σ ρ ev ok s n1 n2 n3 n4 hh
    obtain ⟨b, hb, yes, no⟩ := hh
    refine ⟨b, hm _ _ _ hb, fun e a na => ?_, fun e => ih S' C dd fs gs σ ρ ev ok s n1 n2 n3 n4 (no e)⟩
    refine sim a dd C _ noW S' (σ.set i (some (.ref a))) (ρ.set i (some (.exo a dd C gs))) (Ends.gone D (some i)) (DEnds.gone d (some i)) ⟨ok, s.set (.exo n1 n2 n3 n4), noW_rel⟩ ⟨fun T σ2 ρ2 ev2 ok2 s2 h2 => ?_, hd.rt.ev ev, fun T σ2 ρ2 ev2 ok2 s2 h2 => ?_, fun T σ2 ρ2 ev2 ok2 s2 h2 => ?_⟩ (yes e a dd)
    · exact hd.nx T _ _ (ev.trans ev2) ok2 s2.unset h2
    · exact hd.bk T _ _ (ev.trans ev2) ok2 s2.unset h2
    · exact hd.ct T _ _ (ev.trans ev2) ok2 s2.unset h2
  | @plain x c ts ds b₀ suite np pos' hds l dl hc hsu sim r ih =>
    intro S' C dd fs gs σ ρ ev ok s n1 n2 n3 n4 hh
    obtain ⟨b, hb, yes, no⟩ := hh
    refine ⟨b, hm _ _ _ hb, fun e a na => ?_, fun e => ih S' C dd fs gs σ ρ ev ok s n1 n2 n3 n4 (no e)⟩
    exact sim a dd C _ noW S' σ ρ _ _ ⟨ok, s, noW_rel⟩ (hd.ev ev) (yes e a dd)
  | @tup2 x1 x2 c1 c2 ts ds b₀ suite p1 p2 tpos pos' kk hds n1 n2 hsu sim =>
    intro S' C dd fs gs σ ρ ev ok s m1 m2 m3 m4 hh
    obtain ⟨b1, b2, h1, h2, hb, yes⟩ := hh
    refine ⟨?_, fun a na => sim a dd C _ noW S' σ ρ _ _ ⟨ok, s, noW_rel⟩ (hd.ev ev) (yes a dd)⟩
    unfold PySem.W.exmAny PySem.W.exmAny PySem.W.exmAny
    rw [hm _ _ _ h1, hm _ _ _ h2]
    show some (b1 || (b2 || false)) = some true
    rw [Bool.or_false, hb]
theorem ds_tryT {mt : Addr → Addr → Bool → Prop} (hm : ∀ C c b, mt C c b → PySem.W.exmOne K (.ref C) (.ref c) = some b) {body : List Stmt} {h₀ : ExceptHandler} {hds : List ExceptHandler} {l : List (Option Ct)} {dl : List (Option DCt)} {tb : WX → TS} {db : DTS} (hK : X.K = K) (hs : X.stack = X.env :: X.outer) (hf : X.env.frame = some X.env.locals) (hN : X.N.Nodup)
    (hb : ∀ (pn : List (Addr × Obj)) (xe : Value → Shared → Prop), PassesOwn (model X.prog X.w) X.A X.env xe → DSs (X.tr pn xe) K tb body db) (hh : DHdsT X K (h₀ :: hds) l dl) :
    DS X K (fun W => tTryT tb K W l) (.Try body (h₀ :: hds) [] [] pos) (dTryT mt db dl) := by
  subst hK
  refine ⟨fun W t => ps_tryT hs hf hN t (fun W pn xe tk po => (hb pn xe po).ps W tk) hh.hdsT, fun W ew S σ ρ D d I R h => ?_⟩
  have B := hb [] (fun _ _ => False) PassesOwn.never
  exact B.sim _ _ S σ ρ D d ⟨I.ok, I.sl, clsT_rel hm hh I.wi R⟩ R h
theorem v_try {mt : Addr → Addr → Bool → Prop} {tb : DTS} {l : List (Option DCt)} {w : EW} {D0 : DEnds} {ρ : Dv} {L : Lc} (h : tb (dClsT mt w D0 l) D0 ρ L) : dTryT mt tb l w D0 ρ L := h
end
end Ed

set_option Elab.async false
set_option linter.all false
set_option maxRecDepth 100000
set_option maxHeartbeats 2000000
/-! The suites of a try: a caught error's fields; clauses by their suites' derivations. -/
namespace Ed
open PySem PySem.Spec PyProof.Rows L2 Dz
/-- e.f of the caught error: a, dd its places, C its class; C0 the clause's -/
def dXfC (a dd C C0 : Addr) (g : Str) (o : DTE) : DTE := fun w ρ L q => o w ρ L fun x L1 => ∃ gs d, x = .exo a dd C gs ∧ C = C0 ∧ gs.lookup g = some d ∧ q d L1
theorem d_xf {X : Cx} {K : PySem.W.Frag} {a dd C C0 : Addr} {oe : Obj} {pn : List (Addr × Obj)} {e : Expr} {te : WX → TE} {de : DTE} {pos : Pos} {g : Str} (hK : X.K = K) (T : XfC K C0) (hno : PySem.W.findIn K (.ref C0) g = some none)
    (hz : Zc (.ref C) (some dd) oe) (hf : ∃ vs, oe.data = .fields vs) (he : DE (X.suite a ((a, oe) :: pn)) K te e de) (hb : attributeBase e g X.env (eval e X.env) = eval e X.env := by rfl) :
    DE (X.suite a ((a, oe) :: pn)) K (fun W => tXf a (.ref C) (some dd) C0 g (te W)) (.Attribute e g pos) (dXfC a dd C C0 g de) := by
  subst hK
  refine ⟨fun W t => pe_xf T hno hz hf (he.pe W t) hb, fun W ew S σ ρ Q q I R h => ?_⟩
  refine he.sim W ew S σ ρ _ _ I (fun S1 v x e1 k1 r1 h1 => ?_) h
  obtain ⟨gs, d, rfl, rfl, hl, h1⟩ := h1
  cases r1 with
  | @exo _ _ _ ks _ n h2 h3 h4 =>
  have T1 : TabR X.K S1.H S1.Λ ks gs := ⟨h3, h4⟩
  rcases T1.lookup g with ⟨z, _⟩ | ⟨d', v, z, y, rv⟩
  · rw [hl] at z; cases z
  · rw [hl] at z; cases z
    exact ⟨rfl, rfl, dd, ks, v, rfl, h2, y, R S1 _ _ e1 k1 rv h1⟩
/-- a suite's reading where the error's class and fields stand where they stand -/
def tsOf (ts : Addr → Addr → Addr → WX → TS) (a : Addr) (cls : Value) (d : Option Addr) (W : WX) : TS := match cls, d with
  | .ref C, some dd => ts a C dd W
  | _, _ => fun _ _ _ => False
def zoe (C dd : Addr) : Obj := { cls := .ref C, dict := some dd, data := .fields #[] }
section
variable {X : Cx} {K : PySem.W.Frag}
/-- a suite, for each error -/
def Suite (X : Cx) (K : PySem.W.Frag) (ts : Addr → Addr → Addr → WX → TS) (sts : List Stmt) (ds : Addr → Addr → Addr → DTS) : Prop :=
  ∀ (a C dd : Addr) (oe : Obj) (pn : List (Addr × Obj)), Zc (.ref C) (some dd) oe → (∃ vs, oe.data = .fields vs) → DSs (X.suite a ((a, oe) :: pn)) K (ts a C dd) sts (ds a dd C)
theorem Suite.pss {ts : Addr → Addr → Addr → WX → TS} {sts : List Stmt} {ds : Addr → Addr → Addr → DTS} (h : Suite X K ts sts ds) (a : Addr) (oe : Obj) (cls : Value) (d : Option Addr) (pn : List (Addr × Obj)) (hz : Zc cls d oe) (hf : ∃ vs, oe.data = .fields vs) (W : WX) (t : Takes (X.suite a ((a, oe) :: pn)) W) :
    PSs (X.suite a ((a, oe) :: pn)) sts (tsOf ts a cls d W) := by
  unfold tsOf
  split
  · exact (h a _ _ oe pn hz hf).ps W t
  · exact ⟨fun pins s σ H D I z => z.elim⟩
theorem Suite.sim {ts : Addr → Addr → Addr → WX → TS} {sts : List Stmt} {ds : Addr → Addr → Addr → DTS} (h : Suite X K ts sts ds) (a dd C : Addr) : SimS K (tsOf ts a (.ref C) (some dd)) (ds a dd C) :=
  (h a C dd (zoe C dd) [] ⟨rfl, rfl⟩ ⟨_, rfl⟩).sim
theorem h_nil : DHdsT X K [] [] [] := .nil
theorem h_never {hds : List ExceptHandler} : DHdsT X K hds [none] [none] := .never
theorem h_as {x n : Str} {c : Addr} {i : Nat} {ts : Addr → Addr → Addr → WX → TS} {ds : Addr → Addr → Addr → DTS} {b₀ : Stmt} {suite : List Stmt} {np pos' : Pos} {hds : List ExceptHandler} {l : List (Option Ct)} {dl : List (Option DCt)} (hi : X.N[i]? = some n) (hln : X.env.kindOf n = some .local) (hc : Names X x (.ref c))
    (h : Suite X K ts (b₀ :: suite) ds) (r : DHdsT X K hds l dl) : DHdsT X K (.ExceptHandler (some (.Name x np)) (some n) (b₀ :: suite) pos' :: hds) (some (.one ⟨.ref c, some i, fun a cls d => tsOf ts a cls d fun _ _ _ _ => False⟩) :: l) (some (.one ⟨c, some i, ds⟩) :: dl) :=
  .as_ hi hln hc (fun a oe cls d pn hz hf W t => h.pss a oe cls d pn hz hf W t) h.sim r
theorem h_plain {x : Str} {c : Addr} {ts : Addr → Addr → Addr → WX → TS} {ds : Addr → Addr → Addr → DTS} {b₀ : Stmt} {suite : List Stmt} {np pos' : Pos} {hds : List ExceptHandler} {l : List (Option Ct)} {dl : List (Option DCt)} (hc : Names X x (.ref c))
    (h : Suite X K ts (b₀ :: suite) ds) (r : DHdsT X K hds l dl) : DHdsT X K (.ExceptHandler (some (.Name x np)) none (b₀ :: suite) pos' :: hds) (some (.one ⟨.ref c, none, fun a cls d => tsOf ts a cls d fun _ _ _ _ => False⟩) :: l) (some (.one ⟨c, none, ds⟩) :: dl) :=
  .plain hc (fun a oe cls d pn hz hf W t => h.pss a oe cls d pn hz hf W t) h.sim r
theorem h_tup2 {x1 x2 : Str} {c1 c2 : Addr} {ts : Addr → Addr → Addr → WX → TS} {ds : Addr → Addr → Addr → DTS} {b₀ : Stmt} {suite : List Stmt} {p1 p2 tpos pos' : Pos} {kk : Nat} {hds : List ExceptHandler} (n1 : Names X x1 (.ref c1)) (n2 : Names X x2 (.ref c2))
    (h : Suite X K ts (b₀ :: suite) ds) : DHdsT X K (.ExceptHandler (some (.Tuple [.Name x1 p1, .Name x2 p2] kk tpos)) none (b₀ :: suite) pos' :: hds) [some (.two (.ref c1) (.ref c2) fun a cls d => tsOf ts a cls d fun _ _ _ _ => False)] [some (.two c1 c2 ds)] :=
  .tup2 n1 n2 (fun a oe cls d pn hz hf W t => h.pss a oe cls d pn hz hf W t) h.sim
end
end Ed

set_option Elab.async false
set_option linter.all false
set_option maxRecDepth 100000
set_option maxHeartbeats 2000000
/-! Constants that are tuples of texts. -/
namespace Ed
open PySem PySem.Spec PyProof.Rows L2 Dz
theorem rp_strs {K : PySem.W.Frag} {H : Hp} {Λ : Addr → Prop} (ns : List Str) : RpL K H Λ (ns.map V.str) (ns.map D.str) := RpL.strs (S := ⟨H, fun _ => none, Λ⟩) ns
theorem d_ct {X : Cx} {K : PySem.W.Frag} {a : Addr} {ns : List Str} {x : Str} {pos : Pos} (k : KTup K a (ns.map V.str)) (hg : Gl X x) (hm : X.mg x = some (.ref a)) (hd : (x == ("__debug__" : Str)) = false := by decide) : DE X K (fun _ => tC (.ref a)) (.Name x pos) (dC (.ctup (ns.map .str))) :=
  d_c (pe_glob (v := .ref a) hg hm rfl hd) fun _ _ => .ctup k (rp_strs ns)
theorem ktup_of {K : PySem.W.Frag} {a : Addr} {dd : Option Addr} {its : Array Value} {n : Nat} {sl : Array (Option Value)} {xs : List V} (h : K.lookup a = some ⟨.type "tuple", dd, .seq its n, sl⟩) (hl : its.size ≤ 1000) (r : Vals xs its.toList) : KTup K a xs :=
  ⟨_, its, n, h, rfl, rfl, sz_lt hl, r⟩
def boolD : DRL := fun xs L q => (∃ i, xs = [.int i] ∧ q (.bl (i != 0)) L) ∨ ∃ k, xs = [.bl k] ∧ q (.bl k) L
theorem sim_bool {K : PySem.W.Frag} : SimRL K (fun xs H Q => (∃ i, xs = [.int i] ∧ Q (.bl (i != 0)) H) ∨ ∃ k, xs = [.bl k] ∧ Q (.bl k) H) boolD := by
  rintro S xs as Q q k r R (⟨i, rfl, h⟩ | ⟨b, rfl, h⟩)
  · obtain ⟨v, rfl, rv⟩ := vals1R r
    cases rv
    exact .inl ⟨i, rfl, R S _ _ (.refl S) k (.bl _) h⟩
  · obtain ⟨v, rfl, rv⟩ := vals1R r
    cases rv
    exact .inr ⟨b, rfl, R S _ _ (.refl S) k (.bl _) h⟩
def dPar3 (i j l : Nat) (a : DTA) : DTS := fun w D ρ L => a w ρ L fun xs L1 => ∃ x y z, xs = [x, y, z] ∧ D.nx (((ρ.set i (some x)).set j (some y)).set l (some z)) L1
theorem ds_par3 {X : Cx} {K : PySem.W.Frag} {a b c : Expr} {tr : WX → TA} {dr : DTA} {pos : Pos} {i j l : Nat} {x y z : Str} {px py pz pt : Pos} {kt k2 pt2} (hc : X.calm = true) (hN : X.N.Nodup) (hi : X.N[i]? = some x) (hj : X.N[j]? = some y) (hl : X.N[l]? = some z) (hij : i ≠ j) (hil : i ≠ l) (hjl : j ≠ l)
    (hx : X.env.scope.names.lookup x = some .local) (hy : X.env.scope.names.lookup y = some .local) (hz : X.env.scope.names.lookup z = some .local) (ha : DA X K tr [a, b, c] dr)
    (hw : swappedStores [.Tuple [.Name x px, .Name y py, .Name z pz] kt pt] (.Tuple [a, b, c] k2 pt2) X.env = pure (some [x, y, z]))
    (hs : swapsWithSole [.Tuple [.Name x px, .Name y py, .Name z pz] kt pt] (.Tuple [a, b, c] k2 pt2) pos.line X.env = pure false := by rfl) :
    DS X K (fun W => tPar3 i j l (tr W)) (.Assign [.Tuple [.Name x px, .Name y py, .Name z pz] kt pt] (.Tuple [a, b, c] k2 pt2) pos) (dPar3 i j l dr) := by
  refine ⟨fun W t => ps_par3 hc hN hi hj hl hij hil hjl hx hy hz (ha.pa W t) hw hs, fun W ew S σ ρ D d I R h => ?_⟩
  refine ha.sim W ew S σ ρ _ _ I (fun S1 vs xs e1 k1 r1 h1 => ?_) h
  obtain ⟨x, y, z, rfl, h1⟩ := h1
  cases r1 with
  | cons r1 rr =>
  cases rr with
  | cons r2 rr =>
  cases rr with
  | cons r3 rr =>
  cases rr
  exact ⟨_, _, _, rfl, R.nx S1 _ _ e1 k1 ((((I.sl.ev e1).set r1).set r2).set r3) h1⟩
theorem v_par3 {w : EW} {D0 : DEnds} {ρ : Dv} {L : Lc} {es : DTA} {i j l : Nat} (h : es w ρ L fun xs L1 => ∃ x y z, xs = [x, y, z] ∧ D0.nx (((ρ.set i (some x)).set j (some y)).set l (some z)) L1) : dPar3 i j l es w D0 ρ L := h
theorem v_three {x y z : D} {p : D → D → D → Prop} (h : p x y z) : ∃ a b c, [x, y, z] = [a, b, c] ∧ p a b c := ⟨x, y, z, rfl, h⟩
end Ed

set_option Elab.async false
set_option linter.all false
set_option maxRecDepth 100000
set_option maxHeartbeats 2000000
/-! == of a dict and a text. -/
namespace Ed
open PySem PySem.Spec PySem.SeqAt
open AutoSeq1 (wpAny_loadPart')
open MeetsSeq MeetsSeq2 MeetsSeq3 SeqRoads2
theorem dict_eq_str (l : Addr) (es : Array DictEntry) (ep : Nat) (b : Str) (u : Tok) :
    Meets (Builtin.«dict.__eq__» ⟨[.ref l, .str b u], []⟩) (fun _ R s => s.heap.get? l = some { cls := .type "dict", data := .dict es ep } ∧ R (.ok (.ret .notImplemented)) s) :=
  .of_wp fun prog w A R s h => by
    obtain ⟨hp, g, d, tk, os⟩ := s
    obtain ⟨hl, h⟩ := h
    have f1 := F.sub_str_dict
    wp_walk using wpAny_loadPart' hl
    exact ⟨_, rfl, h⟩
theorem str_eq_dict (l : Addr) (es : Array DictEntry) (ep : Nat) (b : Str) (u : Tok) :
    Meets (Builtin.«str.__eq__» ⟨[.str b u, .ref l], []⟩) (fun _ R s => s.heap.get? l = some { cls := .type "dict", data := .dict es ep } ∧ R (.ok (.ret .notImplemented)) s) :=
  .of_wp fun prog w A R s h => by
    obtain ⟨hp, g, d, tk, os⟩ := s
    obtain ⟨hl, h⟩ := h
    wp_walk using wpAny_loadPart' hl, wpAny_load hl
    exact ⟨_, rfl, h⟩
section
variable {A : Around} {s : Shared}
theorem rc_dict_str {l : Addr} {es : Array DictEntry} {ep : Nat} (b : Str) (u : Tok) (ho : s.heap.get? l = some { cls := .type "dict", data := .dict es ep }) (hu : A.units < cLine) : RcAt A s (.ref l) (.str b u) false := fun prog w E Q h =>
  rc_eq_decline_or (k := false) ⟨_, ho, rfl⟩ (typeIs_str s b u) (by decide) F.sub_str_dict F.slot_dict_eq F.slot_str_eq_refl
    (fun _ hq => call_meets F.slot_dict_eq ⟨_, ho, rfl⟩ F.entry_dict_eq (F.args_dict_eq_2 _ _) (dict_eq_str l es ep b u) ⟨ho, hq⟩)
    (fun _ hq => call_meets F.slot_str_eq_refl (typeIs_str s b u) F.entry_str_eq (F.args_str_eq_2 _ _) (str_eq_dict l es ep b u) ⟨ho, hq⟩)
    (fun _ hq => wpAny_of_eq (rfl : isSame (.ref l) (.str b u) = pure false) hq) (.inr hu) h
theorem rc_str_dict {l : Addr} {es : Array DictEntry} {ep : Nat} (b : Str) (u : Tok) (ho : s.heap.get? l = some { cls := .type "dict", data := .dict es ep }) (hu : A.units < cLine) : RcAt A s (.str b u) (.ref l) false := fun prog w E Q h =>
  rc_eq_decline_or (k := false) (typeIs_str s b u) ⟨_, ho, rfl⟩ (by decide) F.sub_dict_str F.slot_str_eq F.slot_dict_eq_refl
    (fun _ hq => call_meets F.slot_str_eq (typeIs_str s b u) F.entry_str_eq (F.args_str_eq_2 _ _) (str_eq_dict l es ep b u) ⟨ho, hq⟩)
    (fun _ hq => call_meets F.slot_dict_eq_refl ⟨_, ho, rfl⟩ F.entry_dict_eq (F.args_dict_eq_2 _ _) (dict_eq_str l es ep b u) ⟨ho, hq⟩)
    (fun _ hq => wpAny_of_eq (rfl : isSame (.str b u) (.ref l) = pure false) hq) (.inr hu) h
theorem eqAt_str_dict {l : Addr} {es : Array DictEntry} {ep : Nat} (b : Str) (u : Tok) (ho : s.heap.get? l = some { cls := .type "dict", data := .dict es ep }) (hu : A.units < cLine) : EqAt A s (.str b u) (.ref l) false := fun prog w E Q h => by
  unfold eqBool
  refine wpAny_holding ?_
  refine wpAny_ite_split (fun hab => absurd (eq_of_beq hab) nofun) (fun _ => ?_)
  exact wpAny_bind (rc_str_dict b u ho hu prog w E _ (wpAny_truthy_bool h))
end
end Ed
namespace Ed
open PySem PySem.Spec PyProof.Rows L2 Dz
/-- a dict that may change, as it stands -/
theorem dict_at {X : Cx} {pins : List (Addr × Obj)} {σ : L2.St} {S : Sta} {s : Shared} {a : Addr} {es : List (Key × D)} {v : V} {u : Value} (I : Inv X pins σ S.H s) (k : Ok X.K S) (h : S.L a = some (.dK es)) (r : Rp X.K S.H S.Λ v (.ref a)) (rv : RelV v u) : ∃ e ep, u = .ref a ∧ s.heap.get? a = some { cls := .type "dict", data := .dict e ep } := by
  cases r
  cases (show u = Value.ref a from rv)
  obtain ⟨_, ks, h1, _⟩ := k.cell a _ h
  obtain ⟨_, _, vs, kv, o, es, ep, ho, hxd, hd, _⟩ := dk_of I.hok h1
  obtain ⟨oc, odd, odt, osl⟩ := o
  obtain ⟨h1, h2, h3⟩ := hxd
  cases h1
  cases h2
  cases h3
  cases hd
  exact ⟨_, _, rfl, ho⟩
/-- a dict == a text -/
def eqDSD : DR2 := fun x y L q => ∃ a es z, x = .ref a ∧ L a = some (.dK es) ∧ y = .str z ∧ q (.bl false) L
theorem op_eqDS {X : Cx} {K : PySem.W.Frag} (hK : X.K = K) (hu : X.A.units < cLine) : OpR X (compareOp .Eq) (rOf K eqDSD) := by
  subst hK
  rintro pins s σ H x y v u Q I rx ry ⟨S, a, b, q, rfl, k1, ra, rb, R, ad, es, z, rfl, h1, rfl, h⟩
  obtain ⟨e, ep, rfl, ho⟩ := dict_at I k1 h1 ra rx
  cases rb
  obtain ⟨t, rfl⟩ := ry
  show wpAny (model X.prog X.w) X.A (richCompare .Eq (.ref ad) (.str z t)) _ _ s
  exact rc_dict_str z t ho hu X.prog X.w X.xe _ ⟨.bl false, S.H, I, rfl, R S _ _ (.refl S) k1 (.bl _) h⟩
/-- a dict in a tuple of texts -/
def inDSD (neg : Bool) : DR2 := fun x y L q => ∃ (a : Addr) (es : List (Key × D)) (zs : List Str), x = .ref a ∧ L a = some (.dK es) ∧ (y = .ctup (zs.map .str) ∨ y = .tup (zs.map .str)) ∧ q (.bl neg) L
theorem op_inDS {X : Cx} {K : PySem.W.Frag} (hK : X.K = K) (hu : X.A.units + 1 < cLine) : OpR X (compareOp .In) (rOf K (inDSD false)) := by
  subst hK
  rintro pins s σ H x y v u Q I rx ry ⟨S, a, b, q, rfl, k1, ra, rb, R, ad, es, zs, rfl, h1, hy, h⟩
  obtain ⟨e, ep, rfl, ho⟩ := dict_at I k1 h1 ra rx
  have ht : ∃ c, y = .ref c ∧ SqT X.K S.H c (zs.map V.str) := by
    rcases hy with rfl | rfl
    · cases rb with
      | ctup t r => exact ⟨_, rfl, by rw [← r.str_of]; exact t.sq⟩
    · cases rb with
      | tup n t r => exact ⟨_, rfl, by rw [← r.str_of]; exact .of t⟩
  obtain ⟨c, rfl, ht⟩ := ht
  cases (show u = Value.ref c from ry)
  obtain ⟨its, rr, hT, _⟩ := I.tuple ht
  refine SeqAt.in_tupleAt (fun _ => false) hT (fun y hy => ?_) ?_
  · have : ∀ (l : List Value) (zs : List Str), Vals (zs.map V.str) l → ∀ y ∈ l, ∃ b u, y = .str b u := by
      intro l zs r
      induction zs generalizing l with
      | nil => cases r; intro y hy; cases hy
      | cons z zs ih =>
        cases r with
        | cons r1 r2 =>
          intro y hy
          rcases List.mem_cons.mp hy with rfl | hy
          · obtain ⟨t, rfl⟩ := r1
            exact ⟨_, _, rfl⟩
          · exact ih _ r2 y hy
    obtain ⟨b, t, rfl⟩ := this _ zs rr y (by simpa using hy)
    exact eqAt_str_dict b t ho (by show X.A.units + 1 < cLine; exact hu)
  · have : (its.toArray.any fun _ => false) = false := by simp
    first
      | rw [this]
      | skip
    exact ⟨.bl false, S.H, I, rfl, R S _ _ (.refl S) k1 (.bl _) h⟩
end Ed

set_option Elab.async false
set_option linter.all false
set_option maxRecDepth 100000
set_option maxHeartbeats 2000000
/-! repr of data with dicts in it: the modules' table stands in the base, so no list is there. -/
namespace Ed
open PySem PySem.Spec PyProof.Rows L2 Dz
theorem ns_sm {h : Heap} (x : h.NoSeer) : ∃ mm, h.Ns sysModules mm := by
  obtain ⟨mm, h, _⟩ := x.mods
  exact ⟨mm, h⟩
/-! ### the law's call -/
theorem enterS {P : Program} {w : World} {K : PySem.W.Frag} {mg mb : Str → Option Value} {CX : CXT} {k : Nat} {fa a : Addr} {fd : FuncData} {x : Str} {sp : Sp} {s₁ : Shared} {vs : List Value} {ns : List Int}
    (KX : K.In s₁.heap) (hns : s₁.heap.Ns mainGlobals mg) (hb : s₁.heap.Ns builtinsNs mb) (hbb : ∀ x : Str, x ≠ "__name__" → mb x = bootBuiltins x) (hlim : s₁.heap.NoLimit) (hsm : ∃ mm, s₁.heap.Ns sysModules mm) (hgen : s₁.gens = #[])
    (ha : s₁.heap.get? a = some { cls := .type "list", data := .seq vs.toArray }) (hi : IntsAre vs ns) (hl : ns.length ≤ sizeLine) (hr : Room k callerA)
    (F : ∀ base : Heap, K.In base → base.Ns mainGlobals mg → (∃ o, base.get? sysModules = some o) → FnG P w K mg base CX k fa fd [x] sp) (hbind : ∀ (s : Shared) (u : Value), BindsTo s fd ⟨[u], []⟩ [(x, u)])
    (hsp : ∀ H : Hp, Only H → SqL K H a (ns.map V.int) → sp [.ref a] H (fun v _ => v = .bl true) fun _ _ _ => False)
    (hCX : ∀ H e s', CX [] H s₁ (fun _ _ _ => False) e s' → False) :
    codeAny (model P w) callerA (.call (.ref fa) ⟨[.ref a], []⟩) (fun r s' => r = .ok (.ret (.bool true)) ∧ OldK s₁.heap s'.heap ∧ s'.os = s₁.os ∧ AllBare s'.gens) s₁ := by
  have rv : Vals (ns.map V.int) vs := vals_ints hi
  have lv : vs.length = ns.length := hi.length
  have run : ∀ H : Hp, Only H → SqL K H a (ns.map V.int) → HOk P w H s₁.heap → (∀ b, H b ≠ none → b = a ∧ K.lookup a = none) →
      codeAny (model P w) callerA (.call (.ref fa) ⟨[.ref a], []⟩) (fun r s' => r = .ok (.ret (.bool true)) ∧ OldK s₁.heap s'.heap ∧ s'.os = s₁.os ∧ AllBare s'.gens) s₁ := by
    intro H hO hS hok hA
    -- what stands in a namespace, or in the written part, is not tracked
    have free : ∀ {b : Addr} {o : Obj}, s₁.heap.get? b = some o → (∀ es ep, o.data = .dict es ep → True) → (b = a → False) → H b = none := fun {b o} _ _ nb => by
      cases q : H b with
      | none => rfl
      | some u => exact (nb (hA b (by rw [q]; exact fun z => by cases z)).1).elim
    have nsK : ∀ {b : Addr} {m : Str → Option Value}, s₁.heap.Ns b m → (hidT s₁.heap H).Ns b m := fun {b m} n => by
      obtain ⟨o, es, ep, e, d, rr⟩ := n
      refine ⟨o, es, ep, hidT_get e (free e (fun _ _ _ => trivial) fun z => ?_), d, rr⟩
      rw [z, ha] at e
      cases e
      cases d
    have kB : K.In (hidT s₁.heap H) := fun b o e => hidT_get (KX b o e) (by
      cases q : H b with
      | none => rfl
      | some u =>
        obtain ⟨z1, z2⟩ := hA b (by rw [q]; exact fun z => by cases z)
        rw [z1, z2] at e
        cases e)
    have hM : Mod K mg (hidT s₁.heap H) := ⟨kB, nsK hns, ⟨mb, nsK hb, hbb⟩, by obtain ⟨mc, h1, h2⟩ := hlim; exact ⟨mc, nsK h1, h2⟩⟩
    have e0 : Env0 P w K mg (hidT s₁.heap H) callerA [] s₁ H :=
      { frames := rfl, mod := hM, bs := fun b o e => of_hidT e, bsz := Nat.le_of_eq (hidT_size _ _), funs := trivial, frf := fun b hb => absurd (show b ∈ ([] : List Addr) from hb) (by simp), hok := hok, bare := .of_eq hgen }
    refine codeAny_mono ((F _ kB (nsK hns) (by obtain ⟨mm, n⟩ := hsm; obtain ⟨o, es, ep, e, _⟩ := nsK n; exact ⟨o, e⟩)).go callerA [] s₁ H ⟨[.ref a], []⟩ [.ref a] [.ref a] _ _ rfl hr e0 (hbind s₁ (.ref a)) (.cons rfl .nil) (hsp H hO hS)) ?_
    intro rs s' h
    match rs, h with
    | .error e, h => exact (hCX H e s' h).elim
    | .ok (.ret u), h =>
      obtain ⟨v, H', os, bare, un, hok', r', q⟩ := h
      cases (show v = .bl true from q)
      cases (show u = Value.bool true from r')
      refine ⟨rfl, OldK.of_keep fun b o e => ?_, os, bare⟩
      cases q : H b with
      | none => exact un.keep b o e q (fun z => absurd (show b ∈ ([] : List Addr) from z) (by simp)) (by simp)
      | some u =>
        rcases hO b with z | ⟨ob, xs, z⟩
        · rw [q] at z
          cases z
        · have h1 := (hok b _ z).1
          have h2 := (hok' b _ (un.frzs b ob _ z)).1
          rw [e] at h1
          cases h1
          exact h2
  cases hk : K.lookup a with
  | some o =>
    have e := KX a o hk
    rw [ha] at e
    cases e
    exact run (fun _ => none) (fun _ => .inl rfl) (.inr ⟨_, vs.toArray, _, hk, rfl, rfl, rfl, by rw [List.size_toArray, lv]; exact hl, by simpa using rv⟩) (fun b u z => by have z' : (none : Option HO) = some u := z; cases z') (fun b z => absurd rfl z)
  | none =>
    let Hs : Hp := fun b => if b = a then some (.frz { cls := .type "list", data := .seq vs.toArray } (.lst (ns.map V.int))) else none
    have at_a : Hs a = some (.frz { cls := .type "list", data := .seq vs.toArray } (.lst (ns.map V.int))) := if_pos rfl
    have off : ∀ b, b ≠ a → Hs b = none := fun b h => if_neg h
    refine run Hs (fun b => ?_) (.inl (.inr ⟨_, at_a⟩)) (fun b u z => ?_) (fun b z => ⟨?_, hk⟩)
    · by_cases h : b = a
      · rw [h]; exact .inr ⟨_, _, at_a⟩
      · exact .inl (off b h)
    · by_cases h : b = a
      · subst h
        rw [at_a] at z
        cases z
        exact ⟨ha, by rw [List.length_map]; exact hl, vs, _, rv, ha⟩
      · rw [off b h] at z
        cases z
    · by_cases h : b = a
      · exact h
      · exact absurd (off b h) z
theorem walkS {l : PySem.W.OpenLaw} {n k : Nat} {q : Program} {loose : List Str} {XP : (Str → Option Value) → Heap → Prop} {YP : World → Heap → Prop} {d : DefRec} {K : Params → PySem.W.Frag} {CX : World → CXT} {sp : World → Sp} {x : Str}
    (hn : l.most = some n) (hn2 : n ≤ sizeLine) (hdf : d.params.defaults = []) (hin : importsNone q = true) (hr : Room k callerA)
    (hY : ∀ (w : World) (h : Heap), YP w h → (K w.params).In h)
    (F : ∀ (w : World) (mg : Str → Option Value) (fa : Addr) (h : Heap), (K w.params).In h → h.Ns mainGlobals mg → mg d.name = some (.ref fa) →
      ∃ fd : FuncData, (∀ (s : Shared) (u : Value), BindsTo s fd ⟨[u], []⟩ [(x, u)]) ∧
        ∀ base : Heap, (K w.params).In base → base.Ns mainGlobals mg → (∃ o, base.get? sysModules = some o) → FnG l.prog w (K w.params) mg base (CX w) k fa fd [x] (sp w))
    (hsp : ∀ (w : World) (H : Hp) (a : Addr) (ns : List Int), ns.length ≤ n → (∀ z ∈ ns, Builtin.Int.intBits z ≤ 1048576) → Only H → SqL (K w.params) H a (ns.map V.int) → sp w [.ref a] H (fun v _ => v = .bl true) fun _ _ _ => False)
    (hCX : ∀ (w : World) (H : Hp) (s : Shared) (e : Value) (s' : Shared), CX w [] H s (fun _ _ _ => False) e s' → False) :
    PySem.W.WalkO q loose XP YP l.row.toRowW d [] (fun f vs => PySem.call f vs) := by
  refine Att.attach_callB hn hdf ?_
  intro w s₀ s₁ mg mb fa o pm cd doc a vs ns G Y ho hd hcd hmg hobj hints hlen hbits hgen
  obtain ⟨fd, hb, hF⟩ := F w mg fa _ (hY w _ Y) G.T.g hmg
  exact enterS (hY w _ Y) G.T.g G.T.b G.T.builtins G.T.nolimit (ns_sm (G.T.seer hin)) hgen hobj hints (Nat.le_trans hlen hn2) hr hF hb (fun H hO hS => hsp w H a ns hlen hbits hO hS) fun H e s' => hCX w H s₁ e s'
/-- the same where the promise hangs on the written part alone -/
theorem walkKS {l : PySem.W.OpenLaw} {n k : Nat} {q : Program} {loose : List Str} {XP : (Str → Option Value) → Heap → Prop} {YP : World → Heap → Prop} {d : DefRec} {K : Params → PySem.W.Frag} {CX : CXT} {sp : PySem.W.Frag → Sp} {x : Str}
    (hn : l.most = some n) (hn2 : n ≤ sizeLine) (hdf : d.params.defaults = []) (hin : importsNone q = true) (hr : Room k callerA) (hY : ∀ (w : World) (h : Heap), YP w h → (K w.params).In h)
    (F : ∀ (w : World) (mg : Str → Option Value) (fa : Addr) (h : Heap), (K w.params).In h → h.Ns mainGlobals mg → mg d.name = some (.ref fa) →
      ∃ fd : FuncData, (∀ (s : Shared) (u : Value), BindsTo s fd ⟨[u], []⟩ [(x, u)]) ∧ ∀ base : Heap, (K w.params).In base → base.Ns mainGlobals mg → (∃ o, base.get? sysModules = some o) → FnG l.prog w (K w.params) mg base CX k fa fd [x] (sp (K w.params)))
    (hsp : ∀ (K : PySem.W.Frag) (H : Hp) (a : Addr) (ns : List Int), ns.length ≤ n → Only H → SqL K H a (ns.map V.int) → sp K [.ref a] H (fun v _ => v = .bl true) fun _ _ _ => False)
    (hCX : ∀ (H : Hp) (s : Shared) (e : Value) (s' : Shared), CX [] H s (fun _ _ _ => False) e s' → False) : PySem.W.WalkO q loose XP YP l.row.toRowW d [] (fun f vs => PySem.call f vs) :=
  walkS (K := K) (CX := fun _ => CX) (sp := fun w => sp (K w.params)) hn hn2 hdf hin hr hY F (fun w H a ns h1 _ h2 h3 => hsp (K w.params) H a ns h1 h2 h3) fun _ H s e s' => hCX H s e s'

theorem no_sm {X : Cx} {pins : List (Addr × Obj)} {σ : L2.St} {H : Hp} {s : Shared} (I : Inv X pins σ H s) (hb : ∃ o, X.base.get? sysModules = some o) : H sysModules = none := by
  obtain ⟨o, e⟩ := hb
  exact (I.bs _ _ e).2
mutual
inductive Dw (K : PySem.W.Frag) (H : Hp) : V → PyData → Prop
  | non : Dw K H .non .none
  | bl (b : Bool) : Dw K H (.bl b) (.bool b)
  | int (i : Int) : Dw K H (.int i) (.int i)
  | str (x : Str) : Dw K H (.str x) (.str x)
  | lst {a : Addr} {xs : List V} {ds : List PyData} : H a = some (.lst xs) → DwAll K H xs ds → Dw K H (.ref a) (.list ds)
  | tup {a : Addr} {xs : List V} {ds : List PyData} : SqT K H a xs → DwAll K H xs ds → Dw K H (.ref a) (.tuple ds)
  | dct {a : Addr} {ks : List (Key × V)} {es : List (PyData × PyData)} : Rd H a (.dK ks) → DwK K H ks es → Dw K H (.ref a) (.dict es)
inductive DwAll (K : PySem.W.Frag) (H : Hp) : List V → List PyData → Prop
  | nil : DwAll K H [] []
  | cons {v : V} {vs : List V} {d : PyData} {ds : List PyData} : Dw K H v d → DwAll K H vs ds → DwAll K H (v :: vs) (d :: ds)
inductive DwK (K : PySem.W.Frag) (H : Hp) : List (Key × V) → List (PyData × PyData) → Prop
  | nil : DwK K H [] []
  | cons {x : Str} {v : V} {d : PyData} {ks : List (Key × V)} {es : List (PyData × PyData)} : Dw K H v d → DwK K H ks es → DwK K H ((.inr x, v) :: ks) ((.str x, d) :: es)
end
theorem mix_str {P : Program} {w : World} {x : Str} {u : Value} (h : (mixKind P w).is (.inr x) u = true) : ∃ t, u = .str x t := by
  rcases keyIs_shape (k := .inr x) h with ⟨i, t, e, _⟩ | ⟨y, t, e, e2⟩
  · cases e
  · cases e; exact ⟨t, e2⟩
theorem reads_of_str {h : Heap} {v : Value} {x : Str} {t : Tok} (e : v = .str x t) : Reads h v (.str x) [] := by rw [e]; exact .str x t
section
variable {X : Cx} {pins : List (Addr × Obj)} {σ : L2.St} {H : Hp} {s : Shared}
mutual
theorem Dw.reads (I : Inv X pins σ H s) (hb : H sysModules = none) : ∀ (d : PyData) (v : V) (u : Value), Dw X.K H v d → RelV v u → ∃ as, Reads s.heap u d as ∧ sysModules ∉ as
  | .none, _, _, h, r => by cases h; cases r; exact ⟨_, Reads.none, fun z => nomatch z⟩
  | .bool b, _, _, h, r => by cases h; cases r; exact ⟨_, Reads.bool b, fun z => nomatch z⟩
  | .int i, _, _, h, r => by
    cases h
    obtain ⟨t, rfl⟩ := r
    exact ⟨_, Reads.int i t, fun z => nomatch z⟩
  | .str x, _, _, h, r => by
    cases h
    obtain ⟨t, rfl⟩ := r
    exact ⟨_, Reads.str x t, fun z => nomatch z⟩
  | .list ds, _, _, h, r => by
    cases h with
    | lst hs ha =>
      cases r
      obtain ⟨its, rv, ⟨o, n, ho, hc, _, hd⟩, _⟩ := I.list (.of hs)
      obtain ⟨as, hr, hn⟩ := Dw.readsAll I hb ds _ its ha rv
      exact ⟨_, Reads.list ho hc hd hr, fun z => by
        rcases List.mem_cons.mp z with e | z
        · rw [e, hs] at hb; cases hb
        · exact hn z⟩
  | .tuple ds, _, _, h, r => by
    cases h with
    | tup hs ha =>
      cases r
      obtain ⟨its, rv, ⟨o, ho, hc, n, hd⟩, _⟩ := I.tuple hs
      obtain ⟨as, hr, hn⟩ := Dw.readsAll I hb ds _ its ha rv
      exact ⟨_, Reads.tuple ho hc hd hr, hn⟩
  | .dict kvs, _, _, h, r => by
    cases h with
    | dct hs ha =>
      cases r
      obtain ⟨_, na, vs, kv, o, es, ep, ho, hx, hd, _, pr, _⟩ := dk_rd I.hok hs
      obtain ⟨bs, h1, h2, hn⟩ := Dw.readsK I hb kvs _ vs es.toList ha kv pr
      obtain ⟨as, h1, hk⟩ := h1
      refine ⟨_, Reads.dict ho hx.1 hd h1 h2, fun z => ?_⟩
      rcases List.mem_cons.mp z with z | z
      · rw [← z] at na
        exact absurd na (by decide)
      · rcases List.mem_append.mp z with z | z
        · exact hk z
        · exact hn z
theorem Dw.readsAll (I : Inv X pins σ H s) (hb : H sysModules = none) : ∀ (ds : List PyData) (vs : List V) (us : List Value), DwAll X.K H vs ds → Vals vs us → ∃ as, ReadsAll s.heap us ds as ∧ sysModules ∉ as
  | [], _, _, h, r => by cases h; cases r; exact ⟨_, ReadsAll.nil, fun z => nomatch z⟩
  | d :: ds, _, _, h, r => by
    cases h with
    | cons h1 h2 =>
      cases r with
      | cons r1 r2 =>
        obtain ⟨as, q1, n1⟩ := Dw.reads I hb d _ _ h1 r1
        obtain ⟨bs, q2, n2⟩ := Dw.readsAll I hb ds _ _ h2 r2
        exact ⟨_, ReadsAll.cons q1 q2, fun z => by
          rcases List.mem_append.mp z with z | z
          · exact n1 z
          · exact n2 z⟩
theorem Dw.readsK (I : Inv X pins σ H s) (hb : H sysModules = none) : ∀ (es : List (PyData × PyData)) (ks : List (Key × V)) (vs : List (Key × Value)) (ents : List DictEntry), DwK X.K H ks es → KV ks vs → Pairs (mixKind X.prog X.w) ents vs →
    ∃ bs, (∃ as, ReadsAll s.heap (ents.map (·.key)) (es.map (·.1)) as ∧ sysModules ∉ as) ∧ ReadsAll s.heap (ents.map (·.val)) (es.map (·.2)) bs ∧ sysModules ∉ bs
  | [], _, _, _, h, kv, pr => by
    cases h
    cases kv
    cases pr
    exact ⟨_, ⟨_, ReadsAll.nil, fun z => nomatch z⟩, ReadsAll.nil, fun z => nomatch z⟩
  | (_, d) :: es, _, _, _, h, kv, pr => by
    cases h with
    | cons h1 h2 =>
      cases kv with
      | cons r1 r2 =>
        cases pr with
        | cons p1 p2 p3 =>
          obtain ⟨e1, r1⟩ := r1
          rw [← e1] at p1
          obtain ⟨t, e2⟩ := mix_str p1
          obtain ⟨as, q1, n1⟩ := Dw.reads I hb d _ _ h1 r1
          obtain ⟨bs, ⟨as2, q3, n3⟩, q2, n2⟩ := Dw.readsK I hb es _ _ _ h2 r2 p3
          refine ⟨_, ⟨_, ReadsAll.cons (reads_of_str e2) q3, n3⟩, ReadsAll.cons (by have z := q1; rw [← p2] at z; exact z) q2, fun z => ?_⟩
          rcases List.mem_append.mp z with z | z
          · exact n1 z
          · exact n2 z
end
end
/-- repr(x) -/
def rShowW (K : PySem.W.Frag) : List V → Hp → VK → Prop := fun xs H Q => ∃ v d, xs = [v] ∧ Dw K H v d ∧ d.showable = true ∧ d.depth ≤ 60 ∧ d.shown.length ≤ sizeLine ∧ Q (.str d.shown) H
theorem call_showW {X : Cx} {K : PySem.W.Frag} {k : Nat} (hK : X.K = K) (hb : ∃ o, X.base.get? sysModules = some o) (hg : Calm X.A) (hr : Room k X.A) : CallR X (.builtin "repr") (rShowW K) := by
  subst hK
  intro pins s σ H xs us Q I r h
  obtain ⟨v, d, rfl, hd, hs, hp, hz, q⟩ := h
  cases r with
  | @cons _ u _ _ rv rn =>
  cases rn
  have hu := hr.units
  obtain ⟨as, rd, nas⟩ := Dw.reads I (no_sm I hb) _ _ _ hd rv
  cases hd with
  | non => cases rv; exact PySem.P.repr_of_none ⟨.str _, H, I.tok _, ⟨_, rfl⟩, q⟩
  | bl b => cases rv; exact PySem.P.repr_of_bool ⟨.str _, H, I.tok _, ⟨_, rfl⟩, q⟩
  | int i =>
    obtain ⟨t, rfl⟩ := rv
    exact PySem.P.repr_of_int (of_decide_eq_true hs) ⟨.str _, H, I.tok _, ⟨_, rfl⟩, q⟩
  | str x =>
    obtain ⟨t, rfl⟩ := rv
    exact PySem.P.repr_of_str ⟨.str _, H, I.tok _, ⟨_, rfl⟩, q⟩ hz
  | lst h1 h2 =>
    cases rv
    exact repr_of_reads' rd hs (fun _ => nas) hg (by omega) (fun _ _ e => e) (fun h' u tk hk => ⟨.str _, H, I.kept hk, ⟨_, rfl⟩, q⟩) hz
  | tup h1 h2 =>
    cases rv
    exact repr_of_reads' rd hs (fun _ => nas) hg (by omega) (fun _ _ e => e) (fun h' u tk hk => ⟨.str _, H, I.kept hk, ⟨_, rfl⟩, q⟩) hz
  | dct h1 h2 =>
    cases rv
    exact repr_of_reads' rd hs (fun _ => nas) hg (by omega) (fun _ _ e => e) (fun h' u tk hk => ⟨.str _, H, I.kept hk, ⟨_, rfl⟩, q⟩) hz
mutual
/-- data, dicts by texts among it, as the model shows it -/
inductive PyQ (L : Lc) : D → PyData → Prop
  | non : PyQ L .non .none
  | bl (b : Bool) : PyQ L (.bl b) (.bool b)
  | int (i : Int) : PyQ L (.int i) (.int i)
  | str (x : Str) : PyQ L (.str x) (.str x)
  | lst {ds : List D} {ps : List PyData} : PyQL L ds ps → PyQ L (.lst ds) (.list ps)
  | tup {ds : List D} {ps : List PyData} : PyQL L ds ps → PyQ L (.tup ds) (.tuple ps)
  | ctup {ds : List D} {ps : List PyData} : PyQL L ds ps → PyQ L (.ctup ds) (.tuple ps)
  | ref {a : Addr} {ds : List D} {ps : List PyData} : L a = some (.lst ds) → PyQL L ds ps → PyQ L (.ref a) (.list ps)
  | dK {es : List (Key × D)} {ps : List (PyData × PyData)} : PyQK L es ps → PyQ L (.dK es) (.dict ps)
  | refK {a : Addr} {es : List (Key × D)} {ps : List (PyData × PyData)} : L a = some (.dK es) → PyQK L es ps → PyQ L (.ref a) (.dict ps)
inductive PyQL (L : Lc) : List D → List PyData → Prop
  | nil : PyQL L [] []
  | cons {d : D} {ds : List D} {p : PyData} {ps : List PyData} : PyQ L d p → PyQL L ds ps → PyQL L (d :: ds) (p :: ps)
inductive PyQK (L : Lc) : List (Key × D) → List (PyData × PyData) → Prop
  | nil : PyQK L [] []
  | cons {x : Str} {d : D} {es : List (Key × D)} {p : PyData} {ps : List (PyData × PyData)} : PyQ L d p → PyQK L es ps → PyQK L ((.inr x, d) :: es) ((.str x, p) :: ps)
end
mutual
theorem PyQ.dw {K : PySem.W.Frag} {S : Sta} (k : Ok K S) : ∀ {d : D} {p : PyData} {v : V}, PyQ S.L d p → Rp K S.H S.Λ v d → Dw K S.H v p
  | _, _, _, .non, r => by cases r; exact .non
  | _, _, _, .bl b, r => by cases r; exact .bl b
  | _, _, _, .int i, r => by cases r; exact .int i
  | _, _, _, .str x, r => by cases r; exact .str x
  | _, _, _, .lst hp, r => by
    cases r with
    | lst n h1 h2 => exact .lst h1 (PyQL.dw k hp h2)
  | _, _, _, .tup hp, r => by
    cases r with
    | tup _ h1 h2 => exact .tup (.of h1) (PyQL.dw k hp h2)
  | _, _, _, .ctup hp, r => by
    cases r with
    | ctup h1 h2 => exact .tup h1.sq (PyQL.dw k hp h2)
  | _, _, _, .ref e hp, r => by
    cases r with
    | ref a =>
      obtain ⟨_, xs, h1, h2⟩ := k.cell _ _ e
      exact .lst h1 (PyQL.dw k hp h2)
  | _, _, _, .dK hp, r => by
    cases r with
    | dK n h1 h2 h3 => exact .dct h1 (PyQK.dw k hp h2 h3)
  | _, _, _, .refK e hp, r => by
    cases r with
    | ref a =>
      obtain ⟨_, ks, h1, h2, h3⟩ := k.cell _ _ e
      exact .dct (.inl h1) (PyQK.dw k hp h2 h3)
theorem PyQL.dw {K : PySem.W.Frag} {S : Sta} (k : Ok K S) : ∀ {ds : List D} {ps : List PyData} {vs : List V}, PyQL S.L ds ps → RpL K S.H S.Λ vs ds → DwAll K S.H vs ps
  | _, _, _, .nil, r => by cases r; exact .nil
  | _, _, _, .cons h t, r => by
    cases r with
    | cons r1 r2 => exact .cons (PyQ.dw k h r1) (PyQL.dw k t r2)
theorem PyQK.dw {K : PySem.W.Frag} {S : Sta} (k : Ok K S) : ∀ {es : List (Key × D)} {ps : List (PyData × PyData)} {ks : List (Key × V)}, PyQK S.L es ps → ks.map (·.1) = es.map (·.1) → RpL K S.H S.Λ (ks.map (·.2)) (es.map (·.2)) → DwK K S.H ks ps
  | _, _, [], .nil, _, _ => .nil
  | _, _, _ :: _, .nil, e, _ => by cases e
  | _, _, [], .cons h t, e, _ => by cases e
  | _, _, (_, _) :: ks, .cons h t, e, r => by
    simp only [List.map_cons, List.cons.injEq] at e
    obtain ⟨rfl, e⟩ := e
    cases r with
    | cons r1 r2 => exact .cons (PyQ.dw k h r1) (PyQK.dw k t e r2)
end
mutual
theorem PyR.q {L : Lc} : ∀ {d : D} {p : PyData}, PyR L d p → PyQ L d p
  | _, _, .non => .non
  | _, _, .bl b => .bl b
  | _, _, .int i => .int i
  | _, _, .str x => .str x
  | _, _, .lst h => .lst (PyRL.q h)
  | _, _, .tup h => .tup (PyRL.q h)
  | _, _, .ctup h => .ctup (PyRL.q h)
  | _, _, .ref e h => .ref e (PyRL.q h)
theorem PyRL.q {L : Lc} : ∀ {d : List D} {p : List PyData}, PyRL L d p → PyQL L d p
  | _, _, .nil => .nil
  | _, _, .cons h t => .cons (PyR.q h) (PyRL.q t)
end
/-- repr, dicts among it -/
def reprQD : DRL := fun xs L q => ∃ x d, xs = [x] ∧ PyQ L x d ∧ d.showable = true ∧ d.depth ≤ 60 ∧ d.shown.length ≤ sizeLine ∧ q (.str d.shown) L
theorem sim_reprQ {K : PySem.W.Frag} : SimRL K (rShowW K) reprQD := by
  rintro S xs as Q q k r R ⟨x, d, rfl, h1, a, c, e, h⟩
  obtain ⟨v, rfl, r1⟩ := vals1R r
  exact ⟨v, d, rfl, h1.dw k r1, a, c, e, R S _ _ (.refl S) k (.str _) h⟩
theorem v_reprQ {L : Lc} {q : DQ} {x : D} {d : PyData} {B k : Nat} (h : PyQ L x d) (s : Dz.Sq d B k) (hq : q (.str d.shown) L) (hk : k ≤ 60 := by decide) (hB : B ≤ 16777216 := by decide) : reprQD [x] L q :=
  ⟨x, d, rfl, h, s.ok, Nat.le_trans s.dp hk, Nat.le_trans s.ln (Nat.le_trans hB (by decide)), hq⟩
end Ed

set_option Elab.async false
set_option linter.all false
set_option maxRecDepth 100000
set_option maxHeartbeats 2000000
/-! Pure data: what is shown of it, how long that is; == with texts, whatever the thing is. -/
namespace Ed
open PySem PySem.Spec PyProof.Rows L2 Dz
mutual
def pyOf : D → PyData
  | .bl b => .bool b
  | .int i => .int i
  | .str x => .str x
  | .lst ds => .list (pyOfL ds)
  | .tup ds => .tuple (pyOfL ds)
  | .ctup ds => .tuple (pyOfL ds)
  | .dK es => .dict (pyOfK es)
  | _ => .none
def pyOfL : List D → List PyData
  | [] => []
  | d :: ds => pyOf d :: pyOfL ds
def pyOfK : List (Key × D) → List (PyData × PyData)
  | [] => []
  | (.inl i, d) :: es => (.int i, pyOf d) :: pyOfK es
  | (.inr x, d) :: es => (.str x, pyOf d) :: pyOfK es
end
def ascB (x : Str) : Bool := x.cps.toList.all fun c => decide (c < 128)
theorem ascB_of {x : Str} (h : Asc x) : ascB x = true := List.all_eq_true.mpr fun c hc => decide_eq_true (h c hc)
theorem asc_of {x : Str} (h : ascB x = true) : Asc x := fun c hc => of_decide_eq_true (List.all_eq_true.mp h c hc)
mutual
/-- texts of letters, numbers of forty figures, lists, tuples, dicts by texts of such -/
def okD : D → Bool
  | .non => true
  | .bl _ => true
  | .int i => decide (i.natAbs ≤ 10 ^ 30)
  | .str x => ascB x && decide (x.length ≤ 5000)
  | .lst ds => okDs ds
  | .tup ds => okDs ds
  | .dK es => okDk es
  | _ => false
def okDs : List D → Bool
  | [] => true
  | d :: ds => okD d && okDs ds
def okDk : List (Key × D) → Bool
  | [] => true
  | (.inl _, _) :: _ => false
  | (.inr x, d) :: es => (ascB x && decide (x.length ≤ 5000)) && okD d && okDk es
end
mutual
/-- how long it is shown, at most -/
def wtD : D → Nat
  | .int _ => 141
  | .str x => 10 * x.length + 2
  | .lst ds => wtDs ds + 3
  | .tup ds => wtDs ds + 3
  | .ctup ds => wtDs ds + 3
  | .dK es => wtDk es + 3
  | _ => 5
def wtDs : List D → Nat
  | [] => 0
  | d :: ds => wtD d + 2 + wtDs ds
def wtDk : List (Key × D) → Nat
  | [] => 0
  | (.inl _, _) :: es => wtDk es
  | (.inr x, d) :: es => 10 * x.length + 2 + 4 + wtD d + wtDk es
end
mutual
def dpD : D → Nat
  | .lst ds => dpDs ds + 1
  | .tup ds => dpDs ds + 1
  | .ctup ds => dpDs ds + 1
  | .dK es => dpDk es + 1
  | _ => 0
def dpDs : List D → Nat
  | [] => 0
  | d :: ds => max (dpD d) (dpDs ds)
def dpDk : List (Key × D) → Nat
  | [] => 0
  | (_, d) :: es => max (dpD d) (dpDk es)
end
mutual
theorem pyQ_of (L : Lc) : ∀ d, okD d = true → PyQ L d (pyOf d)
  | .non, _ => by rw [pyOf.eq_def]; exact .non
  | .bl b, _ => by rw [pyOf.eq_def]; exact .bl b
  | .int i, _ => by rw [pyOf.eq_def]; exact .int i
  | .str x, _ => by rw [pyOf.eq_def]; exact .str x
  | .lst ds, h => by rw [pyOf.eq_def]; exact .lst (pyQL_of L ds (by rw [okD.eq_def] at h; exact h))
  | .tup ds, h => by rw [pyOf.eq_def]; exact .tup (pyQL_of L ds (by rw [okD.eq_def] at h; exact h))
  | .ctup _, h => by rw [okD.eq_def] at h; cases h
  | .dK es, h => by rw [pyOf.eq_def]; exact .dK (pyQK_of L es (by rw [okD.eq_def] at h; exact h))
  | .ty _, h => by rw [okD.eq_def] at h; cases h
  | .dT _, h => by rw [okD.eq_def] at h; cases h
  | .ins _ _, h => by rw [okD.eq_def] at h; cases h
  | .err _ _, h => by rw [okD.eq_def] at h; cases h
  | .exo _ _ _ _, h => by rw [okD.eq_def] at h; cases h
  | .scr _, h => by rw [okD.eq_def] at h; cases h
  | .ref _, h => by rw [okD.eq_def] at h; cases h
theorem pyQL_of (L : Lc) : ∀ ds, okDs ds = true → PyQL L ds (pyOfL ds)
  | [], _ => by rw [pyOfL.eq_def]; exact .nil
  | d :: ds, h => by
    rw [okDs.eq_def] at h
    rw [pyOfL.eq_def]
    obtain ⟨h1, h2⟩ := Bool.and_eq_true_iff.mp h
    exact .cons (pyQ_of L d h1) (pyQL_of L ds h2)
theorem pyQK_of (L : Lc) : ∀ es, okDk es = true → PyQK L es (pyOfK es)
  | [], _ => by rw [pyOfK.eq_def]; exact .nil
  | (.inl _, _) :: _, h => by rw [okDk.eq_def] at h; cases h
  | (.inr x, d) :: es, h => by
    rw [okDk.eq_def] at h
    rw [pyOfK.eq_def]
    obtain ⟨h1, h2⟩ := Bool.and_eq_true_iff.mp h
    obtain ⟨_, h1⟩ := Bool.and_eq_true_iff.mp h1
    exact .cons (pyQ_of L d h1) (pyQK_of L es h2)
end
theorem shownAll_sum : ∀ l : List PyData, ((PyData.shownAll l).map (·.length)).sum + 2 * l.length = (l.map fun d => d.shown.length + 2).sum
  | [] => by simp [PyData.shownAll]
  | d :: l => by
    have := shownAll_sum l
    simp only [PyData.shownAll, List.map_cons, List.sum_cons, List.length_cons]
    omega
theorem log_30 {n : Nat} (h : n ≤ 10 ^ 30) : n.log2 < 140 := by
  by_cases z : n = 0
  · rw [z]; decide
  · exact (Nat.log2_lt z).mpr (Nat.lt_of_le_of_lt h (by decide))
theorem sh_ints {i : Int} (h : i.natAbs.log2 < 140) : (PyData.int i).shown.length ≤ 141 := by
  have := int_text_length_le (a := i) (k := 140) (by decide) h
  show (Str.ofString (toString i)).length ≤ _
  rw [PySem.ofString_length]
  exact this
mutual
theorem sq_of : ∀ d, okD d = true → Sq (pyOf d) (wtD d) (dpD d)
  | .non, _ => by rw [pyOf.eq_def, wtD.eq_def, dpD.eq_def]; exact ⟨rfl, Nat.le_refl 0, by decide +kernel⟩
  | .bl b, _ => by rw [pyOf.eq_def, wtD.eq_def, dpD.eq_def]; exact ⟨rfl, Nat.le_refl 0, by cases b <;> decide +kernel⟩
  | .int i, h => by
    rw [okD.eq_def] at h
    rw [pyOf.eq_def, wtD.eq_def, dpD.eq_def]
    have h' := log_30 (of_decide_eq_true h)
    exact ⟨decide_eq_true (by omega), Nat.le_refl 0, sh_ints h'⟩
  | .str x, h => by
    rw [okD.eq_def] at h
    rw [pyOf.eq_def, wtD.eq_def, dpD.eq_def]
    exact ⟨rfl, Nat.le_refl 0, sh_str (asc_of (Bool.and_eq_true_iff.mp h).1)⟩
  | .lst ds, h => by
    rw [okD.eq_def] at h
    rw [pyOf.eq_def, wtD.eq_def, dpD.eq_def]
    obtain ⟨h1, h2, h3⟩ := sqs_of ds h
    refine ⟨h1, Nat.succ_le_succ h2, ?_⟩
    have q1 := listText_len_le (PyData.shownAll (pyOfL ds))
    have q4 := PyData.shownAll_length (pyOfL ds)
    have q5 := shownAll_sum (pyOfL ds)
    show (listText (PyData.shownAll (pyOfL ds))).length ≤ wtDs ds + 3
    omega
  | .tup ds, h => by
    rw [okD.eq_def] at h
    rw [pyOf.eq_def, wtD.eq_def, dpD.eq_def]
    obtain ⟨h1, h2, h3⟩ := sqs_of ds h
    refine ⟨h1, Nat.succ_le_succ h2, ?_⟩
    have q1 := tupleText_len_le (PyData.shownAll (pyOfL ds))
    have q4 := PyData.shownAll_length (pyOfL ds)
    have q5 := shownAll_sum (pyOfL ds)
    show (tupleText (PyData.shownAll (pyOfL ds))).length ≤ wtDs ds + 3
    omega
  | .ctup _, h => by rw [okD.eq_def] at h; cases h
  | .dK es, h => by
    rw [okD.eq_def] at h
    rw [pyOf.eq_def, wtD.eq_def, dpD.eq_def]
    obtain ⟨h1, h2, h3⟩ := sqk_of es h
    refine ⟨h1, Nat.succ_le_succ h2, ?_⟩
    have q1 := dictText_len_le (PyData.shownKv (pyOfK es))
    show (dictText (PyData.shownKv (pyOfK es))).length ≤ wtDk es + 3
    omega
  | .ty _, h => by rw [okD.eq_def] at h; cases h
  | .dT _, h => by rw [okD.eq_def] at h; cases h
  | .ins _ _, h => by rw [okD.eq_def] at h; cases h
  | .err _ _, h => by rw [okD.eq_def] at h; cases h
  | .exo _ _ _ _, h => by rw [okD.eq_def] at h; cases h
  | .scr _, h => by rw [okD.eq_def] at h; cases h
  | .ref _, h => by rw [okD.eq_def] at h; cases h
theorem sqs_of : ∀ ds, okDs ds = true → PyData.showableAll (pyOfL ds) = true ∧ PyData.depthAll (pyOfL ds) ≤ dpDs ds ∧ ((pyOfL ds).map fun d => d.shown.length + 2).sum ≤ wtDs ds
  | [], _ => by rw [pyOfL.eq_def, wtDs.eq_def, dpDs.eq_def]; exact ⟨rfl, Nat.le_refl 0, Nat.le_refl 0⟩
  | d :: ds, h => by
    rw [okDs.eq_def] at h
    rw [pyOfL.eq_def, wtDs.eq_def, dpDs.eq_def]
    obtain ⟨h1, h2⟩ := Bool.and_eq_true_iff.mp h
    have a := sq_of d h1
    obtain ⟨b1, b2, b3⟩ := sqs_of ds h2
    refine ⟨?_, ?_, ?_⟩
    · show ((pyOf d).showable && PyData.showableAll (pyOfL ds)) = true
      rw [a.ok, b1]; rfl
    · show max (pyOf d).depth (PyData.depthAll (pyOfL ds)) ≤ max (dpD d) (dpDs ds)
      have := a.dp
      omega
    · have := a.ln
      simp only [List.map_cons, List.sum_cons]
      omega
theorem sqk_of : ∀ es, okDk es = true → PyData.showableKv (pyOfK es) = true ∧ PyData.depthKv (pyOfK es) ≤ dpDk es ∧ ((PyData.shownKv (pyOfK es)).map (·.length)).sum + 2 * (PyData.shownKv (pyOfK es)).length ≤ wtDk es
  | [], _ => by rw [pyOfK.eq_def, wtDk.eq_def, dpDk.eq_def]; exact ⟨rfl, Nat.le_refl 0, by simp [PyData.shownKv]⟩
  | (.inl _, _) :: _, h => by rw [okDk.eq_def] at h; cases h
  | (.inr x, d) :: es, h => by
    rw [okDk.eq_def] at h
    rw [pyOfK.eq_def, wtDk.eq_def, dpDk.eq_def]
    obtain ⟨h1, h2⟩ := Bool.and_eq_true_iff.mp h
    obtain ⟨h0, h1⟩ := Bool.and_eq_true_iff.mp h1
    have a := sq_of d h1
    obtain ⟨b1, b2, b3⟩ := sqk_of es h2
    refine ⟨?_, ?_, ?_⟩
    · show ((PyData.str x).showable && (pyOf d).showable && PyData.showableKv (pyOfK es)) = true
      rw [a.ok, b1]; rfl
    · show max (max 0 (pyOf d).depth) (PyData.depthKv (pyOfK es)) ≤ max (dpD d) (dpDk es)
      have := a.dp
      omega
    · have := a.ln
      have q := sh_str (asc_of (Bool.and_eq_true_iff.mp h0).1)
      simp only [PyData.shownKv, List.map_cons, List.sum_cons, List.length_cons, len_app]
      have e : (Str.ofString ": ").length = 2 := by decide +kernel
      rw [e]
      omega
end
/-! ### lists of such -/
theorem okDs_iff : ∀ {ds : List D}, okDs ds = true ↔ ∀ d ∈ ds, okD d = true
  | [] => by simp [okDs]
  | d :: ds => by simp [okDs, okDs_iff (ds := ds)]
theorem okDs_app {a b : List D} : okDs (a ++ b) = (okDs a && okDs b) := by
  induction a with
  | nil => simp [okDs]
  | cons d a ih => simp [okDs, ih, Bool.and_assoc]
theorem wtDs_app {a b : List D} : wtDs (a ++ b) = wtDs a + wtDs b := by
  induction a with
  | nil => simp [wtDs]
  | cons d a ih => simp [wtDs, ih]; omega
theorem dpDs_le {ds : List D} {k : Nat} : dpDs ds ≤ k ↔ ∀ d ∈ ds, dpD d ≤ k := by
  induction ds with
  | nil => simp [dpDs]
  | cons d a ih => simp only [dpDs, List.mem_cons, forall_eq_or_imp]; rw [← ih]; omega
theorem wtDs_mem {ds : List D} {d : D} (h : d ∈ ds) : wtD d + 2 ≤ wtDs ds := by
  induction ds with
  | nil => cases h
  | cons e a ih =>
    simp only [wtDs]
    rcases List.mem_cons.mp h with rfl | h
    · omega
    · have := ih h; omega
theorem wtDs_len {ds : List D} : 2 * ds.length ≤ wtDs ds := by
  induction ds with
  | nil => simp [wtDs]
  | cons d a ih => simp only [wtDs, List.length_cons]; omega
theorem wtDs_sub {a b : List D} (h : a.Sublist b) : wtDs a ≤ wtDs b := by
  induction h with
  | slnil => exact Nat.le_refl _
  | cons d _ ih => simp only [wtDs]; omega
  | cons_cons d _ ih => simp only [wtDs]; omega
theorem cut_sub {ds : List D} {lo hi : Option Int} : (cutD ds lo hi).Sublist ds := (List.take_sublist _ _).trans (List.drop_sublist _ _)
theorem okDs_sub {a b : List D} (h : a.Sublist b) (k : okDs b = true) : okDs a = true := okDs_iff.mpr fun d hd => okDs_iff.mp k d (h.subset hd)
theorem dpDs_sub {a b : List D} (h : a.Sublist b) : dpDs a ≤ dpDs b := dpDs_le.mpr fun d hd => dpDs_le.mp (Nat.le_refl _) d (h.subset hd)
/-- a thing: such data, its sign count and its depth -/
structure Th (d : D) (B k : Nat) : Prop where
  ok : okD d = true
  wt : wtD d ≤ B
  dp : dpD d ≤ k
structure Ths (ds : List D) (B k : Nat) : Prop where
  ok : okDs ds = true
  wt : wtDs ds ≤ B
  dp : dpDs ds ≤ k
theorem Th.more {d : D} {B k B' k' : Nat} (h : Th d B k) (e : B ≤ B' := by omega) (f : k ≤ k' := by omega) : Th d B' k' := ⟨h.ok, Nat.le_trans h.wt e, Nat.le_trans h.dp f⟩
theorem Ths.more {d : List D} {B k B' k' : Nat} (h : Ths d B k) (e : B ≤ B' := by omega) (f : k ≤ k' := by omega) : Ths d B' k' := ⟨h.ok, Nat.le_trans h.wt e, Nat.le_trans h.dp f⟩
theorem Th.sq {d : D} {B k : Nat} (h : Th d B k) : Sq (pyOf d) B k := (sq_of d h.ok).more h.wt h.dp
theorem Th.py {d : D} {B k : Nat} (h : Th d B k) (L : Lc) : PyQ L d (pyOf d) := pyQ_of L d h.ok
theorem v_reprT {L : Lc} {q : DQ} {x : D} {B k : Nat} (h : Th x B k) (hq : q (.str (pyOf x).shown) L) (hk : k ≤ 60 := by omega) (hB : B ≤ 16777216 := by omega) : reprQD [x] L q :=
  ⟨x, pyOf x, rfl, h.py L, h.sq.ok, Nat.le_trans h.sq.dp hk, Nat.le_trans h.sq.ln (Nat.le_trans hB (by decide)), hq⟩
section
variable {ds es : List D} {d : D} {B k B' k' : Nat}
theorem Th.non : Th .non 5 0 := ⟨rfl, by simp [wtD], by simp [dpD]⟩
theorem Th.bl (b : Bool) : Th (.bl b) 5 0 := ⟨rfl, by simp [wtD], by simp [dpD]⟩
theorem Th.int {i : Int} (h : i.natAbs ≤ 10 ^ 30) : Th (.int i) 141 0 := ⟨by rw [okD.eq_def]; exact decide_eq_true h, by simp [wtD], by simp [dpD]⟩
theorem Th.small {i : Int} (h : i.natAbs < 2 ^ 64 := by omega) : Th (.int i) 141 0 := .int (Nat.le_trans (Nat.le_of_lt h) (by decide))
theorem Th.str {x : Str} (h : Asc x) (l : x.length ≤ 5000) : Th (.str x) (10 * x.length + 2) 0 := ⟨by simp [okD, ascB_of h, l], by simp [wtD], by simp [dpD]⟩
theorem Th.strs {x : Str} {n : Nat} (h : Asc x) (l : x.length ≤ n) (hn : n ≤ 5000 := by decide) : Th (.str x) (10 * n + 2) 0 := (Th.str h (Nat.le_trans l hn)).more (by omega) (Nat.le_refl _)
/-- a text that is written -/
theorem Th.lit {x : Str} {n : Nat} (h : okD (.str x) = true) (l : wtD (.str x) ≤ n) : Th (.str x) n 0 := ⟨h, l, by simp [dpD]⟩
theorem Th.dnil : Th (.dK []) 3 1 := ⟨rfl, by simp [wtD, wtDk], by simp [dpD, dpDk]⟩
theorem Ths.nil : Ths [] 0 0 := ⟨rfl, Nat.le_refl _, Nat.le_refl _⟩
theorem Ths.cons (h : Th d B k) (t : Ths ds B' k') : Ths (d :: ds) (B + 2 + B') (max k k') := ⟨by simp [okDs, h.ok, t.ok], by have := h.wt; have := t.wt; simp only [wtDs]; omega, by have := h.dp; have := t.dp; simp only [dpDs]; omega⟩
theorem Ths.app (h : Ths ds B k) (t : Ths es B' k') : Ths (ds ++ es) (B + B') (max k k') := ⟨by rw [okDs_app, h.ok, t.ok]; rfl, by have := h.wt; have := t.wt; rw [wtDs_app]; omega, dpDs_le.mpr fun d hd => by
  rcases List.mem_append.mp hd with hd | hd
  · have := dpDs_le.mp h.dp d hd; omega
  · have := dpDs_le.mp t.dp d hd; omega⟩
theorem Ths.tup (h : Ths ds B k) : Th (.tup ds) (B + 3) (k + 1) := ⟨by rw [okD.eq_def]; exact h.ok, by have := h.wt; rw [wtD.eq_def]; show wtDs ds + 3 ≤ _; omega, by have := h.dp; rw [dpD.eq_def]; show dpDs ds + 1 ≤ _; omega⟩
theorem Ths.lst (h : Ths ds B k) : Th (.lst ds) (B + 3) (k + 1) := ⟨by rw [okD.eq_def]; exact h.ok, by have := h.wt; rw [wtD.eq_def]; show wtDs ds + 3 ≤ _; omega, by have := h.dp; rw [dpD.eq_def]; show dpDs ds + 1 ≤ _; omega⟩
theorem Th.tups (h : Th (.tup ds) B k) : Ths ds (B - 3) (k - 1) ∧ 3 ≤ B ∧ 1 ≤ k := by
  have h1 := h.ok; have h2 := h.wt; have h3 := h.dp
  rw [okD.eq_def] at h1; rw [wtD.eq_def] at h2; rw [dpD.eq_def] at h3
  replace h2 : wtDs ds + 3 ≤ B := h2
  replace h3 : dpDs ds + 1 ≤ k := h3
  exact ⟨⟨h1, by omega, by omega⟩, by omega, by omega⟩
theorem Ths.mem (h : Ths ds B k) (m : d ∈ ds) : Th d (B - 2) k := ⟨okDs_iff.mp h.ok d m, by have := wtDs_mem m; have := h.wt; omega, dpDs_le.mp h.dp d m⟩
theorem Ths.len (h : Ths ds B k) : 2 * ds.length ≤ B := Nat.le_trans wtDs_len h.wt
theorem Ths.sub (h : Ths ds B k) (s : es.Sublist ds) : Ths es B k := ⟨okDs_sub s h.ok, Nat.le_trans (wtDs_sub s) h.wt, Nat.le_trans (dpDs_sub s) h.dp⟩
theorem Ths.cut {lo hi : Option Int} (h : Ths ds B k) : Ths (cutD ds lo hi) B k := h.sub cut_sub
theorem Ths.map {α : Type} {l : List α} {f : α → D} (h : ∀ a ∈ l, Th (f a) B k) : Ths (l.map f) ((B + 2) * l.length) k := by
  induction l with
  | nil => exact ⟨rfl, Nat.zero_le _, Nat.zero_le _⟩
  | cons a l ih =>
    have := Ths.cons (h a List.mem_cons_self) (ih fun b hb => h b (List.mem_cons_of_mem _ hb))
    exact this.more (by rw [List.length_cons, Nat.mul_add]; omega) (by omega)
theorem Ths.all {l : List D} (h : ∀ a ∈ l, Th a B k) : Ths l ((B + 2) * l.length) k := by
  have := Ths.map (f := id) h
  rwa [List.map_id] at this
theorem Ths.rev (h : Ths ds B k) : Ths ds.reverse B k := by
  have e : wtDs ds.reverse = wtDs ds := by
    clear h
    induction ds with
    | nil => rfl
    | cons d a ih => rw [List.reverse_cons, wtDs_app, ih]; simp only [wtDs]; omega
  exact ⟨okDs_iff.mpr fun d hd => okDs_iff.mp h.ok d (List.mem_reverse.mp hd), by rw [e]; exact h.wt, dpDs_le.mpr fun d hd => dpDs_le.mp h.dp d (List.mem_reverse.mp hd)⟩
end
/-! ### == of any thing and a text -/
mutual
def noK : D → Bool
  | .dK _ => false
  | .lst ds => noKs ds
  | .tup ds => noKs ds
  | .ctup ds => noKs ds
  | _ => true
def noKs : List D → Bool
  | [] => true
  | d :: ds => noK d && noKs ds
end
/-- a list, tuple or dict == a text, whatever is in it -/
def isBig (L : Lc) (x : D) : Prop := (∃ a es, x = .ref a ∧ L a = some (.dK es)) ∨ (∃ es, x = .dK es) ∨ (∃ ds, x = .lst ds) ∨ (∃ ds, x = .tup ds) ∨ (∃ ds, x = .ctup ds) ∨ ∃ a ds, x = .ref a ∧ L a = some (.lst ds)
theorem big_at {X : Cx} {pins : List (Addr × Obj)} {σ : L2.St} {S : Sta} {s : Shared} {x : D} {v : V} {u : Value} (I : Inv X pins σ S.H s) (k : Ok X.K S) (h : isBig S.L x) (r : Rp X.K S.H S.Λ v x) (rv : RelV v u) :
    (∀ A b t, A.units < cLine → SeqAt.RcAt A s u (.str b t) false) ∧ ∀ A b t, A.units < cLine → SeqAt.EqAt A s (.str b t) u false := by
  have dct : ∀ {a : Addr} {ks : List (Key × V)}, Rd S.H a (.dK ks) → (∀ A b t, A.units < cLine → SeqAt.RcAt A s (.ref a) (.str b t) false) ∧ ∀ A b t, A.units < cLine → SeqAt.EqAt A s (.str b t) (.ref a) false := fun {a ks} h1 => by
    obtain ⟨_, _, vs, kv, o, es, ep, ho, hxd, hd, _⟩ := dk_rd I.hok h1
    obtain ⟨oc, odd, odt, osl⟩ := o
    obtain ⟨h1, h2, h3⟩ := hxd
    cases h1
    cases h2
    cases h3
    cases hd
    exact ⟨fun A b t hu => rc_dict_str b t ho hu, fun A b t hu => eqAt_str_dict b t ho hu⟩
  have lst : ∀ {a : Addr} {xs : List V}, S.H a = some (.lst xs) → (∀ A b t, A.units < cLine → SeqAt.RcAt A s (.ref a) (.str b t) false) ∧ ∀ A b t, A.units < cLine → SeqAt.EqAt A s (.str b t) (.ref a) false := fun {a xs} h1 => by
    obtain ⟨its, _, ⟨o, n, ho, hc, hdn, hd⟩, _⟩ := I.list (.of h1)
    have hl : s.heap.IsList a its.toArray := ⟨o, ho, hc, n, hd⟩
    exact ⟨fun A b t hu => SeqAt.RcAt.list_str b t hl hu, fun A b t hu => SeqAt.EqAt.str_list b t hl hu⟩
  have tup : ∀ {a : Addr} {xs : List V}, SqT X.K S.H a xs → (∀ A b t, A.units < cLine → SeqAt.RcAt A s (.ref a) (.str b t) false) ∧ ∀ A b t, A.units < cLine → SeqAt.EqAt A s (.str b t) (.ref a) false := fun {a xs} h1 => by
    obtain ⟨its, _, hT, _⟩ := I.tuple h1
    exact ⟨fun A b t hu => SeqAt.RcAt.tuple_str b t hT hu, fun A b t hu => SeqAt.EqAt.str_tuple b t hT hu⟩
  rcases h with ⟨a, es, rfl, h⟩ | ⟨es, rfl⟩ | ⟨ds, rfl⟩ | ⟨ds, rfl⟩ | ⟨ds, rfl⟩ | ⟨a, ds, rfl, h⟩
  · cases r
    cases (show u = Value.ref a from rv)
    obtain ⟨_, ks, h1, _⟩ := k.cell a _ h
    exact dct (.inl h1)
  · cases r with
    | dK n h1 h2 h3 => cases (show u = Value.ref _ from rv); exact dct h1
  · cases r with
    | lst n h1 h2 => cases (show u = Value.ref _ from rv); exact lst h1
  · cases r with
    | tup n h1 h2 => cases (show u = Value.ref _ from rv); exact tup (.of h1)
  · cases r with
    | ctup h1 h2 => cases (show u = Value.ref _ from rv); exact tup h1.sq
  · cases r
    cases (show u = Value.ref a from rv)
    obtain ⟨_, ks, h1, _⟩ := k.cell a _ h
    exact lst h1
def eqWSD : DR2 := fun x y L q => ∃ z, isBig L x ∧ y = .str z ∧ q (.bl false) L
theorem op_eqWS {X : Cx} {K : PySem.W.Frag} (hK : X.K = K) (hu : X.A.units < cLine) : OpR X (compareOp .Eq) (rOf K eqWSD) := by
  subst hK
  rintro pins s σ H x y v u Q I rx ry ⟨S, a, b, q, rfl, k1, ra, rb, R, z, h1, rfl, h⟩
  obtain ⟨hrc, _⟩ := big_at I k1 h1 ra rx
  cases rb
  obtain ⟨t, rfl⟩ := ry
  show wpAny (model X.prog X.w) X.A (richCompare .Eq v (.str z t)) _ _ s
  exact hrc _ z t hu X.prog X.w X.xe _ ⟨.bl false, S.H, I, rfl, R S _ _ (.refl S) k1 (.bl _) h⟩
/-- .. in a tuple of texts -/
def inWSD (neg : Bool) : DR2 := fun x y L q => ∃ (zs : List Str), isBig L x ∧ (y = .ctup (zs.map .str) ∨ y = .tup (zs.map .str) ∨ y = .lst (zs.map .str)) ∧ q (.bl neg) L
theorem vals_strs {zs : List Str} {l : List Value} (r : Vals (zs.map V.str) l) : ∀ y ∈ l, ∃ b u, y = .str b u := by
  induction zs generalizing l with
  | nil => cases r; intro y hy; cases hy
  | cons z zs ih =>
    cases r with
    | cons r1 r2 =>
      intro y hy
      rcases List.mem_cons.mp hy with rfl | hy
      · obtain ⟨t, rfl⟩ := r1
        exact ⟨_, _, rfl⟩
      · exact ih r2 y hy
theorem op_inWS {X : Cx} {K : PySem.W.Frag} (hK : X.K = K) (hu : X.A.units + 1 < cLine) : OpR X (compareOp .In) (rOf K (inWSD false)) := by
  subst hK
  rintro pins s σ H x y v u Q I rx ry ⟨S, a, b, q, rfl, k1, ra, rb, R, zs, h1, hy, h⟩
  obtain ⟨_, heq⟩ := big_at I k1 h1 ra rx
  have fin : ∀ its : Array Value, (its.any fun _ => false) = false := fun its => by simp
  have tp : ∀ c, SqT X.K S.H c (zs.map V.str) → wpAny (model X.prog X.w) X.A (compareOp .In v (.ref c)) (fun y s' => ∃ z H', Inv X pins σ H' s' ∧ RelV z y ∧ Q z H') X.xe s := fun c ht => by
    obtain ⟨its, rr, hT, _⟩ := I.tuple ht
    refine SeqAt.in_tupleAt (fun _ => false) hT (fun y hy => ?_) ?_
    · obtain ⟨b, t, rfl⟩ := vals_strs rr y (by simpa using hy)
      exact heq _ b t (by show X.A.units + 1 < cLine; exact hu)
    · rw [fin]; exact ⟨.bl false, S.H, I, rfl, R S _ _ (.refl S) k1 (.bl _) h⟩
  rcases hy with rfl | rfl | rfl
  · cases rb with
    | ctup t r =>
      cases (show u = Value.ref _ from ry)
      exact tp _ (by rw [← r.str_of]; exact t.sq)
  · cases rb with
    | tup n t r =>
      cases (show u = Value.ref _ from ry)
      exact tp _ (by rw [← r.str_of]; exact .of t)
  · cases rb with
    | lst n t r =>
      cases (show u = Value.ref _ from ry)
      rw [r.str_of] at t
      have ht := SqL.of (K := X.K) t
      obtain ⟨its, rr, ⟨o, n, ho, hc, hdn, hd⟩, _⟩ := I.list ht
      refine SeqAt.in_listAt (fun _ => false) ⟨o, ho, hc, n, hd⟩ (fun y hy => ?_) ?_
      · obtain ⟨b, t, rfl⟩ := vals_strs rr y (by simpa using hy)
        exact heq _ b t (by show X.A.units + 1 < cLine; exact hu)
      · rw [fin]; exact ⟨.bl false, S.H, I, rfl, R S _ _ (.refl S) k1 (.bl _) h⟩
def eqWD : DR2 := fun x y L q => eqD x y L q ∨ eqWSD x y L q
def inWD : DR2 := fun x y L q => inAD false x y L q ∨ inWSD false x y L q
theorem sim_eqW {K : PySem.W.Frag} : SimR2 K (fun x y H Q => rEqA K x y H Q ∨ rOf K eqWSD x y H Q) eqWD := sim_eq.or sim_of
theorem sim_inW {K : PySem.W.Frag} : SimR2 K (fun x y H Q => (rInA K false x y H Q ∨ rOf K (inTD false) x y H Q) ∨ rOf K (inWSD false) x y H Q) inWD := sim_inAD.or sim_of
theorem op_eqW {X : Cx} {K : PySem.W.Frag} (hK : X.K = K) (hu : X.A.units + 65 < cLine) : OpR X (compareOp .Eq) (fun x y H Q => rEqA K x y H Q ∨ rOf K eqWSD x y H Q) := (op_eqA hK (by omega)).or (op_eqWS hK (by omega))
theorem op_inW {X : Cx} {K : PySem.W.Frag} (hK : X.K = K) (hu : X.A.units + 65 < cLine) : OpR X (compareOp .In) (fun x y H Q => (rInA K false x y H Q ∨ rOf K (inTD false) x y H Q) ∨ rOf K (inWSD false) x y H Q) := (op_inAD hK hu).or (op_inWS hK (by omega))
/-- this very text -/
def isS (z : Str) : D → Bool
  | .str y => decide (y = z)
  | _ => false
theorem v_eqT {L : Lc} {x : D} {z : Str} {q : DQ} (h : okD x = true) (hq : q (.bl (isS z x)) L) : eqWD x (.str z) L q := by
  cases x with
  | non => exact .inl (.inl ⟨.non, .str z, rfl, rfl, rfl, by rw [show decide (V.non = V.str z) = false by simp]; exact hq⟩)
  | bl b => exact .inl (.inl ⟨.bl b, .str z, rfl, rfl, rfl, by rw [show decide (V.bl b = V.str z) = false by simp]; exact hq⟩)
  | int b => exact .inl (.inl ⟨.int b, .str z, rfl, rfl, rfl, by rw [show decide (V.int b = V.str z) = false by simp]; exact hq⟩)
  | str b => exact .inl (.inl ⟨.str b, .str z, rfl, rfl, rfl, by rw [show decide (V.str b = V.str z) = decide (b = z) by simp]; exact hq⟩)
  | lst ds => exact .inr ⟨z, .inr (.inr (.inl ⟨_, rfl⟩)), rfl, hq⟩
  | tup ds => exact .inr ⟨z, .inr (.inr (.inr (.inl ⟨_, rfl⟩))), rfl, hq⟩
  | dK es => exact .inr ⟨z, .inr (.inl ⟨_, rfl⟩), rfl, hq⟩
  | _ => rw [okD.eq_def] at h; cases h
theorem scA_strs : ∀ {zs : List Str}, scA (zs.map D.str) = some (zs.map V.str)
  | [] => rfl
  | z :: zs => by rw [List.map_cons, scA, scA_strs]; rfl
theorem inV_strs {x : V} {zs : List Str} (p : Str → Bool) (h : ∀ z, eqV (.str z) x = p z) : inV x (zs.map V.str) = zs.any p := by
  unfold inV
  rw [List.any_map]
  congr 1
  funext z
  exact h z
theorem eqV_isS (b z : Str) : eqV (.str z) (.str b) = isS z (.str b) := by
  show (z == b) = decide (b = z)
  by_cases e : b = z
  · rw [decide_eq_true e, e]; simp
  · rw [decide_eq_false e]; exact beq_eq_false_iff_ne.mpr fun z => e z.symm
theorem v_inT {L : Lc} {x y : D} {zs : List Str} {q : DQ} (h : okD x = true) (hy : y = .ctup (zs.map .str) ∨ y = .tup (zs.map .str) ∨ y = .lst (zs.map .str)) (hq : q (.bl (zs.any fun z => isS z x)) L) : inWD x y L q := by
  have hv : vSeq L y = some (zs.map .str) := by rcases hy with rfl | rfl | rfl <;> rfl
  have big : isBig L x → (zs.any fun z => isS z x) = false → inWD x y L q := fun b e => .inr ⟨zs, b, hy, by rw [e] at hq; exact hq⟩
  have sca : ∀ u, sc x = some u → (∀ z, eqV (.str z) u = isS z x) → inWD x y L q := fun u hu he => .inl (.inl (.inl ⟨_, u, _, hv, hu, scA_strs, by
    show q (.bl (inV u _)) L
    rw [inV_strs _ he]; exact hq⟩))
  have no : (∀ z, isS z x = false) → (zs.any fun z => isS z x) = false := fun e => List.any_eq_false.mpr fun z _ => by rw [e]; decide
  cases x with
  | non => exact sca _ rfl fun z => rfl
  | bl b => exact sca _ rfl fun z => rfl
  | int b => exact sca _ rfl fun z => rfl
  | str b => exact sca _ rfl (eqV_isS b)
  | lst ds => exact big (.inr (.inr (.inl ⟨_, rfl⟩))) (no fun _ => rfl)
  | tup ds => exact big (.inr (.inr (.inr (.inl ⟨_, rfl⟩)))) (no fun _ => rfl)
  | dK es => exact big (.inr (.inl ⟨_, rfl⟩)) (no fun _ => rfl)
  | _ => rw [okD.eq_def] at h; cases h
end Ed

set_option Elab.async false
set_option linter.all false
set_option maxRecDepth 100000
set_option maxHeartbeats 2000000
/-! What many laws ask: kinds, numbers in bounds, names; steps that need no word. -/
namespace Ed
open PySem PySem.Spec PyProof.Rows L2 Dz

def atlD (v : D) (low : Int) : Bool := match v with
  | .int i => decide (low ≤ i)
  | _ => false
def whlD (v : D) (low high : Int) : Bool := match v with
  | .int i => decide (low ≤ i) && decide (i ≤ high)
  | _ => false
def LT : Str := "abcdefghijklmnopqrstuvwxyz"
def allIn (z t : Str) : Bool := z.cps.toList.all fun c => decide (c ∈ t.cps.toList)
def namD (v : D) : Bool := match v with
  | .str z => decide ((z.length : Int) ≤ 8) && (!decide (z = "") && allIn z LT)
  | _ => false
theorem kit_bool {L : Lc} {x : D} {s : String} (h : kindD L x = some s) : kitB s "bool" = some (decide (s = "bool")) := by
  have := kindD_b7 h
  simp only [b7, List.mem_cons, List.not_mem_nil, or_false] at this
  rcases this with rfl | rfl | rfl | rfl | rfl | rfl | rfl <;> decide +kernel
theorem kit_int {L : Lc} {x : D} {s : String} (h : kindD L x = some s) : kitB s "int" = some (decide (s = "int") || decide (s = "bool")) := by
  have := kindD_b7 h
  simp only [b7, List.mem_cons, List.not_mem_nil, or_false] at this
  rcases this with rfl | rfl | rfl | rfl | rfl | rfl | rfl <;> decide +kernel
theorem kit_str {L : Lc} {x : D} {s : String} (h : kindD L x = some s) : kitB s "str" = some (decide (s = "str")) := by
  have := kindD_b7 h
  simp only [b7, List.mem_cons, List.not_mem_nil, or_false] at this
  rcases this with rfl | rfl | rfl | rfl | rfl | rfl | rfl <;> decide +kernel
theorem kind_int {L : Lc} {x : D} (h : kindD L x = some "int") : ∃ i, x = .int i := by
  cases x with
  | int i => exact ⟨i, rfl⟩
  | ref a =>
    cases e : L a with
    | none => simp [kindD, e] at h
    | some c => cases c <;> simp [kindD, e] at h
  | _ => simp [kindD] at h
theorem kind_str {L : Lc} {x : D} (h : kindD L x = some "str") : ∃ z, x = .str z := by
  cases x with
  | str i => exact ⟨i, rfl⟩
  | ref a =>
    cases e : L a with
    | none => simp [kindD, e] at h
    | some c => cases c <;> simp [kindD, e] at h
  | _ => simp [kindD] at h
theorem atl_no {L : Lc} {x : D} {s : String} {low : Int} (h : kindD L x = some s) (n : s ≠ "int") : atlD x low = false := by
  cases x with
  | int i => exact absurd (Option.some.inj h).symm n
  | _ => rfl
theorem nam_no {L : Lc} {x : D} {s : String} (h : kindD L x = some s) (n : s ≠ "str") : namD x = false := by
  cases x with
  | str i => exact absurd (Option.some.inj h).symm n
  | _ => rfl
theorem whl_atl {x : D} {low high : Int} (h : atlD x low = false) : whlD x low high = false := by
  cases x with
  | int i =>
    have h' : decide (low ≤ i) = false := h
    show (decide (low ≤ i) && _) = false
    rw [h']; rfl
  | _ => rfl
theorem atl_int {x : D} {low : Int} (h : atlD x low = true) : ∃ i, x = .int i ∧ decide (low ≤ i) = true := by
  cases x with
  | int i => exact ⟨i, rfl, h⟩
  | _ => cases h

def Kn (L : Lc) (v : D) : Prop := ∃ s, kindD L v = some s
def Shs (v : D) : Prop := ∀ z, v = .str z → z.length ≤ 5000
def isNonD : D → Bool
  | .non => true
  | _ => false
def intvD : D → Int
  | .int i => i
  | _ => 0
/-- what is refused first: a name (true) or a number -/
def dueOf (n p b s w f r : D) : Option (Bool × D) :=
  if namD n = false then some (true, n) else if (!isNonD p && !namD p) = true then some (true, p) else if whlD b 0 100 = false then some (false, b) else if whlD s 0 (intvD b) = false then some (false, s) else
  if whlD w 0 5 = false then some (false, w) else if whlD f 0 5 = false then some (false, f) else if whlD r 0 9 = false then some (false, r) else none
theorem whl_int {x : D} {low high : Int} (h : whlD x low high = true) : ∃ i, x = .int i := by
  cases x with
  | int i => exact ⟨i, rfl⟩
  | _ => cases h
theorem seven {t : List D} (h : t.length = 7) : ∃ n p b s w f r, t = [n, p, b, s, w, f, r] := by
  match t, h with
  | [n, p, b, s, w, f, r], _ => exact ⟨n, p, b, s, w, f, r, rfl⟩

theorem at_ints (ns : List Int) {i : Int} (h0 : 0 ≤ i) (h1 : i < ns.length) : ∃ n, atI (ns.map D.int) i = some (.int n) ∧ n ∈ ns := by
  obtain ⟨x, hx, _, hm⟩ := at_lt (l := ns.map D.int) h0 (by simpa using h1)
  obtain ⟨n, hn, rfl⟩ := List.mem_map.mp hm
  exact ⟨n, hx, hn⟩
theorem rng_get {n i : Nat} {d : D} (h : ((List.range n).map fun k => D.int (k : Nat))[i]? = some d) : d = .int (i : Nat) ∧ i < n := by
  rw [List.getElem?_map] at h
  have hi : i < n := by
    by_cases z : i < n
    · exact z
    · rw [List.getElem?_eq_none (by simpa using z)] at h; cases h
  rw [List.getElem?_range hi] at h
  cases h
  exact ⟨rfl, hi⟩
theorem log_of {n : Int} (h0 : 0 < n) (h : n < 2 ^ 64) : n.natAbs.log2 < 9000 := by
  have : n.natAbs.log2 < 64 := (Nat.log2_lt (by omega)).mpr (by omega)
  omega
theorem ltr_all : ∀ i : Fin 26, LTR.cps.toList[i.val]? = some (97 + i.val) := by decide +kernel
theorem ltr_no {i : Int} (h0 : 0 ≤ i) (h1 : i < 26) : atI LTR.cps.toList i = some (97 + i.toNat) ∧ LetS ⟨#[97 + i.toNat]⟩ := by
  have h := ltr_all ⟨i.toNat, by omega⟩
  exact ⟨atI_ofD h0 h, let_one (List.mem_of_getElem? h)⟩
theorem cut_len {z : Str} {k : Int} (h : 0 ≤ k) : (cutS z none (some k)).length = min k.toNat z.length := by
  have e : (cutS z none (some k)).length = ((z.cps.toList.drop (HT.sIx z.length 0 none)).take (HT.sIx z.length z.length (some k) - HT.sIx z.length 0 none)).length := by
    show Array.size _ = _
    simp [cutS]
  have lz : z.cps.toList.length = z.length := Array.length_toList
  obtain ⟨n, rfl⟩ : ∃ n : Nat, k = n := ⟨k.toNat, (Int.toNat_of_nonneg h).symm⟩
  rw [e, List.length_take, List.length_drop, HT.sIx_nat, lz]
  show min (min n z.length - 0) (z.length - 0) = min n z.length
  omega
theorem mid_eq {h t : Str} {a b : Nat} (e : (h ++ (⟨#[a]⟩ : Str)) ++ t = (h ++ (⟨#[b]⟩ : Str)) ++ t) : a = b := by
  have e1 : ((h.cps ++ #[a]) ++ t.cps).toList = ((h.cps ++ #[b]) ++ t.cps).toList := congrArg (fun s : Str => s.cps.toList) e
  simpa using e1
theorem four {f : Nat → Str} {n : Nat} {z0 z1 z2 z3 : Str} (h : (List.range n).map f = [z0, z1, z2, z3]) : z0 = f 0 ∧ z3 = f 3 := by
  have hn : n = 4 := by simpa using congrArg List.length h
  subst hn
  simp [List.range, List.range.loop] at h
  exact ⟨h.1.symm, h.2.2.2.symm⟩
theorem nm_one {c : Nat} {y : Str} (h : LetS ⟨#[c]⟩) (hy : LetS y) (hl : y.length ≤ 7) : Nm ((⟨#[c]⟩ : Str) ++ y) :=
  ⟨by rw [len_app]; show 1 ≤ 1 + _; omega, by rw [len_app]; show 1 + _ ≤ 8; omega, let_app h hy⟩
theorem nm_two {c : Nat} {x y : Str} (h : LetS ⟨#[c]⟩) (hx : LetS x) (hy : LetS y) (hl : x.length + y.length ≤ 7) : Nm ((x ++ (⟨#[c]⟩ : Str)) ++ y) :=
  ⟨by rw [len_app, len_app]; show 1 ≤ _ + 1 + _; omega, by rw [len_app, len_app]; show _ + 1 + _ ≤ 8; omega, let_app (let_app hx h) hy⟩

theorem ok_kind {L : Lc} {x : D} (h : okD x = true) : ∃ s, kindD L x = some s := by
  cases x with
  | non => exact ⟨_, rfl⟩
  | bl b => exact ⟨_, rfl⟩
  | int b => exact ⟨_, rfl⟩
  | str b => exact ⟨_, rfl⟩
  | lst ds => exact ⟨_, rfl⟩
  | tup ds => exact ⟨_, rfl⟩
  | dK es => exact ⟨_, rfl⟩
  | _ => rw [okD.eq_def] at h; cases h
theorem ok_shs {x : D} (h : okD x = true) : Shs x := fun z e => by
  subst e
  rw [okD.eq_def] at h
  exact of_decide_eq_true (Bool.and_eq_true_iff.mp h).2
theorem ok_str {x : D} {z : Str} (h : okD x = true) (e : x = .str z) : Asc z ∧ z.length ≤ 5000 := by
  subst e
  rw [okD.eq_def] at h
  have := Bool.and_eq_true_iff.mp h
  exact ⟨asc_of this.1, of_decide_eq_true this.2⟩
def is_tup : D → Bool
  | .tup _ => true
  | .ctup _ => true
  | _ => false
theorem sz_5 {n : Nat} (h : n ≤ 5000) : n ≤ sizeLine := Nat.le_trans h (by decide)
/-- at most a thousand things that are written -/
theorem v_sz {n : Nat} {p : Prop} (e : Nat.ble n 1000 = true) (h : p) : n ≤ sizeLine ∧ p := ⟨Nat.le_trans (Nat.le_of_ble_eq_true e) (by decide), h⟩
/-- one of these -/
theorem v_ixM {L : Lc} {x : D} {ds : List D} {i : Int} {q : DQ} (hv : vSeq L x = some ds) (h0 : 0 ≤ i) (h1 : i < ds.length) (k : ∀ d, d ∈ ds → q d L) : ixD x (.int i) L q := by
  obtain ⟨d, hd, _, hm⟩ := at_lt h0 h1
  exact v_ix hv hd (k d hm)
/-- one of these, from the front or from the end -/
theorem v_ixE {L : Lc} {x : D} {ds : List D} {i : Int} {q : DQ} (hv : vSeq L x = some ds) (h0 : -(ds.length : Int) ≤ i) (h1 : i < ds.length) (k : ∀ d, d ∈ ds → q d L) : ixD x (.int i) L q := by
  by_cases z : 0 ≤ i
  · exact v_ixM hv z h1 k
  · have e : ixN ds.length i = some (i + ds.length).toNat := by
      unfold ixN
      rw [if_neg z, if_pos (by omega)]
    have hl : (i + ds.length).toNat < ds.length := by omega
    have h2 : atI ds i = some ds[(i + ds.length).toNat] := by
      unfold L2.atI
      rw [e]
      exact List.getElem?_eq_getElem hl
    exact v_ix hv h2 (k _ (List.getElem_mem hl))
theorem at4 {α : Type} {a b c d e : α} {l : List α} : atI (a :: b :: c :: d :: e :: l) 4 = some e := atI_ofD (by decide) rfl
theorem at5 {α : Type} {a b c d e f : α} {l : List α} : atI (a :: b :: c :: d :: e :: f :: l) 5 = some f := atI_ofD (by decide) rfl
theorem at6 {α : Type} {a b c d e f g : α} {l : List α} : atI (a :: b :: c :: d :: e :: f :: g :: l) 6 = some g := atI_ofD (by decide) rfl
theorem nm_asc {z : Str} (h : Nm z) : Asc z := by
  have key : ∀ c ∈ LTR.cps.toList, c < 128 := by decide +kernel
  exact fun c hc => key c (h.2.2 c hc)
theorem v_ix0 {L : Lc} {x : D} {x0 : D} {l : List D} {q : DQ} (h : vSeq L x = some (x0 :: l)) (k : q x0 L) : ixD x (.int 0) L q := v_ix h at0 k
theorem v_ix1 {L : Lc} {x : D} {x0 x1 : D} {l : List D} {q : DQ} (h : vSeq L x = some (x0 :: x1 :: l)) (k : q x1 L) : ixD x (.int 1) L q := v_ix h at1 k
theorem v_ix2 {L : Lc} {x : D} {x0 x1 x2 : D} {l : List D} {q : DQ} (h : vSeq L x = some (x0 :: x1 :: x2 :: l)) (k : q x2 L) : ixD x (.int 2) L q := v_ix h at2 k
theorem v_ix3 {L : Lc} {x : D} {x0 x1 x2 x3 : D} {l : List D} {q : DQ} (h : vSeq L x = some (x0 :: x1 :: x2 :: x3 :: l)) (k : q x3 L) : ixD x (.int 3) L q := v_ix h at3 k
theorem v_ix4 {L : Lc} {x : D} {x0 x1 x2 x3 x4 : D} {l : List D} {q : DQ} (h : vSeq L x = some (x0 :: x1 :: x2 :: x3 :: x4 :: l)) (k : q x4 L) : ixD x (.int 4) L q := v_ix h at4 k
theorem v_ix5 {L : Lc} {x : D} {x0 x1 x2 x3 x4 x5 : D} {l : List D} {q : DQ} (h : vSeq L x = some (x0 :: x1 :: x2 :: x3 :: x4 :: x5 :: l)) (k : q x5 L) : ixD x (.int 5) L q := v_ix h at5 k
theorem v_ix6 {L : Lc} {x : D} {x0 x1 x2 x3 x4 x5 x6 : D} {l : List D} {q : DQ} (h : vSeq L x = some (x0 :: x1 :: x2 :: x3 :: x4 :: x5 :: x6 :: l)) (k : q x6 L) : ixD x (.int 6) L q := v_ix h at6 k
/-- a length that is known -/
theorem v_szE {n : Nat} {p : Prop} (e : n ≤ 5000) (h : p) : n ≤ sizeLine ∧ p := ⟨sz_5 e, h⟩
end Ed

set_option Elab.async false
set_option linter.all false
set_option maxRecDepth 100000
set_option maxHeartbeats 2000000
/-! A list or a tuple beside an empty one, whatever is in it; texts as they are shown. -/
namespace Ed
open PySem PySem.Spec PyProof.Rows L2 Dz
/-- what stands in both, and how many things each has -/
theorem seq_at {X : Cx} {pins : List (Addr × Obj)} {σ : L2.St} {S : Sta} {s : Shared} {x : D} {ds : List D} {v : V} {u : Value} (I : Inv X pins σ S.H s) (k : Ok X.K S) (r : Rp X.K S.H S.Λ v x) (rv : RelV v u) :
    (vLst S.L x = some ds → ∃ a its, u = .ref a ∧ s.heap.IsList a its ∧ its.size = ds.length) ∧ ((x = .tup ds ∨ x = .ctup ds) → ∃ a its, u = .ref a ∧ s.heap.IsTuple a its ∧ its.size = ds.length) := by
  refine ⟨fun h => ?_, fun h => ?_⟩
  · obtain ⟨a, xs, rfl, h1, h2⟩ := vLst_ok k r h
    cases (show u = Value.ref a from rv)
    obtain ⟨its, rr, ⟨o, n, ho, hc, hdn, hd⟩, _⟩ := I.list (.of h1)
    exact ⟨a, its.toArray, rfl, ⟨o, ho, hc, n, hd⟩, by rw [List.size_toArray, ← rr.length, h2.length]⟩
  · have tp : ∀ {a : Addr} {xs : List V}, SqT X.K S.H a xs → xs.length = ds.length → ∃ its, s.heap.IsTuple a its ∧ its.size = ds.length := fun {a xs} h1 hl => by
      obtain ⟨its, rr, hT, _⟩ := I.tuple h1
      exact ⟨its.toArray, hT, by rw [List.size_toArray, ← rr.length, hl]⟩
    rcases h with rfl | rfl
    · cases r with
      | tup n t r =>
        cases (show u = Value.ref _ from rv)
        obtain ⟨its, h1, h2⟩ := tp (.of t) r.length
        exact ⟨_, its, rfl, h1, h2⟩
    · cases r with
      | ctup t r =>
        cases (show u = Value.ref _ from rv)
        obtain ⟨its, h1, h2⟩ := tp t.sq r.length
        exact ⟨_, its, rfl, h1, h2⟩
def emD (neg : Bool) : DR2 := fun x y L q => ∃ ds, ((vLst L x = some ds ∧ y = .lst []) ∨ ((x = .tup ds ∨ x = .ctup ds) ∧ y = .tup [])) ∧ q (.bl (if neg then !ds.isEmpty else ds.isEmpty)) L
theorem size_em {α β : Type} {a : Array α} {ds : List β} (h : a.size = ds.length) : (a.size == 0) = ds.isEmpty := by
  cases ds with
  | nil => rw [h]; rfl
  | cons d ds => rw [h]; rfl
theorem op_emE {X : Cx} {K : PySem.W.Frag} (hK : X.K = K) (hu : X.A.units < cLine) : OpR X (compareOp .Eq) (rOf K (emD false)) := by
  subst hK
  rintro pins s σ H x y v u Q I rx ry ⟨S, a, b, q, rfl, k1, ra, rb, R, ds, h1, h⟩
  have fin : ∀ c, c = ds.isEmpty → ∃ z H', Inv X pins σ H' s ∧ RelV z (Value.bool c) ∧ Q z H' := fun c e => ⟨.bl c, S.H, I, rfl, R S _ _ (.refl S) k1 (.bl _) (by rw [e]; exact h)⟩
  rcases h1 with ⟨h1, rfl⟩ | ⟨h1, rfl⟩
  · obtain ⟨p, its, rfl, l1, z1⟩ := (seq_at (ds := ds) I k1 ra rx).1 h1
    obtain ⟨p2, its2, rfl, l2, z2⟩ := (seq_at (ds := []) I k1 rb ry).1 rfl
    by_cases e : its.size = its2.size
    · refine SeqAt.eq_listAt (e := fun _ => true) l1 l2 e hu (fun j _ h2 => by rw [z2] at h2; exact absurd h2 (Nat.not_lt_zero _)) ?_
      refine fin _ ?_
      rw [← size_em z1, e, z2]
      simp
    · refine SeqAt.eq_list_lengthsAt l1 l2 (by simpa using e) hu ?_
      refine fin _ ?_
      rw [← size_em z1]
      rw [z2] at e
      exact (beq_eq_false_iff_ne.mpr e).symm
  · obtain ⟨p, its, rfl, l1, z1⟩ := (seq_at (ds := ds) I k1 ra rx).2 h1
    obtain ⟨p2, its2, rfl, l2, z2⟩ := (seq_at (ds := []) I k1 rb ry).2 (.inl rfl)
    refine SeqAt.eq_tupleAt (e := fun _ => true) l1 l2 hu (fun j _ h2 => by rw [z2] at h2; exact absurd h2 (Nat.not_lt_zero _)) ?_
    refine fin _ ?_
    rw [← size_em z1, z2]
    simp
theorem op_emN {X : Cx} {K : PySem.W.Frag} (hK : X.K = K) (hu : X.A.units < cLine) : OpR X (compareOp .NotEq) (rOf K (emD true)) := by
  subst hK
  rintro pins s σ H x y v u Q I rx ry ⟨S, a, b, q, rfl, k1, ra, rb, R, ds, h1, h⟩
  have fin : ∀ c, c = !ds.isEmpty → ∃ z H', Inv X pins σ H' s ∧ RelV z (Value.bool c) ∧ Q z H' := fun c e => ⟨.bl c, S.H, I, rfl, R S _ _ (.refl S) k1 (.bl _) (by rw [e]; exact h)⟩
  rcases h1 with ⟨h1, rfl⟩ | ⟨h1, rfl⟩
  · obtain ⟨p, its, rfl, l1, z1⟩ := (seq_at (ds := ds) I k1 ra rx).1 h1
    obtain ⟨p2, its2, rfl, l2, z2⟩ := (seq_at (ds := []) I k1 rb ry).1 rfl
    show wpAny (model X.prog X.w) X.A (richCompare .NotEq (.ref p) (.ref p2)) _ _ s
    by_cases e : its.size = its2.size
    · refine SeqAt.RcNeAt.lists (e := fun _ => true) l1 l2 e hu (fun j _ h2 => by rw [z2] at h2; exact absurd h2 (Nat.not_lt_zero _)) X.prog X.w X.xe _ ?_
      refine fin _ ?_
      rw [← size_em z1, e, z2]
      simp
    · refine SeqAt.RcNeAt.lists_lengths l1 l2 (by simpa using e) hu X.prog X.w X.xe _ ?_
      refine fin _ ?_
      rw [← size_em z1]
      rw [z2] at e
      rw [show (its.size == 0) = false from beq_eq_false_iff_ne.mpr e]
      rfl
  · obtain ⟨p, its, rfl, l1, z1⟩ := (seq_at (ds := ds) I k1 ra rx).2 h1
    obtain ⟨p2, its2, rfl, l2, z2⟩ := (seq_at (ds := []) I k1 rb ry).2 (.inl rfl)
    show wpAny (model X.prog X.w) X.A (richCompare .NotEq (.ref p) (.ref p2)) _ _ s
    refine SeqAt.RcNeAt.tuples (e := fun _ => true) l1 l2 hu (fun j _ h2 => by rw [z2] at h2; exact absurd h2 (Nat.not_lt_zero _)) X.prog X.w X.xe _ ?_
    refine fin _ ?_
    rw [← size_em z1, z2]
    simp
theorem v_emE {L : Lc} {x y : D} {ds : List D} {q : DQ} (h : (vLst L x = some ds ∧ y = .lst []) ∨ ((x = .tup ds ∨ x = .ctup ds) ∧ y = .tup [])) (hq : q (.bl ds.isEmpty) L) : emD false x y L q := ⟨ds, h, hq⟩
theorem v_emN {L : Lc} {x y : D} {ds : List D} {q : DQ} (h : (vLst L x = some ds ∧ y = .lst []) ∨ ((x = .tup ds ∨ x = .ctup ds) ∧ y = .tup [])) (hq : q (.bl (!ds.isEmpty)) L) : emD true x y L q := ⟨ds, h, hq⟩
end Ed

set_option Elab.async false
set_option linter.all false
set_option maxRecDepth 100000
set_option maxHeartbeats 2000000
/-! Only a text is shown as a text of letters is. -/
namespace Ed
open PySem PySem.Spec PyProof.Rows L2 Dz
theorem foldl_flat (q : Nat) : ∀ (l : List Nat) (acc : Array Nat), (l.foldl (fun out c => out ++ (Builtin.Str.reprChar q c).toArray) acc).toList = acc.toList ++ l.flatMap (Builtin.Str.reprChar q)
  | [], acc => by simp
  | c :: l, acc => by
    rw [List.foldl_cons, foldl_flat q l]
    simp
theorem repr_list (x : Str) : (reprText x).cps.toList = reprQuote x :: (x.cps.toList.flatMap (Builtin.Str.reprChar (reprQuote x)) ++ [reprQuote x]) := by
  show ((x.cps.foldl (fun out c => out ++ (Builtin.Str.reprChar (reprQuote x) c).toArray) #[reprQuote x]).push (reprQuote x)).toList = _
  rw [Array.toList_push, ← Array.foldl_toList, foldl_flat]
  simp
theorem reprChar_or (q c : Nat) : Builtin.Str.reprChar q c = [c] ∨ 92 ∈ Builtin.Str.reprChar q c := by
  unfold Builtin.Str.reprChar
  repeat' split
  all_goals first | exact .inl rfl | (right; simp)
theorem flat_plain {q : Nat} : ∀ {l : List Nat}, 92 ∉ l.flatMap (Builtin.Str.reprChar q) → l.flatMap (Builtin.Str.reprChar q) = l
  | [], _ => rfl
  | c :: l, h => by
    rw [List.flatMap_cons] at h ⊢
    rcases reprChar_or q c with e | e
    · rw [e, flat_plain (fun z => h (List.mem_append_right _ z))]; rfl
    · exact absurd (List.mem_append_left _ e) h
/-- letters -/
def Lets (t : Str) : Prop := ∀ c ∈ t.cps.toList, 96 < c ∧ c < 123
theorem lets_quote {t : Str} (h : Lets t) : reprQuote t = 39 := by
  unfold reprQuote
  have : t.cps.contains 39 = false := by
    rw [Bool.eq_false_iff]
    intro z
    have := h 39 (by simpa using z)
    omega
  rw [this]; rfl
theorem lets_char {c : Nat} (h : 96 < c ∧ c < 123) : Builtin.Str.reprChar 39 c = [c] := by
  have key : ∀ i : Fin 26, Builtin.Str.reprChar 39 (97 + i.val) = [97 + i.val] := by decide +kernel
  have := key ⟨c - 97, by omega⟩
  rw [show 97 + (c - 97) = c by omega] at this
  exact this
theorem lets_flat {l : List Nat} (h : ∀ c ∈ l, 96 < c ∧ c < 123) : l.flatMap (Builtin.Str.reprChar 39) = l := by
  induction l with
  | nil => rfl
  | cons c l ih => rw [List.flatMap_cons, lets_char (h c List.mem_cons_self), ih fun d hd => h d (List.mem_cons_of_mem _ hd)]; rfl
theorem lets_repr {t : Str} (h : Lets t) : (reprText t).cps.toList = 39 :: (t.cps.toList ++ [39]) := by
  rw [repr_list, lets_quote h, lets_flat h]
theorem repr_is {x t : Str} (h : Lets t) (e : reprText x = reprText t) : x = t := by
  have e1 := congrArg (fun s : Str => s.cps.toList) e
  simp only [lets_repr h, repr_list] at e1
  obtain ⟨hq, e1⟩ := List.cons.inj e1
  rw [hq] at e1
  have e2 : x.cps.toList.flatMap (Builtin.Str.reprChar 39) = t.cps.toList := List.append_cancel_right e1
  have n : 92 ∉ x.cps.toList.flatMap (Builtin.Str.reprChar 39) := by
    rw [e2]; intro z; have := h 92 z; omega
  rw [flat_plain n] at e2
  cases x; cases t
  simp only [Str.mk.injEq]
  exact Array.toList_inj.mp e2
theorem not_repr {y t : Str} (h : Lets t) (n : ∀ l, y.cps.toList ≠ 39 :: l) : y ≠ reprText t := fun e => n _ (by rw [e, lets_repr h])
theorem head_ne {a y : Str} {c : Nat} (hc : c ≠ 39) (ha : a.cps.toList = [c]) : ∀ l, (a ++ y).cps.toList ≠ 39 :: l := fun l e => by
  have : (a ++ y).cps.toList = a.cps.toList ++ y.cps.toList := by
    show (a.cps ++ y.cps).toList = _
    simp
  rw [this, ha] at e
  exact hc (List.cons.inj e).1
theorem str_assoc (a b c : Str) : (a ++ b) ++ c = a ++ (b ++ c) := by
  show Str.mk ((a.cps ++ b.cps) ++ c.cps) = Str.mk (a.cps ++ (b.cps ++ c.cps))
  rw [Array.append_assoc]
theorem textFrom_head : ∀ (ts : List Str) (n : Nat) (a : Str), ∃ y, textFrom n a ts = a ++ y
  | [], n, a => ⟨Str.empty, by show a = Str.mk (a.cps ++ #[]); simp⟩
  | t :: ts, n, a => by
    obtain ⟨y, hy⟩ := textFrom_head ts (n + 1) (a ++ (if n > 0 then ", " else "" : String) ++ t)
    refine ⟨(((if n > 0 then ", " else "" : String) : Str) ++ t) ++ y, ?_⟩
    show textFrom (n + 1) (a ++ (if n > 0 then ", " else "" : String) ++ t) ts = _
    rw [hy, str_assoc, str_assoc, str_assoc]
theorem tuple_head (ts : List Str) : ∀ l, (tupleText ts).cps.toList ≠ 39 :: l := fun l z => by
  unfold tupleText at z
  rw [str_assoc] at z
  exact head_ne (c := 40) (by decide) (by decide +kernel) _ z
/-- .. is this text -/
theorem shown_is {d : D} {t : Str} (ok : okD d = true) (h : Lets t) : decide ((pyOf d).shown = (PyData.str t).shown) = isS t d := by
  have no : (∀ l, (pyOf d).shown.cps.toList ≠ 39 :: l) → isS t d = false → decide ((pyOf d).shown = (PyData.str t).shown) = isS t d := fun n e => by
    rw [e]; exact decide_eq_false (not_repr h n)
  cases d with
  | non => exact no (by intro l z; rw [pyOf.eq_def] at z; revert z; show (PyData.none).shown.cps.toList = _ → _; rw [show (PyData.none).shown.cps.toList = [78, 111, 110, 101] by decide +kernel]; intro z; cases z) rfl
  | bl b => exact no (by
      intro l z; rw [pyOf.eq_def] at z; revert z; show (PyData.bool b).shown.cps.toList = _ → _
      cases b
      · rw [show (PyData.bool false).shown.cps.toList = [70, 97, 108, 115, 101] by decide +kernel]; intro z; cases z
      · rw [show (PyData.bool true).shown.cps.toList = [84, 114, 117, 101] by decide +kernel]; intro z; cases z) rfl
  | int i => exact no (by
      intro l z; rw [pyOf.eq_def] at z
      have z' : (Str.ofString (toString i)).cps.toList = 39 :: l := z
      exact (intText_free_39 i).mp (by rw [z']; exact List.mem_cons_self)) rfl
  | str x =>
    rw [pyOf.eq_def]
    show decide (reprText x = reprText t) = decide (x = t)
    by_cases e : x = t
    · rw [decide_eq_true e, e]; exact decide_eq_true rfl
    · rw [decide_eq_false e]; exact decide_eq_false fun z => e (repr_is h z)
  | lst ds => exact no (by
      intro l z; rw [pyOf.eq_def] at z
      have z' : (listText (PyData.shownAll (pyOfL ds))).cps.toList = 39 :: l := z
      unfold listText at z'
      obtain ⟨y, hy⟩ := textFrom_head (PyData.shownAll (pyOfL ds)) 0 (Str.ofString "[")
      rw [hy, str_assoc] at z'
      exact head_ne (c := 91) (by decide) (by decide +kernel) _ z') rfl
  | tup ds => exact no (by
      intro l z; rw [pyOf.eq_def] at z
      have z' : (tupleText (PyData.shownAll (pyOfL ds))).cps.toList = 39 :: l := z
      exact tuple_head _ _ z') rfl
  | dK es => exact no (by
      intro l z; rw [pyOf.eq_def] at z
      have z' : (dictText (PyData.shownKv (pyOfK es))).cps.toList = 39 :: l := z
      unfold dictText at z'
      rw [str_assoc] at z'
      exact head_ne (c := 123) (by decide) (by decide +kernel) _ z') rfl
  | _ => rw [okD.eq_def] at ok; cases ok
end Ed

set_option Elab.async false
set_option linter.all false
set_option maxRecDepth 100000
set_option maxHeartbeats 2000000
/-! isinstance, len, of things. -/
namespace Ed
open PySem PySem.Spec PyProof.Rows L2 Dz
def isTup : D → Bool
  | .tup _ => true
  | _ => false
def isStrD : D → Bool
  | .str _ => true
  | _ => false
def isLst : D → Bool
  | .lst _ => true
  | _ => false
def isIntD : D → Bool
  | .int _ => true
  | .bl _ => true
  | _ => false
def isBlD : D → Bool
  | .bl _ => true
  | _ => false
section
variable {L : Lc} {x : D} {ds : List D} {q : DQ}
theorem v_isiT (ok : okD x = true) (hq : q (.bl (isTup x)) L) : isiD [x, .ty "tuple"] L q := by
  cases x with
  | non => exact ⟨_, _, "NoneType", false, rfl, rfl, by decide +kernel, hq⟩
  | bl b => exact ⟨_, _, "bool", false, rfl, rfl, by decide +kernel, hq⟩
  | int b => exact ⟨_, _, "int", false, rfl, rfl, by decide +kernel, hq⟩
  | str b => exact ⟨_, _, "str", false, rfl, rfl, by decide +kernel, hq⟩
  | lst ds => exact ⟨_, _, "list", false, rfl, rfl, by decide +kernel, hq⟩
  | tup ds => exact ⟨_, _, "tuple", true, rfl, rfl, by decide +kernel, hq⟩
  | dK es => exact ⟨_, _, "dict", false, rfl, rfl, by decide +kernel, hq⟩
  | _ => rw [okD.eq_def] at ok; cases ok
theorem v_isiS (ok : okD x = true) (hq : q (.bl (isStrD x)) L) : isiD [x, .ty "str"] L q := by
  cases x with
  | non => exact ⟨_, _, "NoneType", false, rfl, rfl, by decide +kernel, hq⟩
  | bl b => exact ⟨_, _, "bool", false, rfl, rfl, by decide +kernel, hq⟩
  | int b => exact ⟨_, _, "int", false, rfl, rfl, by decide +kernel, hq⟩
  | str b => exact ⟨_, _, "str", true, rfl, rfl, by decide +kernel, hq⟩
  | lst ds => exact ⟨_, _, "list", false, rfl, rfl, by decide +kernel, hq⟩
  | tup ds => exact ⟨_, _, "tuple", false, rfl, rfl, by decide +kernel, hq⟩
  | dK es => exact ⟨_, _, "dict", false, rfl, rfl, by decide +kernel, hq⟩
  | _ => rw [okD.eq_def] at ok; cases ok
theorem v_isiL (ok : okD x = true) (hq : q (.bl (isLst x)) L) : isiD [x, .ty "list"] L q := by
  cases x with
  | non => exact ⟨_, _, "NoneType", false, rfl, rfl, by decide +kernel, hq⟩
  | bl b => exact ⟨_, _, "bool", false, rfl, rfl, by decide +kernel, hq⟩
  | int b => exact ⟨_, _, "int", false, rfl, rfl, by decide +kernel, hq⟩
  | str b => exact ⟨_, _, "str", false, rfl, rfl, by decide +kernel, hq⟩
  | lst ds => exact ⟨_, _, "list", true, rfl, rfl, by decide +kernel, hq⟩
  | tup ds => exact ⟨_, _, "tuple", false, rfl, rfl, by decide +kernel, hq⟩
  | dK es => exact ⟨_, _, "dict", false, rfl, rfl, by decide +kernel, hq⟩
  | _ => rw [okD.eq_def] at ok; cases ok
theorem v_isiI (ok : okD x = true) (hq : q (.bl (isIntD x)) L) : isiD [x, .ty "int"] L q := by
  cases x with
  | non => exact ⟨_, _, "NoneType", false, rfl, rfl, by decide +kernel, hq⟩
  | bl b => exact ⟨_, _, "bool", true, rfl, rfl, by decide +kernel, hq⟩
  | int b => exact ⟨_, _, "int", true, rfl, rfl, by decide +kernel, hq⟩
  | str b => exact ⟨_, _, "str", false, rfl, rfl, by decide +kernel, hq⟩
  | lst ds => exact ⟨_, _, "list", false, rfl, rfl, by decide +kernel, hq⟩
  | tup ds => exact ⟨_, _, "tuple", false, rfl, rfl, by decide +kernel, hq⟩
  | dK es => exact ⟨_, _, "dict", false, rfl, rfl, by decide +kernel, hq⟩
  | _ => rw [okD.eq_def] at ok; cases ok
theorem v_isiB (ok : okD x = true) (hq : q (.bl (isBlD x)) L) : isiD [x, .ty "bool"] L q := by
  cases x with
  | non => exact ⟨_, _, "NoneType", false, rfl, rfl, by decide +kernel, hq⟩
  | bl b => exact ⟨_, _, "bool", true, rfl, rfl, by decide +kernel, hq⟩
  | int b => exact ⟨_, _, "int", false, rfl, rfl, by decide +kernel, hq⟩
  | str b => exact ⟨_, _, "str", false, rfl, rfl, by decide +kernel, hq⟩
  | lst ds => exact ⟨_, _, "list", false, rfl, rfl, by decide +kernel, hq⟩
  | tup ds => exact ⟨_, _, "tuple", false, rfl, rfl, by decide +kernel, hq⟩
  | dK es => exact ⟨_, _, "dict", false, rfl, rfl, by decide +kernel, hq⟩
  | _ => rw [okD.eq_def] at ok; cases ok
theorem tup_of (h : isTup x = true) : ∃ ds, x = .tup ds := by cases x <;> first | exact ⟨_, rfl⟩ | cases h
theorem str_of (h : isStrD x = true) : ∃ ds, x = .str ds := by cases x <;> first | exact ⟨_, rfl⟩ | cases h
theorem lst_of (h : isLst x = true) : ∃ ds, x = .lst ds := by cases x <;> first | exact ⟨_, rfl⟩ | cases h
theorem v_lenL (h : vSeq L x = some ds) (k : q (.int ds.length) L) : lenD [x] L q := .inl ⟨x, ds, rfl, h, k⟩
theorem v_isN2 (k : q (.bl (isNonD x)) L) : isND x .non L q := by
  by_cases h : x = .non
  · subst h; exact ⟨rfl, .inl ⟨rfl, k⟩⟩
  · exact ⟨rfl, .inr ⟨h, by rw [show isNonD x = false by cases x <;> first | rfl | exact absurd rfl h] at k; exact k⟩⟩
theorem v_notN2 (k : q (.bl (!isNonD x)) L) : notND x .non L q := by
  by_cases h : x = .non
  · subst h; exact ⟨rfl, .inl ⟨rfl, k⟩⟩
  · exact ⟨rfl, .inr ⟨h, by rw [show isNonD x = false by cases x <;> first | rfl | exact absurd rfl h] at k; exact k⟩⟩
theorem okD_tup : okD (.tup ds) = okDs ds := by rw [okD.eq_def]
theorem okD_lst : okD (.lst ds) = okDs ds := by rw [okD.eq_def]
theorem nam_str (h : namD x = true) : ∃ z, x = .str z := by cases x <;> first | exact ⟨_, rfl⟩ | cases h
end
theorem cut_1 {x : D} {ds : List D} : cutD (x :: ds) (some 1) none = ds := by
  unfold cutD
  rw [show HT.sIx (x :: ds).length 0 (some 1) = 1 from by rw [show (1 : Int) = ((1 : Nat) : Int) from rfl, HT.sIx_nat, List.length_cons]; omega, HT.sIx_none]
  simp
end Ed

set_option Elab.async false
set_option linter.all false
set_option maxRecDepth 100000
set_option maxHeartbeats 2000000
/-! t[::-1] of a tuple. -/
namespace HT
open PySem PyProof.Rows
open PySem.SeqAt
open PySem.AutoSeq1 (wpAny_loadPart')
open PySem.MeetsSeq PySem.MeetsSeq2 PySem.MeetsSeq3
section
variable {prog : Program} {w : World} {A : Around} {E : Value → Shared → Prop} {s : Shared}
theorem adjust_rev (n : Nat) : Builtin.Slice.sliceAdjust none none (-1) (n : Int) = ((n : Int) - 1, -1) := rfl
theorem places_rev (n : Nat) : Builtin.Slice.slicePlaces ((n : Int) - 1) (-1) (-1) = n := by
  unfold Builtin.Slice.slicePlaces
  simp only [show ¬ ((-1 : Int) > 0) by decide, if_false, show -(-1 : Int) = 1 by decide, Int.ediv_one]
  split <;> omega
theorem applied_rev {sl : Addr} {vl vu vs : Value} {n : Nat} {Q : Int × Int × Nat → Shared → Prop} (hs : s.heap.IsSliceOf sl vl vu vs) (pl : IsPart vl none) (pu : IsPart vu none) (ps : IsPart vs (some (-1)))
    (h : Q ((n : Int) - 1, -1, n) s) : wpAny (model prog w) A (Builtin.Slice.sliceApplied (.ref sl) (pure (n : Int))) Q E s := by
  obtain ⟨os, hos, hcs, hds⟩ := id hs
  unfold Builtin.Slice.sliceApplied Builtin.Slice.sliceFields
  refine wpAny_bind (wpAny_bind (wpAny_field hos hds (x := vl) rfl (wpAny_bind (wpAny_field hos hds (x := vu) rfl (wpAny_bind (wpAny_field hos hds (x := vs) rfl (wpAny_pure ?_)))))))
  refine wpAny_bind (slicePart_ ps ?_)
  show wpAny _ _ (if ((-1 : Int) == 0) = true then _ else _) _ _ s
  rw [if_neg (by decide)]
  refine wpAny_bind (slicePart_ pl (wpAny_bind (slicePart_ pu (wpAny_bind (wpAny_pure ?_)))))
  show wpAny _ _ (match Builtin.Slice.sliceAdjust none none (-1) (n : Int) with | (lo, hi) => pure (lo, (-1 : Int), Builtin.Slice.slicePlaces lo hi (-1))) _ _ s
  rw [adjust_rev n]
  show wpAny _ _ (pure ((n : Int) - 1, (-1 : Int), Builtin.Slice.slicePlaces ((n : Int) - 1) (-1) (-1))) _ _ s
  rw [places_rev]
  exact wpAny_pure h
theorem pick_rev (xs : Array Value) : ((List.range xs.size).filterMap fun (m : Nat) => xs[(((xs.size : Int) - 1) + (m : Int) * (-1)).toNat]?) = xs.toList.reverse := by
  have e0 : (List.range xs.size).reverse = (List.range xs.size).map fun (m : Nat) => (((xs.size : Int) - 1) + (m : Int) * (-1)).toNat := by
    apply List.ext_getElem
    · simp
    · intro i h1 h2
      rw [List.getElem_reverse, List.getElem_map, List.getElem_range, List.getElem_range]
      have : i < xs.size := by simpa using h1
      simp only [List.length_range]
      omega
  have e1 : ((List.range xs.size).reverse.filterMap fun m => xs[m]?) = xs.toList.reverse := by
    rw [List.filterMap_reverse]
    congr 1
    exact PySem.W.krv_all xs
  rw [e0, List.filterMap_map] at e1
  exact e1
theorem getItem_tuple_rev {t sl : Addr} {items : Array Value} {vl vu vs : Value} {Q : Value → Shared → Prop} (ht : IsTup s.heap t items) (hs : s.heap.IsSliceOf sl vl vu vs) (pl : IsPart vl none) (pu : IsPart vu none) (ps : IsPart vs (some (-1)))
    (h : Q (.ref s.heap.objs.size) { s with heap := s.heap.push { cls := .type "tuple", data := .seq items.toList.reverse.toArray } })
    (hsz : items.size ≤ sizeLine) : wpAny (model prog w) A (getItem (.ref t) (.ref sl)) Q E s := by
  have htake : sizeOk (.seq items.toList.reverse.toArray) := by
    show items.toList.reverse.toArray.size ≤ sizeLine
    rw [List.size_toArray, List.length_reverse, Array.length_toList]
    omega
  obtain ⟨os, hos, hcs, hds⟩ := id hs
  have hTs : s.TypeIs (.ref sl) "slice" := ⟨os, hos, hcs⟩
  unfold getItem
  try with_reducible refine wpAny_holding ?_
  first | refine wpAny_bind (wpAny_pure ?_) | skip
  refine wpAny_bind (wpAny_sequenceKey ht.typeIs (by decide) ?_)
  refine wpAny_bind (wpAny_callSpecial?_slot (name := Str.ofString "__getitem__") ht.typeIs PyProof.Rows.slot_tuple_getitem
    (wpAny_call_entry PyProof.Rows.slot_tuple_getitem ht.typeIs entry_tuple_getitem ?_ (args_tuple_getitem _ _)))
  show wpAny _ _ (Builtin.Tuple.tupleItemsOf (.ref t) >>= _) _ _ s
  refine wpAny_bind (tupleItemsOf_ ht ?_)
  refine wpAny_bind (wpAny_typeOf hTs ?_)
  rw [if_pos (by decide)]
  refine wpAny_bind (applied_rev hs pl pu ps ?_)
  have hno : ¬ ((((items.size : Int) - 1) == 0 && (-1 : Int) == 1 && items.size == items.size) = true) := by
    intro q
    rw [Bool.and_eq_true, Bool.and_eq_true] at q
    exact absurd (eq_of_beq q.1.2) (by decide)
  show wpAny _ _ (if (((items.size : Int) - 1) == 0 && (-1 : Int) == 1 && items.size == items.size) = true then _ else _) _ _ s
  rw [if_neg hno, pick_rev]
  first
    | exact wpAny_bind (m := Builtin.Tuple.tupleExact _) (wpAny_newObj_type (wpAny_pure ⟨_, rfl, wpAny_pure h⟩) htake)
    | exact wpAny_bind (m := Builtin.Tuple.tupleExact _) (wpAny_newObj_type (wpAny_bind (wpAny_pure (wpAny_pure ⟨_, rfl, wpAny_pure h⟩))) htake)
    | exact wpAny_bind (wpAny_bind (m := Builtin.Tuple.tupleExact _) (wpAny_newObj_type (wpAny_pure (wpAny_pure ⟨_, rfl, wpAny_pure h⟩)) htake))
    | exact wpAny_bind (wpAny_bind (m := Builtin.Tuple.tupleExact _) (wpAny_newObj_type (wpAny_pure ⟨_, rfl, wpAny_pure h⟩) htake))
end
end HT
namespace L2
open PySem PySem.Spec PyProof.Rows
section
variable {X : Cx}
def tRevT (K : PySem.W.Frag) (te : TE) : TE := fun σ H Q => te σ H fun x H1 => ∃ a xs, x = .ref a ∧ SqT K H1 a xs ∧ ∀ p, H1 p = none → Q (.ref p) (upd H1 p (.tup xs.reverse))
theorem pe_revT {e : Expr} {te : TE} {k : Nat} {p1 p2 p3 pos : Pos} (he : PE X e te) : PE X (.Subscript e (.Slice none none (some (.UnaryOp .USub (.Constant (.int 1) k p1) p2)) p3) pos) (tRevT X.K te) := by
  refine ⟨fun pins s σ H Q I h => ?_⟩
  refine Subscript_ (thn (he.run pins s σ H _ I h) fun v s1 ⟨x, H1, I1, r1, q1⟩ => ?_)
  obtain ⟨a, xs, ex, hx, q⟩ := q1
  subst ex
  cases r1
  have hst : PO X (some (.UnaryOp .USub (.Constant (.int 1) k p1) p2)) (tPart (tUn (rU fun i => .int (-i)) (tC (.int 1)))) := po_some (pe_un un_neg pe_int)
  refine wpAny_Slice (thn (po_none.run pins s1 σ H1 (fun o H2 => o = none ∧ H2 = H1) I1 ⟨rfl, rfl⟩) fun vl s2 ⟨l, H2, I2, pl, el, e2⟩ => ?_)
  subst el e2
  refine thn (po_none.run pins s2 σ H2 (fun o H3 => o = none ∧ H3 = H2) I2 ⟨rfl, rfl⟩) fun vu s3 ⟨u, H3, I3, pu, eu, e3⟩ => ?_
  subst eu e3
  refine thn (hst.run pins s3 σ H3 (fun o H4 => o = some (-1) ∧ H4 = H3) I3 ⟨1, rfl, -1, rfl, rfl, rfl⟩) fun vs s4 ⟨o, H4, I4, ps, eo, e4⟩ => ?_
  subst eo e4
  have I5 : Inv X pins σ H4 { s4 with heap := s4.heap.push { cls := .type "slice", data := .fields #[vl, vu, vs] } } := I4.kept (t' := s4.toks) fun b ob q => Heap.get?_push_of_some _ q
  obtain ⟨its, r, ht, hz⟩ := I5.tuple hx
  have hlen := r.length
  show wpAny (model X.prog X.w) X.A (subscriptTail e (.Slice none none (some (.UnaryOp .USub (.Constant (.int 1) k p1) p2)) p3) (.ref a) (.ref s4.heap.objs.size)) (EP X pins σ Q) X.xe { s4 with heap := s4.heap.push { cls := .type "slice", data := .fields #[vl, vu, vs] } }
  refine tail_any (ops := [.ref a, .ref s4.heap.objs.size]) ht.typeIs (PyProof.Rows.slot_tuple_getitem.lookup) ?_ (by with_unfolding_all rfl)
  refine HT.getItem_tuple_rev ht (Heap.IsSliceOf.new _ vl vu vs) pl pu ps ?_ (by rw [List.size_toArray]; omega)
  refine ⟨.ref _, _, I5.laid (t' := s4.toks) (o := .tup xs.reverse) (fun b ob q => Heap.get?_push_of_some _ q) (Nat.le_refl _) ?_, rfl, q _ (I5.hok.fresh (Nat.le_refl _))⟩
  exact ⟨by rw [List.length_reverse]; exact hz, _, r.reverse, IsTup.new _ _⟩
end
end L2
namespace Ed
open PySem PySem.Spec PyProof.Rows L2 Dz
theorem v_iteT {c : Bool} {p r : Prop} (h2 : r) (h1 : c = true → r → p) : if c = true then p else r := by
  cases c with
  | true => exact h1 rfl h2
  | false => exact h2
theorem take_numB {x m k : Int} (h0 : 0 ≤ x) (h1 : x < 2147483647) (m0 : 0 ≤ m) (m1 : m ≤ 20000000) (k0 : 0 ≤ k) (k1 : k ≤ 1000000) : (x + m * k).natAbs < 2 ^ 64 := by
  have h2 : m * k ≤ 20000000 * 1000000 := Int.mul_le_mul m1 k1 k0 (by decide)
  have h3 : 0 ≤ m * k := Int.mul_nonneg m0 k0
  omega
def dRevT (a : DTE) : DTE := fun w ρ L q => a w ρ L fun x L1 => ∃ ds, x = .tup ds ∧ q (.tup ds.reverse) L1
theorem d_revT {X : Cx} {K : PySem.W.Frag} {a : Expr} {ta : WX → TE} {da : DTE} {pos : Pos} {k : Nat} {p1 p2 p3 : Pos} (hK : X.K = K) (ha : DE X K ta a da) : DE X K (fun W => tRevT K (ta W)) (.Subscript a (.Slice none none (some (.UnaryOp .USub (.Constant (.int 1) k p1) p2)) p3) pos) (dRevT da) := by
  subst hK
  refine ⟨fun W t => pe_revT (ha.pe W t), fun W ew S σ ρ Q q I R h => ?_⟩
  refine ha.sim W ew S σ ρ _ _ I (fun S1 v x e1 k1 r1 h1 => ?_) h
  obtain ⟨ds, rfl, h1⟩ := h1
  cases r1 with
  | @tup a xs _ n t r =>
    refine ⟨a, xs, rfl, .of t, fun p np => ?_⟩
    have e2 := ev_new (o := .tup xs.reverse) np k1
    exact R (S1.new p (.tup xs.reverse)) _ _ (e1.trans e2) (ok_new np k1) (.tup (k1.lam np) upd_same (r.reverse.ev e2)) h1
theorem v_revT {a : DTE} {w : EW} {ρ : Dv} {L : Lc} {q : DQ} (h : a w ρ L fun x L1 => ∃ ds, x = .tup ds ∧ q (.tup ds.reverse) L1) : dRevT a w ρ L q := h
theorem v_tup1 {ds : List D} {p : List D → Prop} (h : p ds) : ∃ es, D.tup ds = .tup es ∧ p es := ⟨ds, rfl, h⟩
end Ed

set_option Elab.async false
set_option linter.all false
set_option maxRecDepth 100000
set_option maxHeartbeats 2000000
/-! Lists of numbers, of texts; parts; bags beside other cells. -/
namespace Ed
open PySem PySem.Spec PyProof.Rows L2 Dz
section
variable {L M : Lc} {x : D} {q : DQ} {i : Int}
theorem v_ixI {ns : List Int} (h : vSeq L x = some (ns.map D.int)) (h0 : 0 ≤ i) (h1 : i < ns.length) (k : ∀ n, n ∈ ns → q (.int n) L) : ixD x (.int i) L q := by
  refine v_ixM h h0 (by rw [List.length_map]; exact h1) fun d hd => ?_
  obtain ⟨n, hn, rfl⟩ := List.mem_map.mp hd
  exact k n hn
theorem v_ixZ {zs : List Str} (h : vSeq L x = some (zs.map D.str)) (h0 : 0 ≤ i) (h1 : i < zs.length) (k : ∀ z, z ∈ zs → q (.str z) L) : ixD x (.int i) L q := by
  refine v_ixM h h0 (by rw [List.length_map]; exact h1) fun d hd => ?_
  obtain ⟨n, hn, rfl⟩ := List.mem_map.mp hd
  exact k n hn
theorem v_ixZE {zs : List Str} (h : vSeq L x = some (zs.map D.str)) (h0 : -(zs.length : Int) ≤ i) (h1 : i < zs.length) (k : ∀ z, z ∈ zs → q (.str z) L) : ixD x (.int i) L q := by
  refine v_ixE h (by rw [List.length_map]; exact h0) (by rw [List.length_map]; exact h1) fun d hd => ?_
  obtain ⟨n, hn, rfl⟩ := List.mem_map.mp hd
  exact k n hn
theorem Bag.put {p a : Addr} {c : Int} {y : Cell} (h : Bag M L p c) (n : a ≠ p) : Bag (updL M a y) (updL L a y) p c := by
  obtain ⟨⟨z, hz, b⟩, r⟩ := h
  refine ⟨⟨z, by rw [updL_ne (fun e => n e.symm)]; exact hz, b⟩, fun b hb => ?_⟩
  by_cases e : b = a
  · rw [e, updL_same, updL_same]
  · rw [updL_ne e, updL_ne e, r b hb]
theorem Bag.gone {p a : Addr} {c : Int} {y : Cell} (h : Bag (updL M a y) L p c) (hm : M a = none) (n : a ≠ p) : Bag M (delL L a) p c := by
  obtain ⟨⟨z, hz, b⟩, r⟩ := h
  refine ⟨⟨z, by rw [delL_ne (fun e => n e.symm)]; exact hz, b⟩, fun b hb => ?_⟩
  by_cases e : b = a
  · rw [e, delL_same, hm]
  · rw [delL_ne e, r b hb, updL_ne e]
theorem Bag.ne_new {p a : Addr} {c : Int} (h : Bag M L p c) (n : L a = none) : a ≠ p := fun e => by
  obtain ⟨⟨z, hz, _⟩, _⟩ := h
  rw [e, hz] at n; cases n
theorem delL_less {a : Addr} : ∀ b c, delL L a b = some c → L b = some c := fun b c h => by
  unfold delL at h
  split at h
  · cases h
  · exact h
theorem v_rtD {a : Addr} {q : DQ} (h : q x (delL L a)) : (dEnd q).rt x L := ⟨x, delL L a, .less delL_less, h⟩
end
section
variable {ds es : List D} {d : D} {B k n : Nat} {i : Int}
theorem cutD_take (h0 : 0 ≤ i) (h1 : i ≤ ds.length) : cutD ds none (some i) = ds.take i.toNat := by
  obtain ⟨m, rfl⟩ : ∃ m : Nat, i = m := ⟨i.toNat, (Int.toNat_of_nonneg h0).symm⟩
  unfold cutD
  rw [HT.sIx_nat, HT.sIx_none, List.drop_zero, Nat.sub_zero, Nat.min_eq_left (by omega)]
  rfl
theorem cutD_drop (h0 : 0 ≤ i) (h1 : i ≤ ds.length) : cutD ds (some i) none = ds.drop i.toNat := by
  obtain ⟨m, rfl⟩ : ∃ m : Nat, i = m := ⟨i.toNat, (Int.toNat_of_nonneg h0).symm⟩
  unfold cutD
  rw [HT.sIx_nat, HT.sIx_none, Nat.min_eq_left (by omega), List.take_of_length_le (by rw [List.length_drop]; omega)]
  rfl
theorem ths_of (h : ∀ d ∈ ds, Th d B k) (hl : ds.length ≤ n) : Ths ds ((B + 2) * n) k := (Ths.all h).more (Nat.mul_le_mul_left _ hl)
theorem th_all (h : (ds.all fun d => okD d && (Nat.ble (wtD d) B && Nat.ble (dpD d) k)) = true) : ∀ d ∈ ds, Th d B k := fun d hd => by
  have := List.all_eq_true.mp h d hd
  obtain ⟨h1, h2⟩ := Bool.and_eq_true_iff.mp this
  obtain ⟨h2, h3⟩ := Bool.and_eq_true_iff.mp h2
  exact ⟨h1, Nat.le_of_ble_eq_true h2, Nat.le_of_ble_eq_true h3⟩
theorem wt_split {m : Nat} (h : ds[m]? = some d) : wtDs ds = wtDs (ds.take m) + (wtD d + 2) + wtDs (ds.drop (m + 1)) := by
  have hm := (List.getElem?_eq_some_iff.mp h).1
  have e : ds = ds.take m ++ (d :: ds.drop (m + 1)) := by
    conv => lhs; rw [← List.take_append_drop m ds]
    rw [List.drop_eq_getElem_cons hm, (List.getElem?_eq_some_iff.mp h).2]
  conv => lhs; rw [e]
  rw [wtDs_app]
  simp only [wtDs]
  omega
theorem Ths.exact (h : Ths ds B k) : Ths ds (wtDs ds) k := ⟨h.ok, Nat.le_refl _, h.dp⟩
theorem Ths.take {m : Nat} (h : Ths ds B k) : Ths (ds.take m) (wtDs (ds.take m)) k := ⟨okDs_sub (List.take_sublist _ _) h.ok, Nat.le_refl _, Nat.le_trans (dpDs_sub (List.take_sublist _ _)) h.dp⟩
theorem Ths.drop {m : Nat} (h : Ths ds B k) : Ths (ds.drop m) (wtDs (ds.drop m)) k := ⟨okDs_sub (List.drop_sublist _ _) h.ok, Nat.le_refl _, Nat.le_trans (dpDs_sub (List.drop_sublist _ _)) h.dp⟩
theorem Ths.one (h : Th d B k) : Ths [d] (B + 2) k := (Ths.cons h .nil).more (by omega) (by omega)
end
theorem v_iteC {c : Bool} {p r : Prop} (H : Prop) (h2 : H → r) (h0 : c = false → H) (h1 : c = true → (H → r) → p) : if c = true then p else r := by
  cases c with
  | true => exact h1 rfl h2
  | false => exact h2 (h0 rfl)
/-- a name, or a word of a law -/
def As8 (z : Str) : Prop := Asc z ∧ z.length ≤ 8
theorem let_asc {z : Str} (h : LetS z) : Asc z := by
  have key : ∀ c ∈ LTR.cps.toList, c < 128 := by decide +kernel
  exact fun c hc => key c (h c hc)
theorem As8.th {z : Str} (h : As8 z) : Th (.str z) 82 0 := Th.strs h.1 h.2
theorem as8_of {zs : List Str} (h : (zs.all fun z => ascB z && Nat.ble z.length 8) = true) : ∀ z ∈ zs, As8 z := fun z hz => by
  have := List.all_eq_true.mp h z hz
  obtain ⟨h1, h2⟩ := Bool.and_eq_true_iff.mp this
  exact ⟨asc_of h1, Nat.le_of_ble_eq_true h2⟩
theorem map_keep {ds : List D} {f : D → D} : (ds.filter fun _ => true).map f = ds.map f := by rw [List.filter_eq_self.mpr (fun _ _ => rfl)]
theorem rng_map {n : Nat} {F : Int → Str} : ((List.range n).map fun i => D.int (i : Nat)).map (fun d => match d with | .int k => .str (F k) | _ => .non) = ((List.range n).map fun k : Nat => F (k : Int)).map D.str := by
  rw [List.map_map, List.map_map]; rfl
end Ed

set_option Elab.async false
set_option linter.all false
set_option maxRecDepth 100000
set_option maxHeartbeats 2000000
/-! Walks along dicts by texts or numbers, locked meanwhile. -/
namespace Ed
open PySem PySem.Spec PyProof.Rows L2 Dz
/-- an expression that only looks, and what it shows -/
structure VX (X : Cx) (K : PySem.W.Frag) (e : Expr) (te : WX → TE) (val : Dv → Lc → D → Prop) : Prop where
  pe : ∀ W, Takes X W → PE X e (te W)
  run : ∀ W S σ ρ d, Ok K S → RelS K S σ ρ → val ρ S.L d → ∃ v, Rp K S.H S.Λ v d ∧ (∀ Q : VK, Q v S.H → te W σ S.H Q) ∧ ∀ a o u, S.H a = some u → Dct u → ∀ Q : VK, Q v (upd S.H a (.frz o u)) → te W σ (upd S.H a (.frz o u)) Q
def vVar (i : Nat) : Dv → Lc → D → Prop := fun ρ _ d => ρ[i]? = some (some d)
def vFld (C : Addr) (g : Str) (v : Dv → Lc → D → Prop) : Dv → Lc → D → Prop := fun ρ L d => ∃ x fs, v ρ L x ∧ vIns L x = some (C, fs) ∧ fs.lookup g = some d
section
variable {X : Cx} {K : PySem.W.Frag} {o e : Expr} {te : WX → TE} {val : Dv → Lc → D → Prop} {pos : Pos} {C : Addr}
theorem vx_var (i : Nat) {x : Str} (hN : X.N[i]? = some x := by rfl) (hv : Vis X.env.scope x := by first | exact Or.inl rfl | exact Or.inr (Or.inl rfl) | exact Or.inr (Or.inr rfl)) (hd : (x == ("__debug__" : Str)) = false := by decide) (hcd : (x == ("__classdict__" : Str)) = false := by decide) :
    VX X K (.Name x pos) (fun _ => tVar i) (vVar i) := by
  refine ⟨fun W _ => pe_var hN hv hd hcd, fun W S σ ρ d k s h => ?_⟩
  obtain ⟨v, h1, h2⟩ := s.at_ i d h
  exact ⟨v, h2, fun Q q => ⟨v, h1, q⟩, fun a o u _ _ Q q => ⟨v, h1, q⟩⟩
theorem vx_fld {g : Str} (hK : X.K = K) (c : Cls K C) (hn : NoAttr K C g) (ho : VX X K o te val) (hb : attributeBase o g X.env (eval o X.env) = eval o X.env := by rfl) : VX X K (.Attribute o g pos) (fun W => tFld K (te W) g) (vFld C g val) := by
  subst hK
  refine ⟨fun W t => pe_fld (ho.pe W t) hb, fun W S σ ρ d k s h => ?_⟩
  obtain ⟨x, fs, h1, h2, h3⟩ := h
  obtain ⟨w, rw', q1, q2⟩ := ho.run W S σ ρ x k s h1
  obtain ⟨a, dx, gs, rfl, h4, h5⟩ := vIns_ok k rw' h2
  rcases h5.lookup g with ⟨z, _⟩ | ⟨d', v, z, z2, rv⟩
  · rw [h3] at z; cases z
  · rw [h3] at z
    cases z
    refine ⟨v, rv, fun Q q => q1 _ ⟨a, C, dx, gs, v, rfl, h4, c, hn, z2, q⟩, fun b o u hb du Q q => q2 b o u hb du _ ⟨a, C, dx, gs, v, rfl, ?_, c, hn, z2, q⟩⟩
    have : a ≠ b := fun z => by
      rw [← z, h4] at hb
      cases hb
      exact du
    rw [upd_ne this]; exact h4
end
def kOf : Key → D
  | .inl i => .int i
  | .inr x => .str x
theorem rp_key {K : PySem.W.Frag} {H : Hp} {Λ : Addr → Prop} : ∀ k : Key, Rp K H Λ (kV k) (kOf k)
  | .inl i => .int i
  | .inr x => .str x
theorem at_keys {K : PySem.W.Frag} {S : Sta} {ks : List (Key × V)} {es : List (Key × D)} {i : Nat} {k : Key} {v : V} (h1 : ks.map (·.1) = es.map (·.1)) (h2 : RpL K S.H S.Λ (ks.map (·.2)) (es.map (·.2))) (h : ks[i]? = some (k, v)) : ∃ d, es[i]? = some (k, d) ∧ Rp K S.H S.Λ v d := by
  have e1 := congrArg (fun l => l[i]?) h1
  simp only [List.getElem?_map, h] at e1
  cases he : es[i]? with
  | none => rw [he] at e1; cases e1
  | some kd =>
    obtain ⟨k', d⟩ := kd
    rw [he] at e1
    cases e1
    obtain ⟨v', hv', r⟩ := h2.get (i := i) (d := d) (by rw [List.getElem?_map, he]; rfl)
    rw [List.getElem?_map, h] at hv'
    cases hv'
    exact ⟨d, rfl, r⟩
/-- a way to walk a locked dict -/
structure KI (K : PySem.W.Frag) (wi : TE → TI) (f : List (Key × D) → List D) (J : Addr → Obj → List (Key × V) → It) : Prop where
  go_ : ∀ (td : TE) σ H (R : It → Hp → Prop) d o ks, (∀ Q : VK, Q (.ref d) H → td σ H Q) → H d = some (.frz o (.dK ks)) → R (J d o ks) H → wi td σ H R
  it : ∀ S d o ks es, S.H d = some (.frz o (.dK ks)) → ¬ S.Λ d → ks.map (·.1) = es.map (·.1) → RpL K S.H S.Λ (ks.map (·.2)) (es.map (·.2)) → ItOk K S (J d o ks) (f es) (fun _ => True)
section
variable {K : PySem.W.Frag}
theorem len_keys {ks : List (Key × V)} {es : List (Key × D)} (h1 : ks.map (·.1) = es.map (·.1)) : ks.length = es.length := by simpa using congrArg List.length h1
theorem ki_keys : KI K iKeys (fun es => es.map fun kv => kOf kv.1) Itk := by
  refine ⟨fun td σ H R d o ks q h r => q _ ⟨d, o, rfl, .inl ⟨ks, h, r⟩⟩, fun S d o ks es h n h1 h2 => ⟨fun H => H d = some (.frz o (.dK ks)), fun i H x H' => H' = H ∧ ∃ k v, ks[i]? = some (k, v) ∧ x = kV k, ⟨fun i H hi g => ⟨g, by rw [len_keys h1]; simpa using hi⟩, fun H g => ⟨g, by rw [len_keys h1]; simp⟩, fun i H x H' _ _ y => y⟩, fun S' e k _ => (e.lk h n).2, fun S' i x H' e k _ hi y => ?_⟩⟩
  obtain ⟨rfl, kk, v, hk, rfl⟩ := y
  obtain ⟨d', hd, _⟩ := at_keys h1 h2 hk
  exact ⟨S', kOf kk, rfl, rfl, .refl _, k, by rw [List.getElem?_map, hd]; rfl, rp_key kk⟩
theorem ki_vals : KI K iVals (fun es => es.map (·.2)) Itd := by
  refine ⟨fun td σ H R d o ks q h r => q _ ⟨d, o, ks, rfl, h, r⟩, fun S d o ks es h n h1 h2 => ⟨fun H => H d = some (.frz o (.dK ks)), fun i H x H' => H' = H ∧ ∃ k, ks[i]? = some (k, x), ⟨fun i H hi g => ⟨g, by rw [len_keys h1]; simpa using hi⟩, fun H g => ⟨g, by rw [len_keys h1]; simp⟩, fun i H x H' _ _ y => y⟩, fun S' e k _ => (e.lk h n).2, fun S' i x H' e k _ hi y => ?_⟩⟩
  obtain ⟨rfl, kk, hk⟩ := y
  obtain ⟨d', hd, r⟩ := at_keys h1 h2 hk
  exact ⟨S', d', rfl, rfl, .refl _, k, by rw [List.getElem?_map, hd]; rfl, r.ev e⟩
theorem ki_items : KI K iItems (fun es => es.map fun kv => .tup [kOf kv.1, kv.2]) Iti := by
  refine ⟨fun td σ H R d o ks q h r => q _ ⟨d, o, ks, rfl, h, r⟩, fun S d o ks es h n h1 h2 => ⟨fun H => H d = some (.frz o (.dK ks)), fun i H x H' => ∃ T k v, ks[i]? = some (k, v) ∧ x = .ref T ∧ H T = none ∧ H' = upd H T (.tup [kV k, v]), ⟨fun i H hi g => ⟨g, by rw [len_keys h1]; simpa using hi⟩, fun H g => ⟨g, by rw [len_keys h1]; simp⟩, fun i H x H' _ _ y => y⟩, fun S' e k _ => (e.lk h n).2, fun S' i x H' e k _ hi y => ?_⟩⟩
  obtain ⟨T, kk, v, hk, rfl, hT, rfl⟩ := y
  obtain ⟨d', hd, r⟩ := at_keys h1 h2 hk
  have e2 := ev_new (o := .tup [kV kk, v]) hT k
  exact ⟨S'.new T (.tup [kV kk, v]), _, rfl, rfl, e2, ok_new hT k, by rw [List.getElem?_map, hd]; rfl, .tup (k.lam hT) upd_same (.cons (rp_key kk) (.cons ((r.ev e).ev e2) .nil))⟩
end
/-! ### the lock -/
def Sta.lk (S : Sta) (a : Addr) (u : HO) : Sta := ⟨upd S.H a u, S.L, S.Λ⟩
theorem CellOk.ew {K : PySem.W.Frag} {S S' : Sta} {a : Addr} {c : Cell} (h : CellOk K S.H S.Λ a c) (e : Ew S S') (q : S'.H a = S.H a) : CellOk K S'.H S'.Λ a c := by
  cases c with
  | lst ds =>
    obtain ⟨xs, h1, r⟩ := h
    exact ⟨xs, q.trans h1, r.ew e⟩
  | dK es =>
    obtain ⟨ks, h1, k, r⟩ := h
    exact ⟨ks, q.trans h1, k, r.ew e⟩
  | dT es =>
    obtain ⟨ks, h1, k, r⟩ := h
    exact ⟨ks, q.trans h1, k, r.ew e⟩
  | ins C es =>
    obtain ⟨dx, ks, h1, k, r⟩ := h
    exact ⟨dx, ks, q.trans h1, k, r.ew e⟩
section
variable {K : PySem.W.Frag} {S S' : Sta} {a : Addr} {o : Obj} {u : HO}
theorem ok_lk {w : HO} (k : Ok K S) (n : ¬ S.Λ a) (e : Ew S (S.lk a w)) : Ok K (S.lk a w) := by
  refine ⟨fun b c h => ?_, fun b h => ?_⟩
  · obtain ⟨h1, h2⟩ := k.cell b c h
    exact ⟨h1, h2.ew e (upd_ne fun z => n (by rw [← z]; exact h1))⟩
  · show ∃ u, upd S.H a w b = some u ∧ NT u
    rw [upd_ne fun z => n (by rw [← z]; exact h)]
    exact k.there b h
theorem ev_lk (h : S.H a = some u) (du : Dct u) (n : ¬ S.Λ a) : Ev S (S.lk a (.frz o u)) := by
  refine ⟨fun b v hb nb => ⟨nb, ?_⟩, fun b hb nb => ⟨upd_ne fun z => n (by rw [← z]; exact hb), hb, nb⟩⟩
  by_cases z : b = a
  · subst z
    rw [h] at hb
    cases hb
    exact ⟨.frz o u, upd_same, .inr ⟨o, du, rfl⟩⟩
  · exact ⟨v, by show upd S.H a _ b = _; rw [upd_ne z]; exact hb, .refl v⟩
theorem ew_un (h : S'.H a = some (.frz o u)) (du : Dct u) : Ew S' (S'.lk a u) := fun b v hb nb => by
  refine ⟨nb, ?_⟩
  by_cases z : b = a
  · subst z
    rw [h] at hb
    cases hb
    exact ⟨u, upd_same, .inr ⟨u, du, .inr ⟨o, rfl⟩, .inl rfl⟩⟩
  · exact ⟨v, by show upd S'.H a _ b = _; rw [upd_ne z]; exact hb, .inl rfl⟩
theorem ev_un (h : S.H a = some u) (du : Dct u) (n : ¬ S.Λ a) (e : Ev (S.lk a (.frz o u)) S') : Ev S (S'.lk a u) := by
  refine ⟨fun b v hb nb => ?_, fun b hb nb => ?_⟩
  · by_cases z : b = a
    · subst z
      rw [h] at hb
      cases hb
      exact ⟨(e.lk (a := b) (o := o) (u := u) upd_same n).1, u, upd_same, .refl u⟩
    · obtain ⟨h1, v', h2, g⟩ := e.stay b v (by show upd S.H a _ b = _; rw [upd_ne z]; exact hb) nb
      exact ⟨h1, v', by show upd S'.H a _ b = _; rw [upd_ne z]; exact h2, g⟩
  · have z : b ≠ a := fun z => n (by rw [← z]; exact hb)
    obtain ⟨h1, h2, h3⟩ := e.hid b hb nb
    refine ⟨?_, h2, h3⟩
    show upd S'.H a _ b = _
    rw [upd_ne z, h1]
    exact upd_ne z
theorem RelS.ew {σ : L2.St} {ρ : Dv} (h : RelS K S σ ρ) (e : Ew S S') : RelS K S' σ ρ := ⟨h.len, fun i d q => let ⟨v, h1, h2⟩ := h.at_ i d q; ⟨v, h1, h2.ew e⟩⟩
end
theorem ps_or2 {X : Cx} {st : Stmt} {t u : TS} (h : PS X st t) (g : PS X st u) : PS X st (fun D σ H => t D σ H ∨ u D σ H) := ⟨fun pins s σ H D I q => q.elim (h.run pins s σ H D I) (g.run pins s σ H D I)⟩
theorem pe_or2 {X : Cx} {e : Expr} {t u : TE} (h : PE X e t) (g : PE X e u) : PE X e (fun σ H Q => t σ H Q ∨ u σ H Q) := ⟨fun pins s σ H Q I q => q.elim (h.run pins s σ H Q I) (g.run pins s σ H Q I)⟩
section
variable {X : Cx} {K : PySem.W.Frag} {tge iter elt : Expr} {te : WX → TE} {val : Dv → Lc → D → Prop} {wi : TE → TI} {f : List (Key × D) → List D} {J : Addr → Obj → List (Key × V) → It} {tg : WX → TG} {dg : DTG} {tb : WX → TS} {db : DTS} {body : List Stmt} {pos spos : Pos}
theorem ki_sim (ki : KI K wi f J) {W : WX} {ew : EW} {S : Sta} {σ : L2.St} {ρ : Dv} {a : Addr} {o : Obj} {ks : List (Key × V)} {es : List (Key × D)} (k : Ok K S) (hv : ∀ Q : VK, Q (.ref a) S.H → te W σ S.H Q) (h : S.H a = some (.frz o (.dK ks))) (n : ¬ S.Λ a) (h1 : ks.map (·.1) = es.map (·.1)) (h2 : RpL K S.H S.Λ (ks.map (·.2)) (es.map (·.2))) :
    SimI1 K (fun W => wi (te W)) (fun _ _ L k => k (f es) (fun _ => True) L) W ew S σ ρ := fun R kk hR hk =>
  ki.go_ _ _ _ R a o ks hv h (hR S _ _ _ (.refl S) k (ki.it S a o ks es h n h1 h2) hk)
/-- for .. in a dict -/
def dForD (val : Dv → Lc → D → Prop) (f : List (Key × D) → List D) (g : DTG) (tb : DTS) : DTS := fun w D ρ L => ∃ es, val ρ L (.dK es) ∧ forD (g w) (tb w) (fun _ => True) D (f es) ρ L
theorem ds_forD (hp : PassesOwn (model X.prog X.w) X.A X.env X.xe) (hc : X.calm = true) (ki : KI K wi f J) (vx : VX X K iter te val) {iter' : Expr} (hpi : ∀ W, Takes X W → PI X tge iter' (wi (te W))) (hg : DG X K tg tge dg) (hb : DSs X K tb body db)
    (hs : ∀ x, foldedSetIterable iter' X.env x = pure x := by intro _; rfl) : DS X K (fun W D σ H => tLock (tFor (wi (te W)) (tg W) (tb W)) D σ H ∨ tFor (wi (te W)) (tg W) (tb W) D σ H) (.For tge iter' body [] pos) (dForD val f dg db) := by
  refine ⟨fun W t => ps_or2 (ps_lock (ps_for hp hc (hpi W t) (hg.pg W t) (hb.ps W t) hs)) (ps_for hp hc (hpi W t) (hg.pg W t) (hb.ps W t) hs), fun W ew S σ ρ D d I R h => ?_⟩
  obtain ⟨es, hv, h⟩ := h
  obtain ⟨v, rv, q1, q2⟩ := vx.run W S σ ρ _ I.ok I.sl hv
  cases rv with
  | @dK a ks _ n h1 h2 h3 =>
  rcases h1 with h1 | ⟨o, h1⟩
  · left
    refine ⟨a, .dK ks, h1, trivial, fun od => ?_⟩
    have e01 : Ev S (S.lk a (.frz od (.dK ks))) := ev_lk h1 trivial n
    have k1 := ok_lk (w := .frz od (.dK ks)) I.ok n e01.w
    have un : ∀ S', Ev (S.lk a (.frz od (.dK ks))) S' → Ok K S' → S'.H a = some (.frz od (.dK ks)) ∧ Ev S (S'.lk a (.dK ks)) ∧ Ok K (S'.lk a (.dK ks)) ∧ Ew S' (S'.lk a (.dK ks)) := fun S' e k => by
      obtain ⟨n', h'⟩ := e.lk (a := a) (o := od) (u := .dK ks) upd_same n
      exact ⟨h', ev_un h1 trivial n e, ok_lk k n' (ew_un h' trivial), ew_un h' trivial⟩
    refine for_sim1 hg.sim hb.sim W ew (S.lk a (.frz od (.dK ks))) σ ρ _ d (I.ev e01 k1) ⟨fun S' σ' ρ' e k s hh => ?_, fun S' v' d' e k r hh => ?_, fun S' σ' ρ' e k s hh => ?_, fun S' σ' ρ' e k s hh => ?_⟩ (ki_sim ki k1 (q2 a od _ h1 trivial) upd_same n h2 (h3.ev e01)) h
    · obtain ⟨u1, u2, u3, u4⟩ := un S' e k
      exact ⟨u1, R.nx (S'.lk a (.dK ks)) σ' ρ' u2 u3 (s.ew u4) hh⟩
    · obtain ⟨u1, u2, u3, u4⟩ := un S' e k
      exact ⟨u1, R.rt (S'.lk a (.dK ks)) v' d' u2 u3 (r.ew u4) hh⟩
    · obtain ⟨u1, u2, u3, u4⟩ := un S' e k
      exact ⟨u1, R.bk (S'.lk a (.dK ks)) σ' ρ' u2 u3 (s.ew u4) hh⟩
    · obtain ⟨u1, u2, u3, u4⟩ := un S' e k
      exact ⟨u1, R.ct (S'.lk a (.dK ks)) σ' ρ' u2 u3 (s.ew u4) hh⟩
  · right
    exact for_sim1 hg.sim hb.sim W ew S σ ρ D d I R (ki_sim ki I.ok q1 h1 n h2 h3) h
theorem v_forD {w : EW} {D0 : DEnds} {ρ : Dv} {L : Lc} {g : DTG} {t : DTS} {es : List (Key × D)} (hv : val ρ L (.dK es)) (h : forD (g w) (t w) (fun _ => True) D0 (f es) ρ L) : dForD val f g t w D0 ρ L := ⟨es, hv, h⟩
variable {ifs : List Expr} {scope : Scope} {own : List (Str × Nat)} {tt : WX → TT} {dt : DTT} {tl : WX → TE} {de : DTE}
/-- a comprehension over a dict -/
def dLcD (val : Dv → Lc → D → Prop) (f : List (Key × D) → List D) (g : DTG) (tt : DTT) (te : DTE) (vs : List Nat) : DTE := fun w ρ L q => ∃ es, val ρ L (.dK es) ∧ dLc (fun _ _ L k => k (f es) (fun _ => True) L) g tt te vs w ρ L q
theorem d_lcD (hc : X.calm = true) (hN : X.N.Nodup) (ki : KI K wi f J) (vx : VX X K iter te val) {iter' : Expr} (hpi : ∀ W, Takes X W → PI X tge iter' (wi (te W))) (ok : BlkOk X.N X.env.scope scope own) (hg : Blk X scope fun Y => DG Y K tg tge dg) (hw : GW tg (own.map (·.2))) (ht : Blk X scope fun Y => DPs Y K tt ifs dt) (he : Blk X scope fun Y => DE Y K tl elt de)
    (hs : ∀ x, foldedSetIterable iter' X.env x = pure x := by intro _; rfl) :
    DE X K (fun W σ H Q => tLockE (tLc (wi (te W)) (tg fun _ _ _ _ => False) (tt fun _ _ _ _ => False) (tl fun _ _ _ _ => False) (own.map (·.2))) σ H Q ∨ tLc (wi (te W)) (tg fun _ _ _ _ => False) (tt fun _ _ _ _ => False) (tl fun _ _ _ _ => False) (own.map (·.2)) σ H Q)
      (.ListComp elt [⟨tge, iter', ifs, 0⟩] scope pos) (dLcD val f dg dt de (own.map (·.2))) := by
  have pl : ∀ W, Takes X W → PE X (.ListComp elt [⟨tge, iter', ifs, 0⟩] scope pos) (tLc (wi (te W)) (tg fun _ _ _ _ => False) (tt fun _ _ _ _ => False) (tl fun _ _ _ _ => False) (own.map (·.2))) := fun W t =>
    pe_lc hc hN (hpi W t) ok (fun s H C cl fp => (hg s H C cl fp).pg _ takes0) (fun s H C cl fp => (ht s H C cl fp).pt _ takes0) (fun s H C cl fp => (he s H C cl fp).pe _ takes0) hs
  refine ⟨fun W t => pe_or2 (pe_lock (pl W t)) (pl W t), fun W ew S σ ρ Q q I R h => ?_⟩
  obtain ⟨es, hv, h⟩ := h
  obtain ⟨v, rv, q1, q2⟩ := vx.run W S σ ρ _ I.ok I.sl hv
  have sg := (hg {} (fun _ => none) 0 [] []).sim
  have st := (ht {} (fun _ => none) 0 [] []).sim
  have se := (he {} (fun _ => none) 0 [] []).sim
  cases rv with
  | @dK a ks _ n h1 h2 h3 =>
  rcases h1 with h1 | ⟨o, h1⟩
  · left
    refine ⟨a, .dK ks, h1, trivial, fun od => ?_⟩
    have e01 : Ev S (S.lk a (.frz od (.dK ks))) := ev_lk h1 trivial n
    have k1 := ok_lk (w := .frz od (.dK ks)) I.ok n e01.w
    refine sim_lc1 sg hw st se W ew (S.lk a (.frz od (.dK ks))) σ ρ _ q (I.ev e01 k1) (fun S' v' d' e k r hh => ?_) (ki_sim ki k1 (q2 a od _ h1 trivial) upd_same n h2 (h3.ev e01)) h
    obtain ⟨n', h'⟩ := e.lk (a := a) (o := od) (u := .dK ks) upd_same n
    exact ⟨h', R (S'.lk a (.dK ks)) v' d' (ev_un h1 trivial n e) (ok_lk k n' (ew_un h' trivial)) (r.ew (ew_un h' trivial)) hh⟩
  · right
    exact sim_lc1 sg hw st se W ew S σ ρ Q q I R (ki_sim ki I.ok q1 h1 n h2 h3) h
theorem v_lcD {w : EW} {ρ : Dv} {L : Lc} {q : DQ} {g : DTG} {vs : List Nat} {es : List (Key × D)} (hv : val ρ L (.dK es)) (h : lcD (g noW) (dt noW) (de noW) (fun _ => True) (dwipe ρ vs) (fun acc L2 => q (.lst acc) L2) (f es) [] L) : dLcD val f g dt de vs w ρ L q := ⟨es, hv, h⟩
end
end Ed

set_option Elab.async false
set_option linter.all false
set_option maxRecDepth 100000
set_option maxHeartbeats 2000000
/-! list.count of data. -/
namespace Ed
open PySem PySem.Spec PyProof.Rows L2 Dz
def rCountD (K : PySem.W.Frag) : V → List V → Hp → VK → Prop := fun x xs H Q => ∃ (a : Addr) (y : V) (d : PyData) (ds : List PyData), x = V.ref a ∧ xs = [y] ∧ Dp K H (V.ref a) (.list ds) ∧ Dp K H y d ∧
  SeqAt.shaped (.list ds) = true ∧ SeqAt.shaped d = true ∧ Q (.int ((ds.countP fun z => PyData.eqv z d : Nat))) H
theorem mt_countD {X : Cx} {K : PySem.W.Frag} (hK : X.K = K) (hu : X.A.units + 65 < cLine) : MtR X "list.count" (rCountD K) := by
  subst hK
  intro pins s σ H x xs v us Q I rx rxs h
  obtain ⟨a, y, d, ds, rfl, rfl, hl, hy, sl, sd, q⟩ := h
  cases rx
  cases rxs with
  | cons ry rt =>
    rename_i uy ut
    cases rt
    obtain ⟨bs, r1⟩ := Dp.reads I d y uy hy ry
    have hxs : PyData.canLayAll0 ds = true := SeqAt.canLay_of_shaped sl
    have hroom : X.A.units + 1 + min (PyData.depthAll ds) d.depth < cLine := room_in_shaped sd hu
    cases hl with
    | lst hs ha =>
      obtain ⟨its, rv, ⟨⟨cls, dd, data, sls⟩, n, ho, hc, hdn, hdt⟩, hlen⟩ := I.list hs
      simp only at hc hdt
      subst hc hdt
      obtain ⟨as, h4⟩ := Dp.readsAll I ds _ its ha rv
      have hmap : its.map (SeqAt.readOf s.heap) = ds := SeqAt.readsAll_map ds its as hxs h4
      refine call_meets PySem.F.slot_list_count ⟨_, ho, rfl⟩ PySem.F.entry_list_count (PySem.F.args_list_count_2 _ _)
        (SeqAt.list_countAt a its.toArray n dd sls uy (fun u => PyData.eqv (SeqAt.readOf s.heap u) d)) ⟨ho, SeqAt.items_eqAt (vs := its.toArray) (show ReadsAll s.heap its.toArray.toList ds as from h4) r1 hxs (SeqAt.canLay_of_shaped sd) hroom, ?_⟩
      have ec : its.toArray.toList.countP (fun u => PyData.eqv (SeqAt.readOf s.heap u) d) = ds.countP fun z => PyData.eqv z d := by
        rw [← hmap, List.countP_map]; rfl
      refine ⟨.int ((ds.countP fun z => PyData.eqv z d : Nat)), H, I.tok _, ⟨s.toks, ?_⟩, q⟩
      show Value.int ((its.toArray.toList.countP (fun u => PyData.eqv (SeqAt.readOf s.heap u) d) : Nat) : Int) s.toks = Value.int ((ds.countP fun z => PyData.eqv z d : Nat) : Int) s.toks
      rw [ec]
def countD : DRM := fun x xs L q => ∃ ds y d ps, vLst L x = some ds ∧ xs = [y] ∧ PyRL L ds ps ∧ PyR L y d ∧ SeqAt.shaped (.list ps) = true ∧ SeqAt.shaped d = true ∧ q (.int ((ps.countP fun z => PyData.eqv z d : Nat))) L
theorem sim_countD {K : PySem.W.Frag} : SimRM K "list" (rCountD K) countD := by
  rintro S S2 x a xs as Q q e k k2 r rs R ⟨ds, y, d, ps, h1, rfl, h2, h3, h4, h5, h⟩
  obtain ⟨w, rfl, rw'⟩ := vals1R rs
  have r2 := r.ev e
  obtain ⟨b, zs, rfl, h6, h7⟩ := vLst_ok k2 r2 h1
  exact ⟨b, w, d, ps, rfl, rfl, .lst (.of h6) (PyRL.dp k2 h2 h7), h3.dp k2 rw', h4, h5, R S2 _ _ (.refl S2) k2 (.int _) h⟩
theorem v_get2 {o y u : DTE} {w : EW} {ρ : Dv} {L : Lc} {q : DQ} (h : o w ρ L fun x L1 => isDD L1 x ∧ y w ρ L1 fun z L2 => u w ρ L2 fun d L3 => ∃ r, DGetD L3 x z r ∧ q (r.getD d) L3) : dGet2 o y u w ρ L q := h
end Ed

set_option Elab.async false
set_option linter.all false
set_option maxRecDepth 100000
set_option maxHeartbeats 2000000
/-! Walks along a list or a tuple; dicts' puts; texts told apart in lists. -/
namespace Ed
open PySem PySem.Spec PyProof.Rows L2 Dz
section
variable {X : Cx} {K : PySem.W.Frag} {tge a : Expr} {ta : WX → TE} {da : DTE} {wi wj : WX → TI} {di dj : DTI}
def diAny (a : DTE) : DTI := fun w ρ L k => diSeq a w ρ L k ∨ diTup a w ρ L k
theorem DI.or (h : DI X K wi tge a di) (g : DI X K wj tge a dj) : DI X K (fun W σ H R => wi W σ H R ∨ wj W σ H R) tge a (fun w ρ L k => di w ρ L k ∨ dj w ρ L k) := by
  refine ⟨fun W t => ⟨fun pins s σ H R I q => ?_⟩, fun W ew S σ ρ R k I RR q => ?_⟩
  · rcases q with q | q
    · exact (h.pi W t).run pins s σ H R I q
    · exact (g.pi W t).run pins s σ H R I q
  · rcases q with q | q
    · exact .inl (h.sim W ew S σ ρ R k I RR q)
    · exact .inr (g.sim W ew S σ ρ R k I RR q)
theorem di_any (hK : X.K = K) (ha : DE X K ta a da) : DI X K (fun W σ H R => iList K (ta W) σ H R ∨ iTup K (ta W) σ H R) tge a (diAny da) := (di_seq hK ha).or (di_tup hK ha)
end
section
variable {L : Lc} {x y : D} {q : DQ} {w : EW} {ρ : Dv} {da : DTE}
def isSeq : D → Bool
  | .lst _ => true
  | .tup _ => true
  | _ => false
theorem seq_of (h : isSeq x = true) : ∃ ds, x = .lst ds ∨ x = .tup ds := by
  cases x <;> first | exact ⟨_, .inl rfl⟩ | exact ⟨_, .inr rfl⟩ | cases h
theorem v_isi2 (ok : okD x = true) (hq : q (.bl (isSeq x)) L) : isi2D [x, .tup [.ty "list", .ty "tuple"]] L q := by
  cases x with
  | non => exact ⟨_, _, _, "NoneType", false, false, rfl, rfl, by decide +kernel, by decide +kernel, hq⟩
  | bl b => exact ⟨_, _, _, "bool", false, false, rfl, rfl, by decide +kernel, by decide +kernel, hq⟩
  | int b => exact ⟨_, _, _, "int", false, false, rfl, rfl, by decide +kernel, by decide +kernel, hq⟩
  | str b => exact ⟨_, _, _, "str", false, false, rfl, rfl, by decide +kernel, by decide +kernel, hq⟩
  | lst ds => exact ⟨_, _, _, "list", true, false, rfl, rfl, by decide +kernel, by decide +kernel, hq⟩
  | tup ds => exact ⟨_, _, _, "tuple", false, true, rfl, rfl, by decide +kernel, by decide +kernel, hq⟩
  | dK es => exact ⟨_, _, _, "dict", false, false, rfl, rfl, by decide +kernel, by decide +kernel, hq⟩
  | _ => rw [okD.eq_def] at ok; cases ok
/-- a list or a tuple of so many things -/
def lenB (x : D) (lo hi : Int) : Bool := match x with
  | .lst ds => decide (lo ≤ (ds.length : Int)) && decide ((ds.length : Int) ≤ hi)
  | .tup ds => decide (lo ≤ (ds.length : Int)) && decide ((ds.length : Int) ≤ hi)
  | _ => false
theorem len_no {lo hi : Int} (h : isSeq x = false) : lenB x lo hi = false := by cases x <;> first | rfl | cases h
theorem any_mem {z : Str} {zs : List Str} : (zs.any fun y => decide (y = z)) = decide (z ∈ zs) := by
  induction zs with
  | nil => rfl
  | cons y zs ih =>
    rw [List.any_cons, ih]
    by_cases h : y = z
    · rw [decide_eq_true h, Bool.true_or]; exact (decide_eq_true (by rw [h]; exact List.mem_cons_self)).symm
    · rw [decide_eq_false h, Bool.false_or]
      by_cases g : z ∈ zs
      · rw [decide_eq_true g]; exact (decide_eq_true (List.mem_cons_of_mem _ g)).symm
      · rw [decide_eq_false g]
        exact (decide_eq_false fun e => by
          rcases List.mem_cons.mp e with e | e
          · exact h e.symm
          · exact g e).symm
theorem inV_mem {z : Str} {zs : List Str} : inV (.str z) (zs.map V.str) = decide (z ∈ zs) := by
  rw [inV_strs (fun y => decide (y = z)) (fun y => by
    show (y == z) = _
    by_cases e : y = z
    · rw [decide_eq_true e, e]; simp
    · rw [decide_eq_false e]; exact beq_eq_false_iff_ne.mpr e), any_mem]
theorem v_ninZ {z : Str} {zs : List Str} (hv : vSeq L y = some (zs.map .str)) (hq : q (.bl (!decide (z ∈ zs))) L) : inD true (.str z) y L q :=
  .inl ⟨_, .str z, _, hv, rfl, scA_strs, by
    show q (.bl (if true = true then !inV _ _ else _)) L
    rw [if_pos rfl, inV_mem]; exact hq⟩
theorem v_inZ {z : Str} {zs : List Str} (hv : vSeq L y = some (zs.map .str)) (hq : q (.bl (decide (z ∈ zs))) L) : inD false (.str z) y L q :=
  .inl ⟨_, .str z, _, hv, rfl, scA_strs, by
    show q (.bl (if false = true then _ else inV _ _)) L
    rw [if_neg (by decide), inV_mem]; exact hq⟩
theorem isS_any {z : Str} {zs : List Str} : (zs.any fun y => isS y (.str z)) = decide (z ∈ zs) := by
  rw [← any_mem]
  congr 1
  funext y
  show decide (z = y) = decide (y = z)
  by_cases e : y = z
  · rw [decide_eq_true e, decide_eq_true e.symm]
  · rw [decide_eq_false e, decide_eq_false fun z => e z.symm]
theorem v_popAt {a : Addr} {ds : List D} {i : Int} (h : L a = some (.lst ds)) (h0 : 0 ≤ i) (h1 : i < ds.length) (hs : ds.length ≤ 1000000) (k : ∀ d, d ∈ ds → q d (updL L a (.lst (ds.eraseIdx i.toNat)))) : popAtD (.ref a) [.int i] L q := by
  have hi : i.toNat < ds.length := by omega
  refine ⟨a, ds, i, i.toNat, ds[i.toNat], rfl, rfl, h, by omega, by omega, ?_, List.getElem?_eq_getElem hi, k _ (List.getElem_mem hi)⟩
  unfold seqIndex?
  have e : (if i < 0 then i + (ds.length : Int) else i) = i := if_neg (by omega)
  rw [e]
  simp [h0, h1]
theorem v_app {a : Addr} {ds : List D} {d : D} (h : L a = some (.lst ds)) (hl : ds.length < 1000) (k : q .non (updL L a (.lst (ds ++ [d])))) : appendD (.ref a) [d] L q :=
  ⟨a, ds, d, rfl, rfl, h, Nat.lt_of_lt_of_le hl (sz_lt (Nat.le_refl _)), k⟩
theorem v_modG {i j : Int} (hj : 0 < j) (h : ∀ r, 0 ≤ r → r < j → q (.int r) L) : modD (.int i) (.int j) L q := v_mod hj (h _ (Int.emod_nonneg _ (by omega)) (Int.emod_lt_of_pos _ hj))
theorem take_numC {x m k c : Int} (h0 : 0 ≤ x) (h1 : x < 2147483647) (m0 : 0 ≤ m) (m1 : m ≤ 1000000) (k0 : 0 ≤ k) (k1 : k ≤ 1000000) (c0 : 0 ≤ c) (c1 : c ≤ 1000000) : (x + m * k * k + c).natAbs < 2 ^ 64 := by
  have h2 : m * k ≤ 1000000 * 1000000 := Int.mul_le_mul m1 k1 k0 (by decide)
  have h3 : 0 ≤ m * k := Int.mul_nonneg m0 k0
  have h4 : m * k * k ≤ (1000000 * 1000000) * 1000000 := Int.mul_le_mul h2 k1 k0 (by decide)
  have h5 : 0 ≤ m * k * k := Int.mul_nonneg h3 k0
  omega
end
section
variable {κ : Type} [DecidableEq κ] {es : List (κ × D)} {k k' : κ} {v : D}
theorem valD_cons {e : κ × D} : valD (e :: es) k' = if e.1 = k' then some e.2 else valD es k' := by
  unfold valD
  rw [List.find?_cons]
  by_cases h : e.1 = k'
  · rw [decide_eq_true h, if_pos h]; rfl
  · rw [decide_eq_false h, if_neg h]
theorem valD_map : valD (es.map fun e => if e.1 = k then (e.1, v) else e) k' = if k' = k then (valD es k').map fun _ => v else valD es k' := by
  induction es with
  | nil => simp [valD]
  | cons e es ih =>
    rw [List.map_cons, valD_cons, valD_cons, ih]
    by_cases h : e.1 = k
    · by_cases g : k' = k
      · simp [h, g]
      · have : ¬ k = k' := fun z => g z.symm
        simp [h, g, this]
    · by_cases g : k' = k
      · have : ¬ e.1 = k' := fun z => h (z.trans g)
        simp [h, g]
      · simp [h, g]
theorem valD_none (h : (es.any fun e => decide (e.1 = k)) = false) : valD es k = none := by
  unfold valD
  rw [List.find?_eq_none.mpr fun e he => by
    have := List.any_eq_false.mp h e he
    simpa using this]
  rfl
theorem valD_some (h : (es.any fun e => decide (e.1 = k)) = true) : ∃ d, valD es k = some d := by
  unfold valD
  cases g : es.find? fun e => decide (e.1 = k) with
  | some e => exact ⟨_, rfl⟩
  | none =>
    obtain ⟨e, he, e2⟩ := List.any_eq_true.mp h
    exact absurd e2 (List.find?_eq_none.mp g e he)
theorem valD_app : valD (es ++ [(k, v)]) k' = match valD es k' with | some d => some d | none => if k = k' then some v else none := by
  induction es with
  | nil => rw [List.nil_append, valD_cons]; rfl
  | cons e es ih =>
    rw [List.cons_append, valD_cons, valD_cons, ih]
    by_cases h : e.1 = k'
    · rw [if_pos h, if_pos h]
    · rw [if_neg h, if_neg h]
theorem valD_put : valD (putD es k v) k' = if k' = k then some v else valD es k' := by
  unfold putD
  cases h : es.any fun e => decide (e.1 = k) with
  | true =>
    rw [if_pos rfl, valD_map]
    by_cases g : k' = k
    · subst g
      obtain ⟨d, hd⟩ := valD_some h
      rw [if_pos rfl, if_pos rfl, hd]; rfl
    · rw [if_neg g, if_neg g]
  | false =>
    rw [if_neg (by decide), valD_app]
    by_cases g : k' = k
    · subst g
      rw [valD_none h, if_pos rfl]
      first | done | simp
    · rw [if_neg g, if_neg fun z => g z.symm]
      cases valD es k' <;> rfl
theorem mem_put {e : κ × D} (h : e ∈ putD es k v) : e = (k, v) ∨ (e ∈ es ∧ e.1 ≠ k) := by
  unfold putD at h
  cases g : es.any fun e => decide (e.1 = k) with
  | true =>
    rw [g, if_pos rfl] at h
    obtain ⟨f, hf, he⟩ := List.mem_map.mp h
    by_cases c : f.1 = k
    · rw [if_pos c] at he; left; rw [← he, c]
    · rw [if_neg c] at he; right; rw [← he]; exact ⟨hf, c⟩
  | false =>
    rw [g, if_neg (by decide)] at h
    rcases List.mem_append.mp h with h | h
    · right
      have := List.any_eq_false.mp g e h
      exact ⟨h, by simpa using this⟩
    · left; exact List.mem_singleton.mp h
theorem len_put : (putD es k v).length ≤ es.length + 1 := by
  unfold putD
  split
  · rw [List.length_map]; omega
  · rw [List.length_append]; exact Nat.le_refl _
theorem valD_mem {d : D} (h : valD es k = some d) : (k, d) ∈ es := by
  unfold valD at h
  cases g : es.find? fun e => decide (e.1 = k) with
  | none => rw [g] at h; cases h
  | some e =>
    rw [g] at h
    cases h
    have h1 := List.find?_some g
    have h2 := List.mem_of_find?_eq_some g
    have : e.1 = k := of_decide_eq_true h1
    rw [← this]; exact h2
end
end Ed

set_option Elab.async false
set_option linter.all false
set_option maxRecDepth 100000
set_option maxHeartbeats 2000000
/-! Walks along dicts, by one look. -/
namespace Ed
open PySem PySem.Spec PyProof.Rows L2 Dz
/-- what is walked of a dict that is looked at -/
structure WD (X : Cx) (K : PySem.W.Frag) (tge iter' : Expr) (wi : TE → TI) (te : WX → TE) (val : Dv → Lc → D → Prop) : Prop where
  vx : ∃ iter, VX X K iter te val
  pi : ∀ W, Takes X W → PI X tge iter' (wi (te W))
section
variable {X : Cx} {K : PySem.W.Frag} {tge iter elt iter' : Expr} {te : WX → TE} {val : Dv → Lc → D → Prop} {wi : TE → TI} {f : List (Key × D) → List D} {J : Addr → Obj → List (Key × V) → It} {tg : WX → TG} {dg : DTG} {tb : WX → TS} {db : DTS} {body : List Stmt} {pos spos apos cpos tpos : Pos} {elts : List Expr} {kk : Nat}
theorem wd_keys (v : VX X K iter te val) : WD X K tge iter iKeys te val := ⟨⟨_, v⟩, fun W t => pi_keys (v.pe W t)⟩
theorem wd_vals (v : VX X K iter te val) (hbase : attributeBase iter "values" X.env (eval iter X.env) = eval iter X.env := by rfl) (hline : (apos.endLine == cpos.line) = true := by rfl) : WD X K tge (.Call (.Attribute iter "values" apos) [] [] cpos) iVals te val := ⟨⟨_, v⟩, fun W t => pi_values (v.pe W t) hbase hline⟩
theorem wd_items (v : VX X K iter te val) (hbase : attributeBase iter "items" X.env (eval iter X.env) = eval iter X.env := by rfl) (hline : (apos.endLine == cpos.line) = true := by rfl) : WD X K (.Tuple elts kk tpos) (.Call (.Attribute iter "items" apos) [] [] cpos) iItems te val := ⟨⟨_, v⟩, fun W t => pi_items (v.pe W t) hbase hline⟩
theorem ds_forD2 (hp : PassesOwn (model X.prog X.w) X.A X.env X.xe) (hc : X.calm = true) (ki : KI K wi f J) (wd : WD X K tge iter' wi te val) (hg : DG X K tg tge dg) (hb : DSs X K tb body db)
    (hs : ∀ x, foldedSetIterable iter' X.env x = pure x := by intro _; rfl) : DS X K (fun W D σ H => tLock (tFor (wi (te W)) (tg W) (tb W)) D σ H ∨ tFor (wi (te W)) (tg W) (tb W) D σ H) (.For tge iter' body [] pos) (dForD val f dg db) := by
  obtain ⟨⟨_, vx⟩, hpi⟩ := wd
  exact ds_forD hp hc ki vx hpi hg hb hs
variable {ifs : List Expr} {scope : Scope} {own : List (Str × Nat)} {tt : WX → TT} {dt : DTT} {tl : WX → TE} {de : DTE}
theorem d_lcD2 (hc : X.calm = true) (hN : X.N.Nodup) (ki : KI K wi f J) (wd : WD X K tge iter' wi te val) (ok : BlkOk X.N X.env.scope scope own) (hg : Blk X scope fun Y => DG Y K tg tge dg) (hw : GW tg (own.map (·.2))) (ht : Blk X scope fun Y => DPs Y K tt ifs dt) (he : Blk X scope fun Y => DE Y K tl elt de)
    (hs : ∀ x, foldedSetIterable iter' X.env x = pure x := by intro _; rfl) :
    DE X K (fun W σ H Q => tLockE (tLc (wi (te W)) (tg fun _ _ _ _ => False) (tt fun _ _ _ _ => False) (tl fun _ _ _ _ => False) (own.map (·.2))) σ H Q ∨ tLc (wi (te W)) (tg fun _ _ _ _ => False) (tt fun _ _ _ _ => False) (tl fun _ _ _ _ => False) (own.map (·.2)) σ H Q)
      (.ListComp elt [⟨tge, iter', ifs, 0⟩] scope pos) (dLcD val f dg dt de (own.map (·.2))) := by
  obtain ⟨⟨_, vx⟩, hpi⟩ := wd
  exact d_lcD hc hN ki vx hpi ok hg hw ht he hs
end
end Ed

set_option Elab.async false
set_option linter.all false
set_option maxRecDepth 100000
set_option maxHeartbeats 2000000
/-! Data with cells in it: what it shows as it stands now, by cells of a set. -/
namespace Ed
open PySem PySem.Spec PyProof.Rows L2 Dz
mutual
/-- x shows y, where the cells in it are of P -/
inductive Rv (L : Lc) (P : Addr → Prop) : D → D → Prop
  | non : Rv L P .non .non
  | bl (b : Bool) : Rv L P (.bl b) (.bl b)
  | int (i : Int) : Rv L P (.int i) (.int i)
  | str (x : Str) : Rv L P (.str x) (.str x)
  | lst {xs ys : List D} : RvL L P xs ys → Rv L P (.lst xs) (.lst ys)
  | tup {xs ys : List D} : RvL L P xs ys → Rv L P (.tup xs) (.tup ys)
  | dK {es fs : List (Key × D)} : RvK L P es fs → Rv L P (.dK es) (.dK fs)
  | ref {a : Addr} {xs ys : List D} : P a → L a = some (.lst xs) → RvL L P xs ys → Rv L P (.ref a) (.lst ys)
  | refK {a : Addr} {es fs : List (Key × D)} : P a → L a = some (.dK es) → RvK L P es fs → Rv L P (.ref a) (.dK fs)
inductive RvL (L : Lc) (P : Addr → Prop) : List D → List D → Prop
  | nil : RvL L P [] []
  | cons {x y : D} {xs ys : List D} : Rv L P x y → RvL L P xs ys → RvL L P (x :: xs) (y :: ys)
inductive RvK (L : Lc) (P : Addr → Prop) : List (Key × D) → List (Key × D) → Prop
  | nil : RvK L P [] []
  | cons {k : Key} {x y : D} {es fs : List (Key × D)} : Rv L P x y → RvK L P es fs → RvK L P ((k, x) :: es) ((k, y) :: fs)
end
mutual
/-- what has no cells shows itself -/
theorem rv_self (L : Lc) (P : Addr → Prop) : ∀ d, okD d = true → Rv L P d d
  | .non, _ => .non
  | .bl b, _ => .bl b
  | .int i, _ => .int i
  | .str x, _ => .str x
  | .lst ds, h => .lst (rvL_self L P ds (by rw [okD.eq_def] at h; exact h))
  | .tup ds, h => .tup (rvL_self L P ds (by rw [okD.eq_def] at h; exact h))
  | .ctup _, h => by rw [okD.eq_def] at h; cases h
  | .dK es, h => .dK (rvK_self L P es (by rw [okD.eq_def] at h; exact h))
  | .ty _, h => by rw [okD.eq_def] at h; cases h
  | .dT _, h => by rw [okD.eq_def] at h; cases h
  | .ins _ _, h => by rw [okD.eq_def] at h; cases h
  | .err _ _, h => by rw [okD.eq_def] at h; cases h
  | .exo _ _ _ _, h => by rw [okD.eq_def] at h; cases h
  | .scr _, h => by rw [okD.eq_def] at h; cases h
  | .ref _, h => by rw [okD.eq_def] at h; cases h
theorem rvL_self (L : Lc) (P : Addr → Prop) : ∀ ds, okDs ds = true → RvL L P ds ds
  | [], _ => .nil
  | d :: ds, h => by
    rw [okDs.eq_def] at h
    obtain ⟨h1, h2⟩ := Bool.and_eq_true_iff.mp h
    exact .cons (rv_self L P d h1) (rvL_self L P ds h2)
theorem rvK_self (L : Lc) (P : Addr → Prop) : ∀ es, okDk es = true → RvK L P es es
  | [], _ => .nil
  | (.inl _, _) :: _, h => by rw [okDk.eq_def] at h; cases h
  | (.inr x, d) :: es, h => by
    rw [okDk.eq_def] at h
    obtain ⟨h1, h2⟩ := Bool.and_eq_true_iff.mp h
    obtain ⟨_, h3⟩ := Bool.and_eq_true_iff.mp h1
    exact .cons (rv_self L P d h3) (rvK_self L P es h2)
end
section
variable {L L' : Lc} {P P' : Addr → Prop}
mutual
theorem Rv.py : ∀ {x y : D}, Rv L P x y → okD y = true → PyQ L x (pyOf y)
  | _, _, .non, _ => by rw [pyOf.eq_def]; exact .non
  | _, _, .bl b, _ => by rw [pyOf.eq_def]; exact .bl b
  | _, _, .int i, _ => by rw [pyOf.eq_def]; exact .int i
  | _, _, .str x, _ => by rw [pyOf.eq_def]; exact .str x
  | _, _, .lst h, o => by rw [pyOf.eq_def]; exact .lst (RvL.py h (by rw [okD.eq_def] at o; exact o))
  | _, _, .tup h, o => by rw [pyOf.eq_def]; exact .tup (RvL.py h (by rw [okD.eq_def] at o; exact o))
  | _, _, .dK h, o => by rw [pyOf.eq_def]; exact .dK (RvK.py h (by rw [okD.eq_def] at o; exact o))
  | _, _, .ref _ e h, o => by rw [pyOf.eq_def]; exact .ref e (RvL.py h (by rw [okD.eq_def] at o; exact o))
  | _, _, .refK _ e h, o => by rw [pyOf.eq_def]; exact .refK e (RvK.py h (by rw [okD.eq_def] at o; exact o))
theorem RvL.py : ∀ {xs ys : List D}, RvL L P xs ys → okDs ys = true → PyQL L xs (pyOfL ys)
  | _, _, .nil, _ => by rw [pyOfL.eq_def]; exact .nil
  | _, _, .cons h t, o => by
    rw [okDs.eq_def] at o
    obtain ⟨h1, h2⟩ := Bool.and_eq_true_iff.mp o
    rw [pyOfL.eq_def]
    exact .cons (Rv.py h h1) (RvL.py t h2)
theorem RvK.py : ∀ {es fs : List (Key × D)}, RvK L P es fs → okDk fs = true → PyQK L es (pyOfK fs)
  | _, _, .nil, _ => by rw [pyOfK.eq_def]; exact .nil
  | _, _, .cons (k := .inl _) _ _, o => by rw [okDk.eq_def] at o; cases o
  | _, _, .cons (k := .inr x) h t, o => by
    rw [okDk.eq_def] at o
    obtain ⟨h1, h2⟩ := Bool.and_eq_true_iff.mp o
    obtain ⟨_, h3⟩ := Bool.and_eq_true_iff.mp h1
    rw [pyOfK.eq_def]
    exact .cons (Rv.py h h3) (RvK.py t h2)
end
mutual
/-- only the cells of P count; more of them may be allowed -/
theorem Rv.agree (e : ∀ a, P a → P' a ∧ L' a = L a) : ∀ {x y : D}, Rv L P x y → Rv L' P' x y
  | _, _, .non => .non
  | _, _, .bl b => .bl b
  | _, _, .int i => .int i
  | _, _, .str x => .str x
  | _, _, .lst h => .lst (RvL.agree e h)
  | _, _, .tup h => .tup (RvL.agree e h)
  | _, _, .dK h => .dK (RvK.agree e h)
  | _, _, .ref p g h => .ref (e _ p).1 ((e _ p).2.trans g) (RvL.agree e h)
  | _, _, .refK p g h => .refK (e _ p).1 ((e _ p).2.trans g) (RvK.agree e h)
theorem RvL.agree (e : ∀ a, P a → P' a ∧ L' a = L a) : ∀ {xs ys : List D}, RvL L P xs ys → RvL L' P' xs ys
  | _, _, .nil => .nil
  | _, _, .cons h t => .cons (Rv.agree e h) (RvL.agree e t)
theorem RvK.agree (e : ∀ a, P a → P' a ∧ L' a = L a) : ∀ {es fs : List (Key × D)}, RvK L P es fs → RvK L' P' es fs
  | _, _, .nil => .nil
  | _, _, .cons h t => .cons (Rv.agree e h) (RvK.agree e t)
end
variable {x y : D} {xs ys us vs : List D} {q : DQ} {a : Addr} {c : Cell}
theorem Rv.put (h : Rv L P x y) (n : ¬ P a) : Rv (updL L a c) P x y := h.agree fun b p => ⟨p, updL_ne (by intro z; rw [z] at p; exact n p)⟩
theorem Rv.more (h : Rv L P x y) (e : ∀ a, P a → P' a) : Rv L P' x y := h.agree fun b p => ⟨e b p, rfl⟩
theorem RvL.put (h : RvL L P xs ys) (n : ¬ P a) : RvL (updL L a c) P xs ys := h.agree fun b p => ⟨p, updL_ne (by intro z; rw [z] at p; exact n p)⟩
theorem RvL.more (h : RvL L P xs ys) (e : ∀ a, P a → P' a) : RvL L P' xs ys := h.agree fun b p => ⟨e b p, rfl⟩
theorem RvL.len (h : RvL L P xs ys) : xs.length = ys.length := by
  induction ys generalizing xs with
  | nil => cases h; rfl
  | cons y ys ih => cases h with | cons h1 h2 => rw [List.length_cons, List.length_cons, ih h2]
theorem RvL.at_ (h : RvL L P xs ys) {i : Nat} (hx : xs[i]? = some x) : ∃ y, ys[i]? = some y ∧ Rv L P x y := by
  induction i generalizing xs ys with
  | zero => cases h with
    | nil => cases hx
    | cons h1 h2 => cases hx; exact ⟨_, rfl, h1⟩
  | succ i ih => cases h with
    | nil => cases hx
    | cons h1 h2 => exact ih h2 hx
theorem RvL.app (h : RvL L P xs ys) (g : RvL L P us vs) : RvL L P (xs ++ us) (ys ++ vs) := by
  induction ys generalizing xs with
  | nil => cases h; exact g
  | cons y ys ih => cases h with | cons h1 h2 => exact .cons h1 (ih h2)
theorem RvL.take (h : RvL L P xs ys) : ∀ n, RvL L P (xs.take n) (ys.take n) := by
  induction ys generalizing xs with
  | nil => intro n; cases h; rw [List.take_nil]; exact .nil
  | cons y ys ih =>
    cases h with
    | cons h1 h2 =>
      intro n
      cases n with
      | zero => exact .nil
      | succ n => exact .cons h1 (ih h2 n)
theorem RvL.drop (h : RvL L P xs ys) : ∀ n, RvL L P (xs.drop n) (ys.drop n) := by
  induction ys generalizing xs with
  | nil => intro n; cases h; rw [List.drop_nil]; exact .nil
  | cons y ys ih =>
    cases h with
    | cons h1 h2 =>
      intro n
      cases n with
      | zero => exact .cons h1 h2
      | succ n => exact ih h2 n
theorem RvL.cut {lo hi : Option Int} (h : RvL L P xs ys) : RvL L P (cutD xs lo hi) (cutD ys lo hi) := by
  unfold cutD
  rw [h.len]
  exact (h.drop _).take _
theorem RvL.set (h : RvL L P xs ys) (r : Rv L P x y) : ∀ n, RvL L P (xs.set n x) (ys.set n y) := by
  induction ys generalizing xs with
  | nil => intro n; cases h; exact .nil
  | cons y ys ih =>
    cases h with
    | cons h1 h2 =>
      intro n
      cases n with
      | zero => exact .cons r h2
      | succ n => exact .cons h1 (ih h2 n)
theorem Rv.kind (h : Rv L P x y) : kindD L x = kindD L y := by
  cases h with
  | ref _ e _ => simp [kindD, e]
  | refK _ e _ => simp [kindD, e]
  | _ => rfl
/-- what is a list -/
theorem Rv.isl (h : Rv L P x (.lst ys)) : ∃ xs, vLst L x = some xs ∧ vSeq L x = some xs ∧ vRd L x = some xs ∧ RvL L P xs ys := by
  cases h with
  | lst h => exact ⟨_, rfl, rfl, rfl, h⟩
  | ref _ e h => exact ⟨_, vl_ref e, vs_ref e, vr_ref e, h⟩
theorem Rv.ist (h : Rv L P x (.tup ys)) : ∃ xs, x = .tup xs ∧ RvL L P xs ys := by
  cases h with
  | tup h => exact ⟨_, rfl, h⟩
theorem Rv.isstr {z : Str} (h : Rv L P x (.str z)) : x = .str z := by cases h; rfl
theorem Rv.isint {i : Int} (h : Rv L P x (.int i)) : x = .int i := by cases h; rfl
theorem Rv.isbl {b : Bool} (h : Rv L P x (.bl b)) : x = .bl b := by cases h; rfl
theorem Rv.isnon (h : Rv L P x .non) : x = .non := by cases h; rfl
theorem Rv.seq (h : Rv L P x y) (s : isSeq y = true) : ∃ xs ys, vSeq L x = some xs ∧ (y = .lst ys ∨ y = .tup ys) ∧ RvL L P xs ys := by
  obtain ⟨ys, rfl | rfl⟩ := seq_of s
  · obtain ⟨xs, _, h2, _, h4⟩ := h.isl; exact ⟨xs, ys, h2, .inl rfl, h4⟩
  · obtain ⟨xs, rfl, h2⟩ := h.ist; exact ⟨xs, ys, rfl, .inr rfl, h2⟩
theorem isi_kind {T : D} (e : kindD L x = kindD L y) (h : isiD [y, T] L q) : isiD [x, T] L q := by
  obtain ⟨x', T', s, b, e1, h1, h2, h3⟩ := h
  cases e1
  exact ⟨x, T', s, b, rfl, e.trans h1, h2, h3⟩
theorem isi2_kind {T : D} (e : kindD L x = kindD L y) (h : isi2D [y, T] L q) : isi2D [x, T] L q := by
  obtain ⟨x', T', U, s, b, c, e1, h1, h2, h3, h4⟩ := h
  cases e1
  exact ⟨x, T', U, s, b, c, rfl, e.trans h1, h2, h3, h4⟩
theorem w_isiT (r : Rv L P x y) (ok : okD y = true) (hq : q (.bl (isTup y)) L) : isiD [x, .ty "tuple"] L q := isi_kind r.kind (v_isiT ok hq)
theorem w_isiL (r : Rv L P x y) (ok : okD y = true) (hq : q (.bl (isLst y)) L) : isiD [x, .ty "list"] L q := isi_kind r.kind (v_isiL ok hq)
theorem w_isi2 (r : Rv L P x y) (ok : okD y = true) (hq : q (.bl (isSeq y)) L) : isi2D [x, .tup [.ty "list", .ty "tuple"]] L q := isi2_kind r.kind (v_isi2 ok hq)
theorem w_repr {B k : Nat} (r : Rv L P x y) (h : Th y B k) (hq : q (.str (pyOf y).shown) L) (hk : k ≤ 60 := by omega) (hB : B ≤ 16777216 := by omega) : reprQD [x] L q :=
  v_reprQ (r.py h.ok) h.sq hq hk hB
theorem w_len (r : RvL L P xs ys) (h : vSeq L x = some xs) (hq : q (.int ys.length) L) : lenD [x] L q := v_lenL h (by rw [r.len]; exact hq)
end
end Ed

set_option Elab.async false
set_option linter.all false
set_option maxRecDepth 100000
set_option maxHeartbeats 2000000
/-! items() of a dict by tuples, walked. -/
namespace L2
open PySem PySem.Spec PyProof.Rows Dz
section
variable {X : Cx} {pins : List (Addr × Obj)} {σ : St} {H : Hp} {s : Shared} {d : Addr} {o : Obj}
theorem frzTv {kvs : List (List Key × V)} (I : Inv X pins σ H s) (h : H d = some (.frz o (.dT kvs))) :
    (d == sysModules) = false ∧ s.heap.get? d = some o ∧ o.ExactDict ∧ ∃ (es : Array DictEntry) (ep : Nat), o.data = .dict es ep ∧ es.size = kvs.length ∧
      ∀ (i : Nat) (k : List Key) (v : V), kvs[i]? = some (k, v) → ∃ (en : DictEntry) (q : Addr), es[i]? = some en ∧ en.key = .ref q ∧ H q = some (.tup (k.map kV)) ∧ RelV v en.val := by
  obtain ⟨hd, z, hs, xs, pr, o', es, ep, ho, hx, hdt, he, _⟩ := I.hok d _ h
  rw [hd] at ho
  cases ho
  refine ⟨hs, hd, hx, es, ep, hdt, ?_, fun i k v e => ?_⟩
  · have l1 : es.size = xs.length := size_of_entries he
    have l2 : kvs.length = xs.length := Paired.length pr
    omega
  · obtain ⟨b, hb, e1, e2, e3⟩ := paired_get pr e
    have q := entry_at he i
    rw [hb] at q
    exact ⟨_, b.2.1, q, rfl, e2, e3⟩
end
/-- the pairs, each a new tuple of the key's own tuple and the value -/
def Itit (d : Addr) (o : Obj) (kvs : List (List Key × V)) : It :=
  ⟨fun i H => H d = some (.frz o (.dT kvs)) ∧ i < kvs.length, fun i H x H' => ∃ T k v q, kvs[i]? = some (k, v) ∧ x = .ref T ∧ H T = none ∧ H q = some (.tup (k.map kV)) ∧ H' = upd H T (.tup [.ref q, v]), fun i H => H d = some (.frz o (.dT kvs)) ∧ kvs.length ≤ i⟩
section
variable {P : Program} {w : World} {K : PySem.W.Frag} {d : Addr} {o : Obj} {es : Array DictEntry} {ep : Nat}
theorem turn_itemsT {kvs : List (List Key × V)} {elts : List Expr} {kk : Nat} {tpos : Pos} (it : Addr) (hod : o.data = .dict es ep) :
    Turn P w K (.Tuple elts kk tpos) (Itit d o kvs) [it] it (fun i h => ∃ ok ov, IsItemIter h it d i kvs.length ep ok ov) where
  mem := by simp
  obj := fun i h st b hb => by
    have e : b = it := by simpa using hb
    subst e
    obtain ⟨ok, ov, e⟩ := st
    exact ⟨_, e, fun v z => nomatch z⟩
  keep := fun i h h' st k => let ⟨ok, ov, e⟩ := st; ⟨ok, ov, k it (by simp) _ e⟩
  item := by
    intro X hP hw hK hc i pins s σ H E I hf st hg
    subst hP hw hK
    obtain ⟨hd, hi⟩ := hg
    obtain ⟨hs, hgd, hx, es', ep', hdt, hsz, ent⟩ := frzTv I hd
    obtain ⟨rfl, rfl⟩ := dict_ep hod hdt
    obtain ⟨⟨k, v⟩, hkv⟩ : ∃ p, kvs[i]? = some p := ⟨kvs[i], List.getElem?_eq_getElem hi⟩
    obtain ⟨en, q, hen, hkey, hq, ru⟩ := ent i k v hkv
    obtain ⟨ok, ov, he⟩ := st
    rw [← hsz] at he
    have hlt : it < s.heap.objs.size := Heap.lt_size he
    have hi' : i < es'.size := by rw [hsz]; exact hi
    have hen' : es'[i] = en := by
      have := Array.getElem?_eq_getElem hi'
      rw [this] at hen
      exact Option.some.inj hen
    refine DT.nextI he ⟨o, hgd, hx, hdt⟩ hi' fun h' ho hT hz hk => ?_
    rw [hen'] at ho hT
    refine ⟨_, rfl, wpAny_letOwnedTupleGo_items (s := { s with heap := h' }) ho fun h'' he' sb => ?_⟩
    have hT2 : h''.get? s.heap.objs.size = some { cls := .type "tuple", data := .seq #[en.key, en.val] } := (sb.2 _ (Nat.ne_of_gt hlt)).trans hT
    have new : ObjOk X.prog X.w (upd H s.heap.objs.size (.tup [.ref q, v])) h'' s.heap.objs.size (.tup [.ref q, v]) :=
      ⟨by show 2 ≤ sizeLine; decide, [en.key, en.val], .cons hkey (.cons ru .nil), ⟨_, hT2, rfl, _, rfl⟩⟩
    have I1 : Inv X pins σ (upd H s.heap.objs.size (.tup [.ref q, v])) { s with heap := h'' } :=
      I.turnedNew (t' := s.toks) (ch := [it]) (fun b ob hb e => (sb.2 b (by simpa using hb)).trans (hk b ob (by simpa using hb) e)) hf (Nat.le_refl _) new
    refine ⟨.ref s.heap.objs.size, _, I1, rfl, ⟨_, k, v, q, hkv, rfl, I.hok.fresh (Nat.le_refl _), hq, rfl⟩, ⟨en.key, en.val, ?_⟩, fun b hb => ?_⟩
    · rw [← hsz]; exact he'
    · have e : b = it := by simpa using hb
      rw [e, upd_ne (Nat.ne_of_lt hlt)]
      exact (hf it (by simp)).1
  done := by
    intro X hP hw hK hc i pins s σ H E I hf st hg
    subst hP hw hK
    obtain ⟨hd, hi⟩ := hg
    obtain ⟨f0, f1, f2, f3, f4, f5⟩ := hf it (by simp)
    obtain ⟨hs, hgd, hx, es', ep', hdt, hsz, ent⟩ := frzTv I hd
    obtain ⟨rfl, rfl⟩ := dict_ep hod hdt
    obtain ⟨ok, ov, he⟩ := st
    rw [← hsz] at he
    exact DT.endI (I.ok.hd hc) he ⟨o, hgd, hx, hdt⟩ (by rw [hsz]; exact hi) fun h' eb => ⟨rfl, I.turned (t' := s.toks) (fun b ob hb e => eb b ob hb e) f0 f1 f3 f4 f5⟩
  self := fun A i s Q E st h => let ⟨_, _, e⟩ := st; PySem.W.kcp_self e h
end
def iItemsT (td : TE) : TI := fun σ H R => td σ H fun x H1 => ∃ d o kvs, x = .ref d ∧ H1 d = some (.frz o (.dT kvs)) ∧ R (Itit d o kvs) H1
section
variable {X : Cx} {e : Expr} {td : TE} {apos cpos : Pos}
theorem pi_itemsT {elts : List Expr} {kk : Nat} {tpos : Pos} (he : PE X e td) (hbase : attributeBase e "items" X.env (eval e X.env) = eval e X.env := by rfl) (hline : (apos.endLine == cpos.line) = true := by rfl) :
    PI X (.Tuple elts kk tpos) (.Call (.Attribute e "items" apos) [] [] cpos) (iItemsT td) := by
  refine ⟨fun pins s σ H R I h => ?_⟩
  refine wpAny_Call_method (T := "dict") (id := "dict.items") hbase rfl hline PySem.F.plainAttrs_dict PySem.F.slot_dict_items PySem.F.type_dict_items (thn (he.run pins s σ H _ I h) fun u s1 ⟨x, H1, I1, rx, d, o, kvs, ex, hd, q⟩ => ?_)
  subst ex
  obtain rfl : u = Value.ref d := rx
  obtain ⟨hs, hgd, hx, es, ep, hdt, hsz, ent⟩ := frzTv I1 hd
  have raw : DT.Raw s1.heap d es ep := ⟨o, hgd, hx, hdt⟩
  refine ⟨raw.typeIs, ?_, ?_⟩
  · exact fun b hb => by cases hb; exact ⟨o, hgd, hx.2.1⟩
  have I2 : Inv X pins σ H1 { s1 with heap := s1.heap.push { cls := .type "dict_items", data := .fields #[.ref d] } } := I1.kept (t' := s1.toks) fun b ob q => Heap.get?_push_of_some _ q
  have fin : wpAny (model X.prog X.w) X.A (pyIter (.ref s1.heap.objs.size)) (PIE X pins σ (.Tuple elts kk tpos) R) X.xe { s1 with heap := s1.heap.push { cls := .type "dict_items", data := .fields #[.ref d] } } := by
    refine DT.iterI (d := d) (es := es) (ep := ep) ⟨_, Heap.get?_push_size _ rfl, rfl, rfl⟩ (raw.push _) (pi_one (tk := s1.toks) I2 _ (turn_itemsT _ hdt) ⟨.none, .none, ?_⟩ q)
    rw [← hsz]
    exact Heap.get?_push_size _ rfl
  show wpAny _ _ (callWith cpos (.builtin "dict.items") [.ref d] [] []) _ X.xe s1
  exact method_meetsIn PySem.F.slot_dict_items PySem.F.entry_dict_items rfl (PySem.evalArgs_none ⟨rfl, raw.typeIs, PySem.F.args_dict_items_1 _, _, DT.meetsItems (es := es) (ep := ep) hs, raw, fin⟩)
end
end L2

set_option Elab.async false
set_option linter.all false
set_option maxRecDepth 100000
set_option maxHeartbeats 2000000
/-! Walks along dicts by tuples. -/
namespace Ed
open PySem PySem.Spec PyProof.Rows L2 Dz
theorem at_keysT {K : PySem.W.Frag} {S : Sta} {ks : List (List Key × V)} {es : List (List Key × D)} {i : Nat} {k : List Key} {v : V} (h1 : ks.map (·.1) = es.map (·.1)) (h2 : RpL K S.H S.Λ (ks.map (·.2)) (es.map (·.2))) (h : ks[i]? = some (k, v)) : ∃ d, es[i]? = some (k, d) ∧ Rp K S.H S.Λ v d := by
  have e1 := congrArg (fun l => l[i]?) h1
  simp only [List.getElem?_map, h] at e1
  cases he : es[i]? with
  | none => rw [he] at e1; cases e1
  | some kd =>
    obtain ⟨k', d⟩ := kd
    rw [he] at e1
    cases e1
    obtain ⟨v', hv', r⟩ := h2.get (i := i) (d := d) (by rw [List.getElem?_map, he]; rfl)
    rw [List.getElem?_map, h] at hv'
    cases hv'
    exact ⟨d, rfl, r⟩
/-- a way to walk a locked dict -/
structure KIT (K : PySem.W.Frag) (wi : TE → TI) (f : List (List Key × D) → List D) (J : Addr → Obj → List (List Key × V) → It) : Prop where
  go_ : ∀ (td : TE) σ H (R : It → Hp → Prop) d o ks, (∀ Q : VK, Q (.ref d) H → td σ H Q) → H d = some (.frz o (.dT ks)) → R (J d o ks) H → wi td σ H R
  it : ∀ S d o ks es, S.H d = some (.frz o (.dT ks)) → ¬ S.Λ d → ks.map (·.1) = es.map (·.1) → RpL K S.H S.Λ (ks.map (·.2)) (es.map (·.2)) → ItOk K S (J d o ks) (f es) (fun _ => True)
section
variable {K : PySem.W.Frag}
theorem len_keysT {ks : List (List Key × V)} {es : List (List Key × D)} (h1 : ks.map (·.1) = es.map (·.1)) : ks.length = es.length := by simpa using congrArg List.length h1
theorem rp_keys {H : Hp} {Λ : Addr → Prop} : ∀ k : List Key, RpL K H Λ (k.map kV) (k.map kOf)
  | [] => .nil
  | x :: k => .cons (rp_key x) (rp_keys k)
def kTup (k : List Key) : D := .tup (k.map kOf)
theorem kit_keys : KIT K iKeys (fun es => es.map fun kv => kTup kv.1) Itkt := by
  refine ⟨fun td σ H R d o ks q h r => q _ ⟨d, o, rfl, .inr ⟨ks, h, r⟩⟩, fun S d o ks es h n h1 h2 => ⟨fun H => H d = some (.frz o (.dT ks)), fun i H x H' => H' = H ∧ ∃ (k : List Key) (v : V) (q : Addr), ks[i]? = some (k, v) ∧ x = .ref q ∧ H q = some (.tup (k.map kV)), ⟨fun i H hi g => ⟨g, by rw [len_keysT h1]; simpa using hi⟩, fun H g => ⟨g, by rw [len_keysT h1]; simp⟩, fun i H x H' _ _ y => y⟩, fun S' e k _ => (e.lk h n).2, fun S' i x H' e k _ hi y => ?_⟩⟩
  obtain ⟨rfl, kk, v, q, hk, rfl, hq⟩ := y
  obtain ⟨d', hd, _⟩ := at_keysT h1 h2 hk
  exact ⟨S', kTup kk, rfl, rfl, .refl _, k, by rw [List.getElem?_map, hd]; rfl, .tup (k.ntup hq) hq (rp_keys kk)⟩
theorem kit_items : KIT K iItemsT (fun es => es.map fun kv => .tup [kTup kv.1, kv.2]) Itit := by
  refine ⟨fun td σ H R d o ks q h r => q _ ⟨d, o, ks, rfl, h, r⟩, fun S d o ks es h n h1 h2 => ⟨fun H => H d = some (.frz o (.dT ks)), fun i H x H' => ∃ T k v q, ks[i]? = some (k, v) ∧ x = .ref T ∧ H T = none ∧ H q = some (.tup (k.map kV)) ∧ H' = upd H T (.tup [.ref q, v]), ⟨fun i H hi g => ⟨g, by rw [len_keysT h1]; simpa using hi⟩, fun H g => ⟨g, by rw [len_keysT h1]; simp⟩, fun i H x H' _ _ y => y⟩, fun S' e k _ => (e.lk h n).2, fun S' i x H' e k _ hi y => ?_⟩⟩
  obtain ⟨T, kk, v, q, hk, rfl, hT, hq, rfl⟩ := y
  obtain ⟨d', hd, r⟩ := at_keysT h1 h2 hk
  have e2 := ev_new (o := .tup [.ref q, v]) hT k
  have rq : Rp K S'.H S'.Λ (.ref q) (kTup kk) := .tup (k.ntup hq) hq (rp_keys kk)
  exact ⟨S'.new T (.tup [.ref q, v]), _, rfl, rfl, e2, ok_new hT k, by rw [List.getElem?_map, hd]; rfl, .tup (k.lam hT) upd_same (.cons (rq.ev e2) (.cons ((r.ev e).ev e2) .nil))⟩
end
section
variable {X : Cx} {K : PySem.W.Frag} {tge iter : Expr} {te : WX → TE} {val : Dv → Lc → D → Prop} {apos cpos tpos : Pos} {elts : List Expr} {kk : Nat}
theorem wdt_items (v : VX X K iter te val) (hbase : attributeBase iter "items" X.env (eval iter X.env) = eval iter X.env := by rfl) (hline : (apos.endLine == cpos.line) = true := by rfl) : WD X K (.Tuple elts kk tpos) (.Call (.Attribute iter "items" apos) [] [] cpos) iItemsT te val := ⟨⟨_, v⟩, fun W t => pi_itemsT (v.pe W t) hbase hline⟩
end
section
variable {X : Cx} {K : PySem.W.Frag} {tge iter elt : Expr} {te : WX → TE} {val : Dv → Lc → D → Prop} {wi : TE → TI} {f : List (List Key × D) → List D} {J : Addr → Obj → List (List Key × V) → It} {tg : WX → TG} {dg : DTG} {tb : WX → TS} {db : DTS} {body : List Stmt} {pos spos : Pos}
theorem kit_sim (ki : KIT K wi f J) {W : WX} {ew : EW} {S : Sta} {σ : L2.St} {ρ : Dv} {a : Addr} {o : Obj} {ks : List (List Key × V)} {es : List (List Key × D)} (k : Ok K S) (hv : ∀ Q : VK, Q (.ref a) S.H → te W σ S.H Q) (h : S.H a = some (.frz o (.dT ks))) (n : ¬ S.Λ a) (h1 : ks.map (·.1) = es.map (·.1)) (h2 : RpL K S.H S.Λ (ks.map (·.2)) (es.map (·.2))) :
    SimI1 K (fun W => wi (te W)) (fun _ _ L k => k (f es) (fun _ => True) L) W ew S σ ρ := fun R kk hR hk =>
  ki.go_ _ _ _ R a o ks hv h (hR S _ _ _ (.refl S) k (ki.it S a o ks es h n h1 h2) hk)
/-- for .. in a dict -/
def dForT (val : Dv → Lc → D → Prop) (f : List (List Key × D) → List D) (g : DTG) (tb : DTS) : DTS := fun w D ρ L => ∃ es, val ρ L (.dT es) ∧ forD (g w) (tb w) (fun _ => True) D (f es) ρ L
theorem ds_forT (hp : PassesOwn (model X.prog X.w) X.A X.env X.xe) (hc : X.calm = true) (ki : KIT K wi f J) {iter' : Expr} (wd : WD X K tge iter' wi te val) (hg : DG X K tg tge dg) (hb : DSs X K tb body db)
    (hs : ∀ x, foldedSetIterable iter' X.env x = pure x := by intro _; rfl) : DS X K (fun W D σ H => tLock (tFor (wi (te W)) (tg W) (tb W)) D σ H ∨ tFor (wi (te W)) (tg W) (tb W) D σ H) (.For tge iter' body [] pos) (dForT val f dg db) := by
  obtain ⟨⟨_, vx⟩, hpi⟩ := wd
  refine ⟨fun W t => ps_or2 (ps_lock (ps_for hp hc (hpi W t) (hg.pg W t) (hb.ps W t) hs)) (ps_for hp hc (hpi W t) (hg.pg W t) (hb.ps W t) hs), fun W ew S σ ρ D d I R h => ?_⟩
  obtain ⟨es, hv, h⟩ := h
  obtain ⟨v, rv, q1, q2⟩ := vx.run W S σ ρ _ I.ok I.sl hv
  cases rv with
  | @dT a ks _ n h1 h2 h3 =>
  rcases h1 with h1 | ⟨o, h1⟩
  · left
    refine ⟨a, .dT ks, h1, trivial, fun od => ?_⟩
    have e01 : Ev S (S.lk a (.frz od (.dT ks))) := ev_lk h1 trivial n
    have k1 := ok_lk (w := .frz od (.dT ks)) I.ok n e01.w
    have un : ∀ S', Ev (S.lk a (.frz od (.dT ks))) S' → Ok K S' → S'.H a = some (.frz od (.dT ks)) ∧ Ev S (S'.lk a (.dT ks)) ∧ Ok K (S'.lk a (.dT ks)) ∧ Ew S' (S'.lk a (.dT ks)) := fun S' e k => by
      obtain ⟨n', h'⟩ := e.lk (a := a) (o := od) (u := .dT ks) upd_same n
      exact ⟨h', ev_un h1 trivial n e, ok_lk k n' (ew_un h' trivial), ew_un h' trivial⟩
    refine for_sim1 hg.sim hb.sim W ew (S.lk a (.frz od (.dT ks))) σ ρ _ d (I.ev e01 k1) ⟨fun S' σ' ρ' e k s hh => ?_, fun S' v' d' e k r hh => ?_, fun S' σ' ρ' e k s hh => ?_, fun S' σ' ρ' e k s hh => ?_⟩ (kit_sim ki k1 (q2 a od _ h1 trivial) upd_same n h2 (h3.ev e01)) h
    · obtain ⟨u1, u2, u3, u4⟩ := un S' e k
      exact ⟨u1, R.nx (S'.lk a (.dT ks)) σ' ρ' u2 u3 (s.ew u4) hh⟩
    · obtain ⟨u1, u2, u3, u4⟩ := un S' e k
      exact ⟨u1, R.rt (S'.lk a (.dT ks)) v' d' u2 u3 (r.ew u4) hh⟩
    · obtain ⟨u1, u2, u3, u4⟩ := un S' e k
      exact ⟨u1, R.bk (S'.lk a (.dT ks)) σ' ρ' u2 u3 (s.ew u4) hh⟩
    · obtain ⟨u1, u2, u3, u4⟩ := un S' e k
      exact ⟨u1, R.ct (S'.lk a (.dT ks)) σ' ρ' u2 u3 (s.ew u4) hh⟩
  · right
    exact for_sim1 hg.sim hb.sim W ew S σ ρ D d I R (kit_sim ki I.ok q1 h1 n h2 h3) h
theorem v_forT {w : EW} {D0 : DEnds} {ρ : Dv} {L : Lc} {g : DTG} {t : DTS} {es : List (List Key × D)} (hv : val ρ L (.dT es)) (h : forD (g w) (t w) (fun _ => True) D0 (f es) ρ L) : dForT val f g t w D0 ρ L := ⟨es, hv, h⟩
variable {ifs : List Expr} {scope : Scope} {own : List (Str × Nat)} {tt : WX → TT} {dt : DTT} {tl : WX → TE} {de : DTE}
/-- a comprehension over a dict -/
def dLcT (val : Dv → Lc → D → Prop) (f : List (List Key × D) → List D) (g : DTG) (tt : DTT) (te : DTE) (vs : List Nat) : DTE := fun w ρ L q => ∃ es, val ρ L (.dT es) ∧ dLc (fun _ _ L k => k (f es) (fun _ => True) L) g tt te vs w ρ L q
theorem d_lcT (hc : X.calm = true) (hN : X.N.Nodup) (ki : KIT K wi f J) {iter' : Expr} (wd : WD X K tge iter' wi te val) (ok : BlkOk X.N X.env.scope scope own) (hg : Blk X scope fun Y => DG Y K tg tge dg) (hw : GW tg (own.map (·.2))) (ht : Blk X scope fun Y => DPs Y K tt ifs dt) (he : Blk X scope fun Y => DE Y K tl elt de)
    (hs : ∀ x, foldedSetIterable iter' X.env x = pure x := by intro _; rfl) :
    DE X K (fun W σ H Q => tLockE (tLc (wi (te W)) (tg fun _ _ _ _ => False) (tt fun _ _ _ _ => False) (tl fun _ _ _ _ => False) (own.map (·.2))) σ H Q ∨ tLc (wi (te W)) (tg fun _ _ _ _ => False) (tt fun _ _ _ _ => False) (tl fun _ _ _ _ => False) (own.map (·.2)) σ H Q)
      (.ListComp elt [⟨tge, iter', ifs, 0⟩] scope pos) (dLcT val f dg dt de (own.map (·.2))) := by
  obtain ⟨⟨_, vx⟩, hpi⟩ := wd
  have pl : ∀ W, Takes X W → PE X (.ListComp elt [⟨tge, iter', ifs, 0⟩] scope pos) (tLc (wi (te W)) (tg fun _ _ _ _ => False) (tt fun _ _ _ _ => False) (tl fun _ _ _ _ => False) (own.map (·.2))) := fun W t =>
    pe_lc hc hN (hpi W t) ok (fun s H C cl fp => (hg s H C cl fp).pg _ takes0) (fun s H C cl fp => (ht s H C cl fp).pt _ takes0) (fun s H C cl fp => (he s H C cl fp).pe _ takes0) hs
  refine ⟨fun W t => pe_or2 (pe_lock (pl W t)) (pl W t), fun W ew S σ ρ Q q I R h => ?_⟩
  obtain ⟨es, hv, h⟩ := h
  obtain ⟨v, rv, q1, q2⟩ := vx.run W S σ ρ _ I.ok I.sl hv
  have sg := (hg {} (fun _ => none) 0 [] []).sim
  have st := (ht {} (fun _ => none) 0 [] []).sim
  have se := (he {} (fun _ => none) 0 [] []).sim
  cases rv with
  | @dT a ks _ n h1 h2 h3 =>
  rcases h1 with h1 | ⟨o, h1⟩
  · left
    refine ⟨a, .dT ks, h1, trivial, fun od => ?_⟩
    have e01 : Ev S (S.lk a (.frz od (.dT ks))) := ev_lk h1 trivial n
    have k1 := ok_lk (w := .frz od (.dT ks)) I.ok n e01.w
    refine sim_lc1 sg hw st se W ew (S.lk a (.frz od (.dT ks))) σ ρ _ q (I.ev e01 k1) (fun S' v' d' e k r hh => ?_) (kit_sim ki k1 (q2 a od _ h1 trivial) upd_same n h2 (h3.ev e01)) h
    obtain ⟨n', h'⟩ := e.lk (a := a) (o := od) (u := .dT ks) upd_same n
    exact ⟨h', R (S'.lk a (.dT ks)) v' d' (ev_un h1 trivial n e) (ok_lk k n' (ew_un h' trivial)) (r.ew (ew_un h' trivial)) hh⟩
  · right
    exact sim_lc1 sg hw st se W ew S σ ρ Q q I R (kit_sim ki I.ok q1 h1 n h2 h3) h
theorem v_lcT {w : EW} {ρ : Dv} {L : Lc} {q : DQ} {g : DTG} {vs : List Nat} {es : List (List Key × D)} (hv : val ρ L (.dT es)) (h : lcD (g noW) (dt noW) (de noW) (fun _ => True) (dwipe ρ vs) (fun acc L2 => q (.lst acc) L2) (f es) [] L) : dLcT val f g dt de vs w ρ L q := ⟨es, hv, h⟩
end
end Ed

set_option Elab.async false
set_option linter.all false
set_option maxRecDepth 100000
set_option maxHeartbeats 2000000
/-! len(o) by an own __len__. -/
namespace Ed
open PySem PySem.Spec PyProof.Rows L2 Dz
section
variable {prog : Program} {w : World} {A : Around} {E : Value → Shared → Prop} {s : Shared} {K : PySem.W.Frag} {x C f : Addr} {ox : Obj} {od : Option Obj}
theorem len_fn {Q : Value → Shared → Prop} (X : K.In s.heap) (I : PySem.W.InstAt s.heap x ox C od) (hs : PySem.W.findIn K (.ref C) "__len__" = some (some (.ref f))) (hf : PySem.W.isFn K (.ref f) = true)
    (h : wpAny (model prog w) A.in1 (call (.ref f) [.ref x]) (fun r s' => ∃ n u, r = .int n u ∧ 0 ≤ n ∧ n < 2 ^ 63 ∧ Q (.int n s'.toks) { s' with toks := s'.toks + 1 }) E s) : wpAny (model prog w) A (call (.builtin "len") [.ref x]) Q E s := by
  refine Calls.call_function_entry kind_len plain_len entry_len (args_len1 _) ?_
  unfold Builtin.«len»
  refine wpAny_bind (m := oneArg "len" _) (wpAny_pure ?_)
  refine wpAny_bind (m := callSpecial? (.ref x) (Str.ofString "__len__")) (PySem.W.special_fn X I hs (beq_iff_eq.mp hf) (wpAny_mono h (fun r s' hr => ?_) fun _ _ y => y))
  obtain ⟨n, u, rfl, h0, h1, hq⟩ := hr
  refine wpAny_bind (wpAny_holding (wpAny_pure ?_))
  refine wpAny_bind (wpAny_letGo ?_)
  show wpAny _ _ (if n < 0 then _ else _) _ _ _
  rw [if_neg (by omega)]
  show wpAny _ _ (if n ≥ 2 ^ 63 then _ else _) _ _ _
  rw [if_neg (by omega)]
  exact wpAny_bind (wpAny_mkInt (wpAny_pure ⟨_, rfl, hq⟩))
end
section
variable {X : Cx} {K : PySem.W.Frag} {C f : Addr} {k : Nat} {sp : DSp}
def lenOD (C : Addr) (sp : DSp) : DRL := fun xs L q => ∃ x fs, xs = [x] ∧ vIns L x = some (C, fs) ∧ sp [x] L (fun d L' => (∃ i, d = .int i ∧ 0 ≤ i ∧ i < 2 ^ 63) ∧ q d L') noE
theorem call_lenOD (hK : X.K = K) (hs : PySem.W.findIn K (.ref C) "__len__" = some (some (.ref f))) (hf : PySem.W.isFn K (.ref f) = true) (G : Kp X.prog X.w X.K X.mg X.base (L2.CX X.prog X.w) k f ["self"] [] (spD K 1 sp)) (hcl : Calm X.A) (hr : Room (k + 2) X.A) :
    CallR X (.builtin "len") (rOfL K (lenOD C sp)) := by
  subst hK
  rintro pins s σ H xs us Q I r ⟨S, as, q, rfl, k1, ra, R, x, fs, rfl, hx, h⟩
  obtain ⟨v, rfl, rv⟩ := vals1R ra
  obtain ⟨a, dx, gs, rfl, h2, _⟩ := vIns_ok k1 rv hx
  cases r with
  | @cons _ u _ _ ru rn =>
  cases rn
  cases (show u = Value.ref a from ru)
  obtain ⟨mA, J, _⟩ := ins_get I.hok h2
  obtain ⟨od, J, _⟩ := J.look
  obtain ⟨fd, Gf, b⟩ := G.ex
  have r1 := (hr.mono (show k + 1 ≤ k + 2 by omega)).in1
  have hsp : spD X.K 1 sp [.ref a] S.H (fun v H' => (∃ i, v = .int i ∧ 0 ≤ i ∧ i < 2 ^ 63) ∧ Q v H') E0 :=
    ⟨S, _, _, noE, rfl, k1, ra, rfl, fun S' v d e k2 rr h2 => by
      obtain ⟨⟨i, rfl, i0, i1⟩, h2⟩ := h2
      cases rr
      exact ⟨⟨i, rfl, i0, i1⟩, R S' _ _ e k2 (.int i) h2⟩, relE_no, h⟩
  refine len_fn I.kIn J hs hf ?_
  have bb := b s [.ref a] I.kIn rfl
  refine wpAny_call (codeAny_mono (Gf.go X.A.in1 X.stack s S.H ⟨[.ref a], []⟩ [.ref a] [.ref a] _ E0 hcl.in1 r1 I.env0.in1 bb (.cons rfl .nil) hsp) ?_)
  intro rs s' hq
  match rs, hq with
  | .error e, hq => exact passX0 pins σ S.H s e s' I hq
  | .ok (.ret u), hq =>
    obtain ⟨v, H', I', rw', ⟨i, rfl, i0, i1⟩, q'⟩ := I.after hq
    obtain ⟨t, rfl⟩ := rw'
    exact ⟨i, t, rfl, i0, i1, .int i, H', I'.tok _, ⟨_, rfl⟩, q'⟩
end
end Ed

set_option Elab.async false
set_option linter.all false
set_option maxRecDepth 100000
set_option maxHeartbeats 2000000
/-! x = [.. for .. in a dict]. -/
namespace Ed
open PySem PySem.Spec PyProof.Rows L2 Dz
section
variable {X : Cx} {K : PySem.W.Frag} {tge elt iter' : Expr} {te : WX → TE} {val : Dv → Lc → D → Prop} {wi : TE → TI} {tg : WX → TG} {dg : DTG} {pos spos : Pos} {ifs : List Expr} {scope : Scope} {own : List (Str × Nat)} {tt : WX → TT} {dt : DTT} {tl : WX → TE} {de : DTE}
section
variable {f : List (Key × D) → List D} {J : Addr → Obj → List (Key × V) → It}
theorem ds_setLcD {i : Nat} {y : Str} {py : Pos} (hc : X.calm = true) (hN : X.N.Nodup) (hy : X.N[i]? = some y) (hyl : X.env.scope.names.lookup y = some .local) (hsw : swapsWith (.ListComp elt [⟨tge, iter', ifs, 0⟩] scope pos) (some (.Name y py)) spos.line X.env = pure true)
    (ki : KI K wi f J) (wd : WD X K tge iter' wi te val) (ok : BlkOk X.N X.env.scope scope own) (hg : Blk X scope fun Y => DG Y K tg tge dg) (hw : GW tg (own.map (·.2))) (ht : Blk X scope fun Y => DPs Y K tt ifs dt) (he : Blk X scope fun Y => DE Y K tl elt de)
    (hs : ∀ x, foldedSetIterable iter' X.env x = pure x := by intro _; rfl) :
    DS X K (fun W D σ H => tLock (tAsg (tLc (wi (te W)) (tg fun _ _ _ _ => False) (tt fun _ _ _ _ => False) (tl fun _ _ _ _ => False) (own.map (·.2))) (gName i)) D σ H ∨ tAsg (tLc (wi (te W)) (tg fun _ _ _ _ => False) (tt fun _ _ _ _ => False) (tl fun _ _ _ _ => False) (own.map (·.2))) (gName i) D σ H)
      (.Assign [.Name y py] (.ListComp elt [⟨tge, iter', ifs, 0⟩] scope pos) spos) (dSet i (dLcD val f dg dt de (own.map (·.2)))) := by
  have key := (d_lcD2 hc hN ki wd ok hg hw ht he hs (pos := pos)).sim
  obtain ⟨⟨_, vx⟩, hpi⟩ := wd
  have pl : ∀ W, Takes X W → PS X (.Assign [.Name y py] (.ListComp elt [⟨tge, iter', ifs, 0⟩] scope pos) spos) (tAsg (tLc (wi (te W)) (tg fun _ _ _ _ => False) (tt fun _ _ _ _ => False) (tl fun _ _ _ _ => False) (own.map (·.2))) (gName i)) := fun W t =>
    ps_setLc hc hN hy hyl hsw (hpi W t) ok (fun s H C cl fp => (hg s H C cl fp).pg _ takes0) (fun s H C cl fp => (ht s H C cl fp).pt _ takes0) (fun s H C cl fp => (he s H C cl fp).pe _ takes0) hs
  refine ⟨fun W t => ps_or2 (ps_lock (pl W t)) (pl W t), fun W ew S σ ρ D d I R h => ?_⟩
  exact key W ew S σ ρ _ _ I (fun S1 v x e1 k1 r1 h1 => R.nx S1 _ _ e1 k1 ((I.sl.ev e1).set r1) h1) h
end
section
variable {f : List (List Key × D) → List D} {J : Addr → Obj → List (List Key × V) → It}
theorem ds_setLcT {i : Nat} {y : Str} {py : Pos} (hc : X.calm = true) (hN : X.N.Nodup) (hy : X.N[i]? = some y) (hyl : X.env.scope.names.lookup y = some .local) (hsw : swapsWith (.ListComp elt [⟨tge, iter', ifs, 0⟩] scope pos) (some (.Name y py)) spos.line X.env = pure true)
    (ki : KIT K wi f J) (wd : WD X K tge iter' wi te val) (ok : BlkOk X.N X.env.scope scope own) (hg : Blk X scope fun Y => DG Y K tg tge dg) (hw : GW tg (own.map (·.2))) (ht : Blk X scope fun Y => DPs Y K tt ifs dt) (he : Blk X scope fun Y => DE Y K tl elt de)
    (hs : ∀ x, foldedSetIterable iter' X.env x = pure x := by intro _; rfl) :
    DS X K (fun W D σ H => tLock (tAsg (tLc (wi (te W)) (tg fun _ _ _ _ => False) (tt fun _ _ _ _ => False) (tl fun _ _ _ _ => False) (own.map (·.2))) (gName i)) D σ H ∨ tAsg (tLc (wi (te W)) (tg fun _ _ _ _ => False) (tt fun _ _ _ _ => False) (tl fun _ _ _ _ => False) (own.map (·.2))) (gName i) D σ H)
      (.Assign [.Name y py] (.ListComp elt [⟨tge, iter', ifs, 0⟩] scope pos) spos) (dSet i (dLcT val f dg dt de (own.map (·.2)))) := by
  have key := (d_lcT hc hN ki wd ok hg hw ht he hs (pos := pos)).sim
  obtain ⟨⟨_, vx⟩, hpi⟩ := wd
  have pl : ∀ W, Takes X W → PS X (.Assign [.Name y py] (.ListComp elt [⟨tge, iter', ifs, 0⟩] scope pos) spos) (tAsg (tLc (wi (te W)) (tg fun _ _ _ _ => False) (tt fun _ _ _ _ => False) (tl fun _ _ _ _ => False) (own.map (·.2))) (gName i)) := fun W t =>
    ps_setLc hc hN hy hyl hsw (hpi W t) ok (fun s H C cl fp => (hg s H C cl fp).pg _ takes0) (fun s H C cl fp => (ht s H C cl fp).pt _ takes0) (fun s H C cl fp => (he s H C cl fp).pe _ takes0) hs
  refine ⟨fun W t => ps_or2 (ps_lock (pl W t)) (pl W t), fun W ew S σ ρ D d I R h => ?_⟩
  exact key W ew S σ ρ _ _ I (fun S1 v x e1 k1 r1 h1 => R.nx S1 _ _ e1 k1 ((I.sl.ev e1).set r1) h1) h
end
end
end Ed

set_option Elab.async false
set_option linter.all false
set_option maxRecDepth 100000
set_option maxHeartbeats 2000000
/-! not in a tuple of texts, of any thing; a slice that may change. -/
namespace Ed
open PySem PySem.Spec PyProof.Rows L2 Dz
theorem op_ninWS {X : Cx} {K : PySem.W.Frag} (hK : X.K = K) (hu : X.A.units + 1 < cLine) : OpR X (compareOp .NotIn) (rOf K (inWSD true)) := by
  subst hK
  rintro pins s σ H x y v u Q I rx ry ⟨S, a, b, q, rfl, k1, ra, rb, R, zs, h1, hy, h⟩
  obtain ⟨_, heq⟩ := big_at I k1 h1 ra rx
  have fin : ∀ its : Array Value, (its.any fun _ => false) = false := fun its => by simp
  have tp : ∀ c, SqT X.K S.H c (zs.map V.str) → wpAny (model X.prog X.w) X.A (compareOp .NotIn v (.ref c)) (fun y s' => ∃ z H', Inv X pins σ H' s' ∧ RelV z y ∧ Q z H') X.xe s := fun c ht => by
    obtain ⟨its, rr, hT, _⟩ := I.tuple ht
    refine SeqAt.notIn_tupleAt (fun _ => false) hT (fun y hy => ?_) ?_
    · obtain ⟨b, t, rfl⟩ := vals_strs rr y (by simpa using hy)
      exact heq _ b t (by show X.A.units + 1 < cLine; exact hu)
    · rw [fin]; exact ⟨.bl true, S.H, I, rfl, R S _ _ (.refl S) k1 (.bl _) h⟩
  rcases hy with rfl | rfl | rfl
  · cases rb with
    | ctup t r =>
      cases (show u = Value.ref _ from ry)
      exact tp _ (by rw [← r.str_of]; exact t.sq)
  · cases rb with
    | tup n t r =>
      cases (show u = Value.ref _ from ry)
      exact tp _ (by rw [← r.str_of]; exact .of t)
  · cases rb with
    | lst n t r =>
      cases (show u = Value.ref _ from ry)
      rw [r.str_of] at t
      have ht := SqL.of (K := X.K) t
      obtain ⟨its, rr, ⟨o, n, ho, hc, hdn, hd⟩, _⟩ := I.list ht
      refine SeqAt.notIn_listAt (fun _ => false) ⟨o, ho, hc, n, hd⟩ (fun y hy => ?_) ?_
      · obtain ⟨b, t, rfl⟩ := vals_strs rr y (by simpa using hy)
        exact heq _ b t (by show X.A.units + 1 < cLine; exact hu)
      · rw [fin]; exact ⟨.bl true, S.H, I, rfl, R S _ _ (.refl S) k1 (.bl _) h⟩
def ninWD : DR2 := fun x y L q => inAD true x y L q ∨ inWSD true x y L q
theorem sim_ninW {K : PySem.W.Frag} : SimR2 K (fun x y H Q => (rInA K true x y H Q ∨ rOf K (inTD true) x y H Q) ∨ rOf K (inWSD true) x y H Q) ninWD := sim_inAD.or sim_of
theorem op_ninW {X : Cx} {K : PySem.W.Frag} (hK : X.K = K) (hu : X.A.units + 65 < cLine) : OpR X (compareOp .NotIn) (fun x y H Q => (rInA K true x y H Q ∨ rOf K (inTD true) x y H Q) ∨ rOf K (inWSD true) x y H Q) := (op_ninAD hK hu).or (op_ninWS hK (by omega))
theorem v_ninT {L : Lc} {x y : D} {zs : List Str} {q : DQ} (h : okD x = true) (hy : y = .ctup (zs.map .str) ∨ y = .tup (zs.map .str) ∨ y = .lst (zs.map .str)) (hq : q (.bl (!(zs.any fun z => isS z x))) L) : ninWD x y L q := by
  have hv : vSeq L y = some (zs.map .str) := by rcases hy with rfl | rfl | rfl <;> rfl
  have big : isBig L x → (zs.any fun z => isS z x) = false → ninWD x y L q := fun b e => .inr ⟨zs, b, hy, by rw [e] at hq; exact hq⟩
  have sca : ∀ u, sc x = some u → (∀ z, eqV (.str z) u = isS z x) → ninWD x y L q := fun u hu he => .inl (.inl (.inl ⟨_, u, _, hv, hu, scA_strs, by
    show q (.bl (!inV u _)) L
    rw [inV_strs _ he]; exact hq⟩))
  have no : (∀ z, isS z x = false) → (zs.any fun z => isS z x) = false := fun e => List.any_eq_false.mpr fun z _ => by rw [e]; decide
  cases x with
  | non => exact sca _ rfl fun z => rfl
  | bl b => exact sca _ rfl fun z => rfl
  | int b => exact sca _ rfl fun z => rfl
  | str b => exact sca _ rfl (eqV_isS b)
  | lst ds => exact big (.inr (.inr (.inl ⟨_, rfl⟩))) (no fun _ => rfl)
  | tup ds => exact big (.inr (.inr (.inr (.inl ⟨_, rfl⟩)))) (no fun _ => rfl)
  | dK es => exact big (.inr (.inl ⟨_, rfl⟩)) (no fun _ => rfl)
  | _ => rw [okD.eq_def] at h; cases h
/-! slices that may change -/
def slCD : D → Option Int → Option Int → Lc → DQ → Prop := fun x lo hi L q => ∃ ds, vRd L x = some ds ∧ ∀ p, L p = none → q (.ref p) (updL L p (.lst (cutD ds lo hi)))
section
variable {K : PySem.W.Frag} {X : Cx} {a : Expr} {ta : WX → TE} {da : DTE} {pos : Pos}
theorem sim_slC : SimSl K (rSlAll K) slCD := by
  rintro S x a lo hi Q q k rx R ⟨ds, h1, h⟩
  obtain ⟨p, xs, rfl, h4, h5⟩ := vRd_ok k rx h1
  refine .inl ⟨p, xs, rfl, h4, fun p np => ?_⟩
  have e := ev_newc (o := .lst (cutV xs lo hi)) (c := .lst (cutD ds lo hi)) np k
  exact R _ _ _ e (ok_newc np k ⟨_, upd_same, h5.cut.ev e⟩) (.ref p) (h p (k.lno np))
theorem d_sliceC {lo hi : Option Expr} {tl th : WX → TO} {dl dh : DTO} {p2 : Pos} (hK : X.K = K) (ha : DE X K ta a da) (hl : DO X K tl lo dl) (hh : DO X K th hi dh) : DE X K (fun W => tSl (rSlAll K) (ta W) (tl W) (th W)) (.Subscript a (.Slice lo hi none p2) pos) (dSl slCD da dl dh) := by
  refine ⟨fun W t => pe_slice (sl_all hK) (ha.pe W t) (hl.po W t) (hh.po W t), fun W ew S σ ρ Q q I R h => ?_⟩
  refine ha.sim W ew S σ ρ _ _ I (fun S1 v x e1 k1 r1 h1 => ?_) h
  refine hl.sim W ew S1 σ ρ _ _ (I.ev e1 k1) (fun S2 o e2 k2 h2 => ?_) h1
  refine hh.sim W ew S2 σ ρ _ _ (I.ev (e1.trans e2) k2) (fun S3 o' e3 k3 h3 => ?_) h2
  exact sim_slC S3 v x o o' Q q k3 ((r1.ev e2).ev e3) (R.ev ((e1.trans e2).trans e3)) h3
end
theorem v_slC {L : Lc} {x : D} {ds : List D} {lo hi : Option Int} {q : DQ} (h1 : vRd L x = some ds) (h : ∀ p, L p = none → q (.ref p) (updL L p (.lst (cutD ds lo hi)))) : slCD x lo hi L q := ⟨ds, h1, h⟩
section
variable {X : Cx} {K : PySem.W.Frag} {tge iter elt : Expr} {te : WX → TE} {val : Dv → Lc → D → Prop} {wi : TE → TI} {f : List (List Key × D) → List D} {J : Addr → Obj → List (List Key × V) → It} {tg : WX → TG} {dg : DTG} {tb : WX → TS} {db : DTS} {body : List Stmt} {pos spos : Pos}
variable {ifs : List Expr} {scope : Scope} {own : List (Str × Nat)} {tt : WX → TT} {dt : DTT} {tl : WX → TE} {de : DTE}
/-- the same, its list may change -/
def dLcTC (val : Dv → Lc → D → Prop) (f : List (List Key × D) → List D) (g : DTG) (tt : DTT) (te : DTE) (vs : List Nat) : DTE := fun w ρ L q => ∃ es, val ρ L (.dT es) ∧ dLcC (fun _ _ L k => k (f es) (fun _ => True) L) g tt te vs w ρ L q
theorem d_lcTC (hc : X.calm = true) (hN : X.N.Nodup) (ki : KIT K wi f J) {iter' : Expr} (wd : WD X K tge iter' wi te val) (ok : BlkOk X.N X.env.scope scope own) (hg : Blk X scope fun Y => DG Y K tg tge dg) (hw : GW tg (own.map (·.2))) (ht : Blk X scope fun Y => DPs Y K tt ifs dt) (he : Blk X scope fun Y => DE Y K tl elt de)
    (hs : ∀ x, foldedSetIterable iter' X.env x = pure x := by intro _; rfl) :
    DE X K (fun W σ H Q => tLockE (tLc (wi (te W)) (tg fun _ _ _ _ => False) (tt fun _ _ _ _ => False) (tl fun _ _ _ _ => False) (own.map (·.2))) σ H Q ∨ tLc (wi (te W)) (tg fun _ _ _ _ => False) (tt fun _ _ _ _ => False) (tl fun _ _ _ _ => False) (own.map (·.2)) σ H Q)
      (.ListComp elt [⟨tge, iter', ifs, 0⟩] scope pos) (dLcTC val f dg dt de (own.map (·.2))) := by
  obtain ⟨⟨_, vx⟩, hpi⟩ := wd
  have pl : ∀ W, Takes X W → PE X (.ListComp elt [⟨tge, iter', ifs, 0⟩] scope pos) (tLc (wi (te W)) (tg fun _ _ _ _ => False) (tt fun _ _ _ _ => False) (tl fun _ _ _ _ => False) (own.map (·.2))) := fun W t =>
    pe_lc hc hN (hpi W t) ok (fun s H C cl fp => (hg s H C cl fp).pg _ takes0) (fun s H C cl fp => (ht s H C cl fp).pt _ takes0) (fun s H C cl fp => (he s H C cl fp).pe _ takes0) hs
  refine ⟨fun W t => pe_or2 (pe_lock (pl W t)) (pl W t), fun W ew S σ ρ Q q I R h => ?_⟩
  obtain ⟨es, hv, h⟩ := h
  obtain ⟨v, rv, q1, q2⟩ := vx.run W S σ ρ _ I.ok I.sl hv
  have sg := (hg {} (fun _ => none) 0 [] []).sim
  have st := (ht {} (fun _ => none) 0 [] []).sim
  have se := (he {} (fun _ => none) 0 [] []).sim
  cases rv with
  | @dT a ks _ n h1 h2 h3 =>
  rcases h1 with h1 | ⟨o, h1⟩
  · left
    refine ⟨a, .dT ks, h1, trivial, fun od => ?_⟩
    have e01 : Ev S (S.lk a (.frz od (.dT ks))) := ev_lk h1 trivial n
    have k1 := ok_lk (w := .frz od (.dT ks)) I.ok n e01.w
    refine sim_lcC1 sg hw st se W ew (S.lk a (.frz od (.dT ks))) σ ρ _ q (I.ev e01 k1) (fun S' v' d' e k r hh => ?_) (kit_sim ki k1 (q2 a od _ h1 trivial) upd_same n h2 (h3.ev e01)) h
    obtain ⟨n', h'⟩ := e.lk (a := a) (o := od) (u := .dT ks) upd_same n
    exact ⟨h', R (S'.lk a (.dT ks)) v' d' (ev_un h1 trivial n e) (ok_lk k n' (ew_un h' trivial)) (r.ew (ew_un h' trivial)) hh⟩
  · right
    exact sim_lcC1 sg hw st se W ew S σ ρ Q q I R (kit_sim ki I.ok q1 h1 n h2 h3) h
theorem v_lcTC {w : EW} {ρ : Dv} {L : Lc} {q : DQ} {g : DTG} {vs : List Nat} {es : List (List Key × D)} (hv : val ρ L (.dT es)) (h : lcD (g noW) (dt noW) (de noW) (fun _ => True) (dwipe ρ vs) (fun acc L2 => ∀ p, L2 p = none → q (.ref p) (updL L2 p (.lst acc))) (f es) [] L) : dLcTC val f g dt de vs w ρ L q := ⟨es, hv, h⟩
end
section
variable {X : Cx} {K : PySem.W.Frag} {tge elt iter' : Expr} {te : WX → TE} {val : Dv → Lc → D → Prop} {wi : TE → TI} {tg : WX → TG} {dg : DTG} {pos spos : Pos} {ifs : List Expr} {scope : Scope} {own : List (Str × Nat)} {tt : WX → TT} {dt : DTT} {tl : WX → TE} {de : DTE}
section
variable {f : List (List Key × D) → List D} {J : Addr → Obj → List (List Key × V) → It}
theorem ds_setLcTC {i : Nat} {y : Str} {py : Pos} (hc : X.calm = true) (hN : X.N.Nodup) (hy : X.N[i]? = some y) (hyl : X.env.scope.names.lookup y = some .local) (hsw : swapsWith (.ListComp elt [⟨tge, iter', ifs, 0⟩] scope pos) (some (.Name y py)) spos.line X.env = pure true)
    (ki : KIT K wi f J) (wd : WD X K tge iter' wi te val) (ok : BlkOk X.N X.env.scope scope own) (hg : Blk X scope fun Y => DG Y K tg tge dg) (hw : GW tg (own.map (·.2))) (ht : Blk X scope fun Y => DPs Y K tt ifs dt) (he : Blk X scope fun Y => DE Y K tl elt de)
    (hs : ∀ x, foldedSetIterable iter' X.env x = pure x := by intro _; rfl) :
    DS X K (fun W D σ H => tLock (tAsg (tLc (wi (te W)) (tg fun _ _ _ _ => False) (tt fun _ _ _ _ => False) (tl fun _ _ _ _ => False) (own.map (·.2))) (gName i)) D σ H ∨ tAsg (tLc (wi (te W)) (tg fun _ _ _ _ => False) (tt fun _ _ _ _ => False) (tl fun _ _ _ _ => False) (own.map (·.2))) (gName i) D σ H)
      (.Assign [.Name y py] (.ListComp elt [⟨tge, iter', ifs, 0⟩] scope pos) spos) (dSet i (dLcTC val f dg dt de (own.map (·.2)))) := by
  have key := (d_lcTC hc hN ki wd ok hg hw ht he hs (pos := pos)).sim
  obtain ⟨⟨_, vx⟩, hpi⟩ := wd
  have pl : ∀ W, Takes X W → PS X (.Assign [.Name y py] (.ListComp elt [⟨tge, iter', ifs, 0⟩] scope pos) spos) (tAsg (tLc (wi (te W)) (tg fun _ _ _ _ => False) (tt fun _ _ _ _ => False) (tl fun _ _ _ _ => False) (own.map (·.2))) (gName i)) := fun W t =>
    ps_setLc hc hN hy hyl hsw (hpi W t) ok (fun s H C cl fp => (hg s H C cl fp).pg _ takes0) (fun s H C cl fp => (ht s H C cl fp).pt _ takes0) (fun s H C cl fp => (he s H C cl fp).pe _ takes0) hs
  refine ⟨fun W t => ps_or2 (ps_lock (pl W t)) (pl W t), fun W ew S σ ρ D d I R h => ?_⟩
  exact key W ew S σ ρ _ _ I (fun S1 v x e1 k1 r1 h1 => R.nx S1 _ _ e1 k1 ((I.sl.ev e1).set r1) h1) h
end
end
/-! len of a dict by tuples -/
theorem sizeLine63 : sizeLine < 2 ^ 63 := by rw [sizeLine_eq]; decide
theorem call_len_rT {X : Cx} : CallR X (.builtin "len") (fun xs H Q => ∃ (p : Addr) (kvs : List (List Key × V)), xs = [.ref p] ∧ Rd H p (.dT kvs) ∧ Q (.int ((kvs.length : Nat) : Int)) H) := by
  rintro pins s σ H xs us Q I r ⟨p, kvs, rfl, hp, q⟩
  obtain ⟨u, rfl, ru⟩ := vals1 r
  cases (show u = Value.ref p from ru)
  obtain ⟨z, hs, ys, pr, dd⟩ := dt_rd I.hok hp
  have hl := Paired.length pr
  refine call_len_dictH hs dd ?_ ?_
  · have := sizeLine63; omega
  · rw [← hl]
    exact ⟨.int ((kvs.length : Nat) : Int), H, I.tok (s.toks + 1 + 1), ⟨s.toks + 1, rfl⟩, q⟩
def lenTD : DRL := fun xs L q => ∃ x es, xs = [x] ∧ vDT L x = some es ∧ q (.int ((es.length : Nat) : Int)) L
theorem sim_lenT {K : PySem.W.Frag} : SimRL K (fun xs H Q => ∃ (p : Addr) (kvs : List (List Key × V)), xs = [.ref p] ∧ Rd H p (.dT kvs) ∧ Q (.int ((kvs.length : Nat) : Int)) H) lenTD := by
  rintro S xs as Q q k r R ⟨x, es, rfl, h1, h⟩
  obtain ⟨v, rfl, r1⟩ := vals1R r
  obtain ⟨a, ks, rfl, h2, h3⟩ := vDT_ok k r1 h1
  exact ⟨a, ks, rfl, h2, R S _ _ (.refl S) k (.int _) (by rw [show ks.length = es.length from TabR.len (S := S) h3]; exact h)⟩
/-! data within data becomes data -/
def swapR (w : Addr) (y : D) : D → D
  | .ref b => if b = w then y else .ref b
  | d => d
theorem RpL.swap {K : PySem.W.Frag} {H : Hp} {Λ : Addr → Prop} {w : Addr} {y : D} (r : Rp K H Λ (.ref w) y) : ∀ {vs : List V} {ds : List D}, RpL K H Λ vs ds → RpL K H Λ vs (ds.map (swapR w y))
  | _, _, .nil => .nil
  | _, _, .cons (d := d) h t => by
    refine .cons ?_ (RpL.swap r t)
    cases h with
    | ref a =>
      show Rp K H Λ _ (if a = w then y else .ref a)
      by_cases e : a = w
      · subst e; rw [if_pos rfl]; exact r
      · rw [if_neg e]; exact .ref a
    | non => exact .non
    | bl b => exact .bl b
    | int i => exact .int i
    | str x => exact .str x
    | ty n => exact .ty n
    | lst a b c => exact .lst a b c
    | tup a b c => exact .tup a b c
    | ctup a b => exact .ctup a b
    | dK a b c e => exact .dK a b c e
    | dT a b c e => exact .dT a b c e
    | ins a b c e => exact .ins a b c e
    | err a b c e f g => exact .err a b c e f g
    | exo a b c e => exact .exo a b c e
    | scr a b => exact .scr a b
def swapC (w : Addr) (y : D) : Cell → Cell
  | .lst ds => .lst (ds.map (swapR w y))
  | .dK es => .dK (es.map fun e => (e.1, swapR w y e.2))
  | .dT es => .dT (es.map fun e => (e.1, swapR w y e.2))
  | .ins C fs => .ins C (fs.map fun e => (e.1, swapR w y e.2))
theorem CellOk.swap {K : PySem.W.Frag} {H : Hp} {Λ : Addr → Prop} {w a : Addr} {y : D} {c : Cell} (r : Rp K H Λ (.ref w) y) (h : CellOk K H Λ a c) : CellOk K H Λ a (swapC w y c) := by
  cases c with
  | lst ds =>
    obtain ⟨xs, h1, h2⟩ := h
    exact ⟨xs, h1, h2.swap r⟩
  | dK es =>
    obtain ⟨ks, h1, h2, h3⟩ := h
    refine ⟨ks, h1, by rw [h2, List.map_map]; rfl, ?_⟩
    have := h3.swap r
    rw [List.map_map] at this ⊢
    exact this
  | dT es =>
    obtain ⟨ks, h1, h2, h3⟩ := h
    refine ⟨ks, h1, by rw [h2, List.map_map]; rfl, ?_⟩
    have := h3.swap r
    rw [List.map_map] at this ⊢
    exact this
  | ins C es =>
    obtain ⟨dx, ks, h1, h2, h3⟩ := h
    refine ⟨dx, ks, h1, by rw [h2, List.map_map]; rfl, ?_⟩
    have := h3.swap r
    rw [List.map_map] at this ⊢
    exact this
/-- within a cell -/
theorem Gh.inside {d y : D} {L L1 : Lc} {w a : Addr} {c : Cell} (g : Gh (.ref w) L y L1) (h1 : L1 a = some c) : Gh d L d (updL L1 a (swapC w y c)) := fun K S v k e r => by
  obtain ⟨T, t1, t2, ev, k2, r2⟩ := g K S (.ref w) k e (.ref w)
  subst t2
  have ev2 : Ev T ⟨T.H, updL T.L a (swapC w y c), T.Λ⟩ := ⟨fun b u h m => ⟨m, u, h, .refl u⟩, fun b h m => ⟨rfl, h, by
    have ne : b ≠ a := fun z => by rw [z, h1] at m; cases m
    show updL T.L a (swapC w y c) b = none
    rw [updL_ne ne]; exact m⟩⟩
  refine ⟨⟨T.H, updL T.L a (swapC w y c), T.Λ⟩, t1, rfl, ev.trans ev2, ⟨fun b c' hb => ?_, fun b hb => k2.there b hb⟩, (r.ev ev).ev ev2⟩
  have hb' : updL T.L a (swapC w y c) b = some c' := hb
  by_cases z : b = a
  · subst z
    rw [updL_same] at hb'
    cases hb'
    obtain ⟨m1, m2⟩ := k2.cell b c h1
    exact ⟨m1, m2.swap r2⟩
  · rw [updL_ne z] at hb'
    exact k2.cell b c' hb'
/-- within a list -/
theorem Gh.lstIn {y : D} {L L1 : Lc} {w : Addr} {ds : List D} (g : Gh (.ref w) L y L1) : Gh (.lst ds) L (.lst (ds.map (swapR w y))) L1 := fun K S v k e r => by
  obtain ⟨T, t1, t2, ev, k2, r2⟩ := g K S (.ref w) k e (.ref w)
  refine ⟨T, t1, t2, ev, k2, ?_⟩
  cases r.ev ev with
  | lst n h1 h2 => exact .lst n h1 (h2.swap r2)
theorem Gh.tupIn {y : D} {L L1 : Lc} {w : Addr} {ds : List D} (g : Gh (.ref w) L y L1) : Gh (.tup ds) L (.tup (ds.map (swapR w y))) L1 := fun K S v k e r => by
  obtain ⟨T, t1, t2, ev, k2, r2⟩ := g K S (.ref w) k e (.ref w)
  refine ⟨T, t1, t2, ev, k2, ?_⟩
  cases r.ev ev with
  | tup n h1 h2 => exact .tup n h1 (h2.swap r2)
theorem cls_no {mt : Addr → Addr → Bool → Prop} {w : EW} {D0 : DEnds} {c : DCl} {l : List (Option DCt)} {C : Addr} {gs : List (Str × D)} {ρ : Dv} {L : Lc} (h : mt C c.c false) (k : dClsT mt w D0 l C gs ρ L) : dClsT mt w D0 (some (.one c) :: l) C gs ρ L := ⟨false, h, (fun e => nomatch e), fun _ => k⟩
theorem cls_yes {mt : Addr → Addr → Bool → Prop} {w : EW} {D0 : DEnds} {c : DCl} {l : List (Option DCt)} {C : Addr} {gs : List (Str × D)} {ρ : Dv} {L : Lc} (h : mt C c.c true) (k : ∀ a dd, c.ds a dd C noW (D0.gone c.i) (dput ρ (.exo a dd C gs) c.i) L) : dClsT mt w D0 (some (.one c) :: l) C gs ρ L := ⟨true, h, fun _ => k, (fun e => nomatch e)⟩
theorem vIns_of {L : Lc} {a C : Addr} {fs : List (Str × D)} (h : L a = some (.ins C fs)) : vIns L (.ref a) = some (C, fs) := by simp [vIns, h]
end Ed

set_option Elab.async false
set_option linter.all false
set_option maxRecDepth 100000
set_option maxHeartbeats 2000000
/-! Methods called with keywords. -/
namespace Ed
open PySem PySem.Spec PyProof.Rows L2 Dz
/-- o.m(.., k = v) -/
def tMthKS (C : Addr) (m : Str) (n mm : Nat) (r : L2.St → List V → List V → Hp → VK → Prop) (ta : TE) (t tk : TA) : TE := fun σ H Q => ta σ H fun x H1 => ∃ a dx fs, x = .ref a ∧ H1 a = some (.ins C dx fs) ∧ fs.lookup m = none ∧ t σ H1 fun vs H2 => tk σ H2 fun zs H3 => (x :: vs).length = n ∧ zs.length = mm ∧ r σ (x :: vs) zs H3 Q
def dMthK (C : Addr) (m : Str) (sp : DSp) (n mm : Nat) (g : List D → List D → List D) (np : Nat) (o : DTE) (a b : DTA) : DTE := fun w ρ L q => o w ρ L fun x L1 => ∃ fs, vIns L1 x = some (C, fs) ∧ fs.lookup m = none ∧ a w ρ L1 fun ds L2 => b w ρ L2 fun es L3 => (x :: ds).length = n ∧ es.length = mm ∧ (g (x :: ds) es).length = np ∧ sp (g (x :: ds) es) L3 q fun E gs L4 => w E gs ρ L4
section
variable {X : Cx} {K : PySem.W.Frag} {k n nn : Nat} {f C : Addr} {ps ks : List Str} {sp : DSp} {x m qual : Str} {st : Stmt} {dvs : List V} {kwd : List (Str × V)} {o e : Expr} {es : List Expr} {kws : List Keyword} {apos pos : Pos} {ta : WX → TE} {da : DTE} {tr tk : WX → TA} {dr dk : DTA}
section
variable {r : L2.St → List V → List V → Hp → VK → Prop} {to : TE} {t u : TA} {pl : Sem Bool}
theorem pe_mthKS0 (he : PE X o to) (c : Cls X.K C) (hm : Meth X.K C m f) (hc : CallKS X (.ref f) 1 ks r) (hkw : PK X kws u)
    (ht : eval (.Call (.Attribute o m apos) [] kws pos) X.env = (do
      let ov ← eval o X.env
      standAt apos.atName
      let (f, first) ← holding [ov] (getMethod ov m pl)
      callWith pos f first (backTo pos (starEach [] X.env)) (backToKw pos (keywordEach kws X.env))) := by rfl)
    (hall : (backToKw pos (keywordEach kws X.env)).all (·.1.isSome) = true := by rfl) (hks : (backToKw pos (keywordEach kws X.env)).filterMap (·.1) = ks := by rfl)
    (hpl : ((backTo pos (starEach [] X.env)).any (·.1) || (backToKw pos (keywordEach kws X.env)).any (·.1.isNone)) = false := by rfl) :
    PE X (.Call (.Attribute o m apos) [] kws pos) (tMthKS C m 1 ks.length r to tNil u) := by
  constructor
  intro pins s σ H Q I h
  refine PySem.W.methodCall_KW (pl := pl) (thn (he.run pins s σ H _ I h) ?_) ht
  rintro v s1 ⟨y, H1, I1, ry, a, dx, fs, rfl, ea, l, q⟩
  cases (show v = Value.ref a from ry)
  refine getmeth_ok I1 ea c hm l ?_
  refine PySem.W.callWith_KW0 (first := [.ref a]) (h₀ := X.base) I.ok.mod.kin hm.kp hall ?_ hpl
  refine thn (hkw.run pos pins s1 σ H1 _ I1 q) ?_
  rintro ws s2 ⟨zs, H2, I2, rz, l1, l2, q2⟩
  refine ⟨I2.kIn, ?_⟩
  rw [hks]
  exact hc pins s2 σ H2 [.ref a] zs [.ref a] ws Q I2 (.cons rfl .nil) rz l1 l2 q2
theorem pe_mthKS (he : PE X o to) (c : Cls X.K C) (hm : Meth X.K C m f) (hc : CallKS X (.ref f) n ks r) (ha : PA X (e :: es) t) (hkw : PK X kws u)
    (ht : eval (.Call (.Attribute o m apos) (e :: es) kws pos) X.env = (do
      let ov ← eval o X.env
      standAt apos.atName
      let (f, first) ← holding [ov] (getMethod ov m pl)
      callWith pos f first (backTo pos (starEach (e :: es) X.env)) (backToKw pos (keywordEach kws X.env))) := by rfl)
    (hall : (backToKw pos (keywordEach kws X.env)).all (·.1.isSome) = true := by rfl) (hks : (backToKw pos (keywordEach kws X.env)).filterMap (·.1) = ks := by rfl)
    (hst : starEach (e :: es) X.env = (false, eval e X.env) :: starEach es X.env := by rfl)
    (hpl : ((backTo pos (starEach (e :: es) X.env)).any (·.1) || (backToKw pos (keywordEach kws X.env)).any (·.1.isNone)) = false := by rfl) :
    PE X (.Call (.Attribute o m apos) (e :: es) kws pos) (tMthKS C m n ks.length r to t u) := by
  constructor
  intro pins s σ H Q I h
  refine PySem.W.methodCall_KW (pl := pl) (thn (he.run pins s σ H _ I h) ?_) ht
  rintro v s1 ⟨y, H1, I1, ry, a, dx, fs, rfl, ea, l, q⟩
  cases (show v = Value.ref a from ry)
  refine getmeth_ok I1 ea c hm l ?_
  refine PySem.W.callWith_KW (first := [.ref a]) (h₀ := X.base) I.ok.mod.kin hm.kp hall (thn (ha.run pos pins s1 σ H1 _ I1 q) ?_) hpl hst
  rintro us s2 ⟨vs, H2, I2, rv, q2⟩
  refine thn (hkw.run pos pins s2 σ H2 _ I2 q2) ?_
  rintro ws s3 ⟨zs, H3, I3, rz, l1, l2, q3⟩
  refine ⟨I3.kIn, ?_⟩
  rw [hks]
  exact hc pins s3 σ H3 (.ref a :: vs) zs (.ref a :: us) ws Q I3 (.cons rfl rv) rz l1 l2 q3
end
theorem sim_mthK {is : List Nat} {ms : List V} {md : List D} (hm' : CRL K ms md) (ho : SimE K ta da) (ha : SimA K tr dr) (hk : SimA K tk dk) : SimE K (fun W => tMthKS C m n ks.length (fun σ vs zs H Q => spD K nn sp (gPerm is ms vs zs) H Q (WE W σ)) (ta W) (tr W) (tk W)) (dMthK C m sp n ks.length (gPerm is md) nn da dr dk) := fun W ew S σ ρ Q q I R h => by
  refine ho W ew S σ ρ _ _ I (fun S1 v x e1 k1 r1 h1 => ?_) h
  obtain ⟨fs, hv, hl, h1⟩ := h1
  obtain ⟨a, dx, gs, rfl, h2, h3⟩ := vIns_ok k1 r1 hv
  have hn : gs.lookup m = none := by
    rcases h3.lookup m with ⟨_, z⟩ | ⟨d, v, z, _⟩
    · exact z
    · rw [hl] at z; cases z
  refine ⟨a, dx, gs, rfl, h2, hn, ?_⟩
  refine ha W ew S1 σ ρ _ _ (I.ev e1 k1) (fun S2 vs xs e2 k2 r2 h4 => ?_) h1
  refine hk W ew S2 σ ρ _ _ (I.ev (e1.trans e2) k2) (fun S3 zs ys e3 k3 r3 h5 => ?_) h4
  obtain ⟨l1, l2, l3, h5⟩ := h5
  have e13 := (e1.trans e2).trans e3
  exact ⟨by rw [List.length_cons, r2.length]; exact l1, by rw [r3.length]; exact l2, S3, _, q, _, rfl, k3, gPerm_rp hm' (.cons (r1.ev (e2.trans e3)) (r2.ev e3)) r3, l3, R.ev e13, relE_w (I.wi.ev e13) (I.sl.ev e13), h5⟩
theorem d_mthK0 {pl : Sem Bool} {is : List Nat} {ms : List V} {md : List D} (hm' : CRL K ms md) (c : Cls X.K C) (hm : Meth X.K C m f) (G : Kx X.prog X.w X.K X.mg X.base (L2.CX X.prog X.w) k x qual st dvs kwd f ps (spD K nn sp)) (hcl : Calm X.A) (hr : Room k X.A) (hb : ∀ fd, FunD X.K x qual (defArgs st) (defBody st) (defScope st) dvs kwd f fd → ∃ g, KBn X.K fd ps 1 ks g (gPerm is ms)) (ho : DE X K ta o da) (hkw : DK X K tk kws dk)
    (ht : eval (.Call (.Attribute o m apos) [] kws pos) X.env = (do
      let ov ← eval o X.env
      standAt apos.atName
      let (f, first) ← holding [ov] (getMethod ov m pl)
      callWith pos f first (backTo pos (starEach [] X.env)) (backToKw pos (keywordEach kws X.env))) := by rfl)
    (hall : (backToKw pos (keywordEach kws X.env)).all (·.1.isSome) = true := by rfl) (hks : (backToKw pos (keywordEach kws X.env)).filterMap (·.1) = ks := by rfl)
    (hpl : ((backTo pos (starEach [] X.env)).any (·.1) || (backToKw pos (keywordEach kws X.env)).any (·.1.isNone)) = false := by rfl) :
    DE X K (fun W => tMthKS C m 1 ks.length (fun σ vs zs H Q => spD K nn sp (gPerm is ms vs zs) H Q (WE W σ)) (ta W) tNil (tk W)) (.Call (.Attribute o m apos) [] kws pos) (dMthK C m sp 1 ks.length (gPerm is md) nn da dNil dk) :=
  ⟨fun W t => pe_mthKS0 (ho.pe W t) c hm (callKS_x (CX := L2.CX X.prog X.w) G hcl hr hb t) (hkw.pk W t) ht hall hks hpl, sim_mthK hm' ho.sim (da_nil (X := X)).sim hkw.sim⟩
theorem d_mthK {pl : Sem Bool} {is : List Nat} {ms : List V} {md : List D} (hm' : CRL K ms md) (c : Cls X.K C) (hm : Meth X.K C m f) (G : Kx X.prog X.w X.K X.mg X.base (L2.CX X.prog X.w) k x qual st dvs kwd f ps (spD K nn sp)) (hcl : Calm X.A) (hr : Room k X.A) (hb : ∀ fd, FunD X.K x qual (defArgs st) (defBody st) (defScope st) dvs kwd f fd → ∃ g, KBn X.K fd ps n ks g (gPerm is ms)) (ho : DE X K ta o da) (ha : DA X K tr (e :: es) dr) (hkw : DK X K tk kws dk)
    (ht : eval (.Call (.Attribute o m apos) (e :: es) kws pos) X.env = (do
      let ov ← eval o X.env
      standAt apos.atName
      let (f, first) ← holding [ov] (getMethod ov m pl)
      callWith pos f first (backTo pos (starEach (e :: es) X.env)) (backToKw pos (keywordEach kws X.env))) := by rfl)
    (hall : (backToKw pos (keywordEach kws X.env)).all (·.1.isSome) = true := by rfl) (hks : (backToKw pos (keywordEach kws X.env)).filterMap (·.1) = ks := by rfl)
    (hst : starEach (e :: es) X.env = (false, eval e X.env) :: starEach es X.env := by rfl)
    (hpl : ((backTo pos (starEach (e :: es) X.env)).any (·.1) || (backToKw pos (keywordEach kws X.env)).any (·.1.isNone)) = false := by rfl) :
    DE X K (fun W => tMthKS C m n ks.length (fun σ vs zs H Q => spD K nn sp (gPerm is ms vs zs) H Q (WE W σ)) (ta W) (tr W) (tk W)) (.Call (.Attribute o m apos) (e :: es) kws pos) (dMthK C m sp n ks.length (gPerm is md) nn da dr dk) :=
  ⟨fun W t => pe_mthKS (ho.pe W t) c hm (callKS_x (CX := L2.CX X.prog X.w) G hcl hr hb t) (ha.pa W t) (hkw.pk W t) ht hall hks hst hpl, sim_mthK hm' ho.sim ha.sim hkw.sim⟩
theorem v_mthK {w : EW} {ρ : Dv} {L : Lc} {q : DQ} {sp : DSp} {n mm np : Nat} {g : List D → List D → List D} {o : DTE} {a b : DTA} (h : o w ρ L fun x L1 => ∃ fs, vIns L1 x = some (C, fs) ∧ fs.lookup m = none ∧ a w ρ L1 fun ds L2 => b w ρ L2 fun es L3 => (x :: ds).length = n ∧ es.length = mm ∧ (g (x :: ds) es).length = np ∧ sp (g (x :: ds) es) L3 q fun E gs L4 => w E gs ρ L4) : dMthK C m sp n mm g np o a b w ρ L q := h
end
theorem kb_0 {K : PySem.W.Frag} {x qual : Str} {params : Arguments} {body : List Stmt} {scope : Scope} {kws : List (Str × V)} {f : Addr} {fd : FuncData} {ps : List Str} (F : FunD K x qual params body scope [] kws f fd) (n : Nat) (ks : List Str) (g : {α : Type} → List α → List α → List α)
    (hrel : ∀ {vs zs : List V} {us ws : List Value}, Vals vs us → Vals zs ws → Vals (g vs zs) (g us ws))
    (h : ∀ (kV doc pm : Value) (an : Option Addr) (cdv ct : Value) (us ws : List Value), us.length = n → ws.length = ks.length →
      bindArgs (PySem.W.fnOf x qual params body scope .none kV doc pm an cdv ct) ⟨us, ks.zip ws⟩ = pure (ps.zip (g us ws))) :
    KBn K fd ps n ks (fun us ws => g us ws) (fun vs zs => g vs zs) := by
  obtain ⟨oc, od, dV, kV, doc, pm, an, cdv, ct, osl, rfl, lk, hcd, hD, hK⟩ := F.ex
  rcases hD with ⟨_, rfl⟩ | ⟨z, _⟩
  · exact ⟨fun s us ws X l1 l2 => .of_eq (h kV doc pm an cdv ct us ws l1 l2), fun r1 r2 => hrel r1 r2⟩
  · exact absurd rfl z
/-! data that is laid out -/
theorem canLay_all {ps : List PyData} (h : ∀ p ∈ ps, p.canLay0 = true) : PyData.canLayAll0 ps = true := by
  induction ps with
  | nil => rfl
  | cons p ps ih => rw [PyData.canLayAll0, h p List.mem_cons_self, ih fun q hq => h q (List.mem_cons_of_mem _ hq)]; rfl
theorem depth_all {ps : List PyData} {n : Nat} (h : ∀ p ∈ ps, p.depth ≤ n) : PyData.depthAll ps ≤ n := by
  induction ps with
  | nil => exact Nat.zero_le _
  | cons p ps ih =>
    have h1 := h p List.mem_cons_self
    have h2 := ih fun q hq => h q (List.mem_cons_of_mem _ hq)
    simp only [PyData.depthAll]
    omega
end Ed

set_option Elab.async false
set_option linter.all false
set_option maxRecDepth 100000
set_option maxHeartbeats 2000000
/-! Data without dicts: as == compares it. -/
namespace Ed
open PySem PySem.Spec PyProof.Rows L2 Dz
mutual
theorem py_plain (L : Lc) : ∀ d, okD d = true → noK d = true → PyR L d (pyOf d)
  | .non, _, _ => by rw [pyOf.eq_def]; exact .non
  | .bl b, _, _ => by rw [pyOf.eq_def]; exact .bl b
  | .int i, _, _ => by rw [pyOf.eq_def]; exact .int i
  | .str x, _, _ => by rw [pyOf.eq_def]; exact .str x
  | .lst ds, h, n => by rw [pyOf.eq_def]; exact .lst (pyL_plain L ds (by rw [okD.eq_def] at h; exact h) (by rw [noK.eq_def] at n; exact n))
  | .tup ds, h, n => by rw [pyOf.eq_def]; exact .tup (pyL_plain L ds (by rw [okD.eq_def] at h; exact h) (by rw [noK.eq_def] at n; exact n))
  | .ctup _, h, _ => by rw [okD.eq_def] at h; cases h
  | .dK es, _, n => by rw [noK.eq_def] at n; cases n
  | .ty _, h, _ => by rw [okD.eq_def] at h; cases h
  | .dT _, h, _ => by rw [okD.eq_def] at h; cases h
  | .ins _ _, h, _ => by rw [okD.eq_def] at h; cases h
  | .err _ _, h, _ => by rw [okD.eq_def] at h; cases h
  | .exo _ _ _ _, h, _ => by rw [okD.eq_def] at h; cases h
  | .scr _, h, _ => by rw [okD.eq_def] at h; cases h
  | .ref _, h, _ => by rw [okD.eq_def] at h; cases h
theorem pyL_plain (L : Lc) : ∀ ds, okDs ds = true → noKs ds = true → PyRL L ds (pyOfL ds)
  | [], _, _ => by rw [pyOfL.eq_def]; exact .nil
  | d :: ds, h, n => by
    rw [okDs.eq_def] at h
    rw [noKs.eq_def] at n
    obtain ⟨h1, h2⟩ := Bool.and_eq_true_iff.mp h
    obtain ⟨n1, n2⟩ := Bool.and_eq_true_iff.mp n
    rw [pyOfL.eq_def]
    exact .cons (py_plain L d h1 n1) (pyL_plain L ds h2 n2)
end
mutual
theorem lay_plain : ∀ d, okD d = true → noK d = true → (pyOf d).canLay0 = true
  | .non, _, _ => by rw [pyOf.eq_def]; rfl
  | .bl b, _, _ => by rw [pyOf.eq_def]; rfl
  | .int i, _, _ => by rw [pyOf.eq_def]; rfl
  | .str x, h, _ => by
    rw [pyOf.eq_def]
    rw [okD.eq_def] at h
    have := asc_ok (asc_of (Bool.and_eq_true_iff.mp h).1)
    simp [PyData.canLay0, this]
  | .lst ds, h, n => by
    rw [pyOf.eq_def]
    have := layL_plain ds (by rw [okD.eq_def] at h; exact h) (by rw [noK.eq_def] at n; exact n)
    simp [PyData.canLay0, this]
  | .tup ds, h, n => by
    rw [pyOf.eq_def]
    have := layL_plain ds (by rw [okD.eq_def] at h; exact h) (by rw [noK.eq_def] at n; exact n)
    simp [PyData.canLay0, this]
  | .ctup _, h, _ => by rw [okD.eq_def] at h; cases h
  | .dK es, _, n => by rw [noK.eq_def] at n; cases n
  | .ty _, h, _ => by rw [okD.eq_def] at h; cases h
  | .dT _, h, _ => by rw [okD.eq_def] at h; cases h
  | .ins _ _, h, _ => by rw [okD.eq_def] at h; cases h
  | .err _ _, h, _ => by rw [okD.eq_def] at h; cases h
  | .exo _ _ _ _, h, _ => by rw [okD.eq_def] at h; cases h
  | .scr _, h, _ => by rw [okD.eq_def] at h; cases h
  | .ref _, h, _ => by rw [okD.eq_def] at h; cases h
theorem layL_plain : ∀ ds, okDs ds = true → noKs ds = true → PyData.canLayAll0 (pyOfL ds) = true
  | [], _, _ => by rw [pyOfL.eq_def]; rfl
  | d :: ds, h, n => by
    rw [okDs.eq_def] at h
    rw [noKs.eq_def] at n
    obtain ⟨h1, h2⟩ := Bool.and_eq_true_iff.mp h
    obtain ⟨n1, n2⟩ := Bool.and_eq_true_iff.mp n
    rw [pyOfL.eq_def]
    simp [PyData.canLayAll0, lay_plain d h1 n1, layL_plain ds h2 n2]
end
mutual
theorem eqv_plain : ∀ d, okD d = true → noK d = true → PyData.eqv (pyOf d) (pyOf d) = true
  | .non, _, _ => by rw [pyOf.eq_def]; simp [PyData.eqv]
  | .bl b, _, _ => by rw [pyOf.eq_def]; simp [PyData.eqv]
  | .int i, _, _ => by rw [pyOf.eq_def]; simp [PyData.eqv]
  | .str x, h, _ => by rw [pyOf.eq_def]; simp [PyData.eqv]
  | .lst ds, h, n => by
    rw [pyOf.eq_def]
    have := eqvL_plain ds (by rw [okD.eq_def] at h; exact h) (by rw [noK.eq_def] at n; exact n)
    simp [PyData.eqv, this]
  | .tup ds, h, n => by
    rw [pyOf.eq_def]
    have := eqvL_plain ds (by rw [okD.eq_def] at h; exact h) (by rw [noK.eq_def] at n; exact n)
    simp [PyData.eqv, this]
  | .ctup _, h, _ => by rw [okD.eq_def] at h; cases h
  | .dK es, _, n => by rw [noK.eq_def] at n; cases n
  | .ty _, h, _ => by rw [okD.eq_def] at h; cases h
  | .dT _, h, _ => by rw [okD.eq_def] at h; cases h
  | .ins _ _, h, _ => by rw [okD.eq_def] at h; cases h
  | .err _ _, h, _ => by rw [okD.eq_def] at h; cases h
  | .exo _ _ _ _, h, _ => by rw [okD.eq_def] at h; cases h
  | .scr _, h, _ => by rw [okD.eq_def] at h; cases h
  | .ref _, h, _ => by rw [okD.eq_def] at h; cases h
theorem eqvL_plain : ∀ ds, okDs ds = true → noKs ds = true → PyData.eqvAll (pyOfL ds) (pyOfL ds) = true
  | [], _, _ => by rw [pyOfL.eq_def]; simp [PyData.eqvAll]
  | d :: ds, h, n => by
    rw [okDs.eq_def] at h
    rw [noKs.eq_def] at n
    obtain ⟨h1, h2⟩ := Bool.and_eq_true_iff.mp h
    obtain ⟨n1, n2⟩ := Bool.and_eq_true_iff.mp n
    rw [pyOfL.eq_def]
    simp [PyData.eqvAll, eqv_plain d h1 n1, eqvL_plain ds h2 n2]
end
theorem shaped_plain {d : D} {B k : Nat} (h : Th d B k) (n : noK d = true) (hk : k ≤ 60 := by omega) : SeqAt.shaped (pyOf d) = true := by
  unfold SeqAt.shaped
  rw [lay_plain d h.ok n, Bool.true_and]
  exact decide_eq_true (Nat.le_trans h.sq.dp (by omega))
/-- a list that is known, as such a list shows itself -/
theorem py_cell {L : Lc} {a : Addr} {ds : List D} (h : L a = some (.lst ds)) (ok : okDs ds = true) (n : noKs ds = true) : PyR L (.ref a) (pyOf (.lst ds)) := by
  rw [pyOf.eq_def]; exact .ref h (pyL_plain L ds ok n)
theorem noKs_all {ts : List D} (h : ∀ t ∈ ts, noK t = true) : noKs ts = true := by
  induction ts with
  | nil => rfl
  | cons t ts ih => rw [noKs.eq_def]; simp only [h t List.mem_cons_self, ih fun u hu => h u (List.mem_cons_of_mem _ hu), Bool.and_self]
end Ed

set_option Elab.async false
set_option linter.all false
set_option maxRecDepth 100000
set_option maxHeartbeats 2000000
local macro_rules | `(tactic| walk_at "vc1") => `(tactic| first
  | with_reducible refine Ed.v_seq ?_
  | with_reducible refine Ed.v_next ?_
  | with_reducible refine Ed.v_set ?_
  | with_reducible refine Ed.v_asg ?_
  | with_reducible refine Ed.v_gn ?_
  | with_reducible refine Ed.v_ret ?_
  | with_reducible refine Ed.v_ifS ?_
  | with_reducible refine Ed.v_op ?_
  | with_reducible refine Ed.v_c ?_
  | ((with_reducible refine Ed.v_var ?_); (refine ⟨_, rfl, ?_⟩))
  | with_reducible refine Ed.v_cons ?_
  | with_reducible refine Ed.v_nil ?_
  | with_reducible refine Ed.v_call ?_
  | with_reducible refine Ed.v_callD ?_
  | with_reducible refine Ed.v_test ?_
  | with_reducible refine Ed.v_tnot ?_
  | with_reducible refine Ed.v_tand ?_
  | with_reducible refine Ed.v_tor ?_
  | with_reducible refine Ed.v_not ?_
  | with_reducible refine Ed.v_and ?_
  | with_reducible refine Ed.v_or ?_
  | with_reducible refine Ed.v_bl ?_
  | with_reducible refine Ed.v_int ?_
  | with_reducible refine Ed.v_str1 ?_
  | with_reducible refine Ed.v_addI ?_
  | with_reducible refine Ed.v_sub ?_
  | with_reducible refine Ed.v_lt ?_
  | with_reducible refine Ed.v_le ?_
  | with_reducible refine Ed.v_gt ?_
  | with_reducible refine Ed.v_ge ?_
  | with_reducible refine Ed.v_eqI ?_
  | with_reducible refine Ed.v_neI ?_
  | with_reducible refine Ed.v_eqS ?_
  | with_reducible refine Ed.v_neS ?_
  | with_reducible refine Ed.v_neg ?_
  | with_reducible refine Ed.v_mth ?_
  | with_reducible refine Ed.v_fld ?_
  | with_reducible refine Ed.v_sfld ?_
  | with_reducible refine Ed.v_new ?_
  | with_reducible refine Ed.v_raise ?_
  | with_reducible refine Ed.v_one ?_
  | with_reducible refine Ed.v_cb ?_
  | with_reducible refine Ed.v_un ?_
  | with_reducible refine Ed.v_tup ?_
  | with_reducible refine Ed.v_lst ?_
  | with_reducible refine Ed.v_lstC ?_
  | with_reducible refine Ed.v_ifE ?_
  | with_reducible refine Ed.v_chain ?_
  | with_reducible refine Ed.v_sl ?_
  | with_reducible refine Ed.v_part ?_
  | with_reducible refine Ed.v_nopart ?_
  | with_reducible refine Ed.v_drop ?_
  | with_reducible refine Ed.v_bm ?_
  | with_reducible refine Ed.v_for ?_
  | with_reducible refine Ed.v_lc ?_
  | with_reducible refine Ed.v_lcC ?_
  | with_reducible refine Ed.v_rng1 ?_
  | with_reducible refine Ed.v_iseq ?_
  | with_reducible refine Ed.v_itup ?_
  | with_reducible refine Ed.v_istr ?_
  | with_reducible refine Ed.v_yes ?_
  | ((with_reducible refine Ed.v_gtup ?_); (refine ⟨rfl, ?_⟩))
  | ((with_reducible refine Ed.v_gunl ?_); (refine ⟨rfl, ?_⟩))
  | with_reducible refine Ed.v_gcons ?_
  | with_reducible refine Ed.v_gnil ?_
  | with_reducible refine Ed.v_gsub ?_
  | with_reducible refine Ed.v_par ?_
  | with_reducible refine Ed.v_pair ?_
  | with_reducible refine Ed.v_par3 ?_
  | with_reducible refine Ed.v_three ?_
  | with_reducible refine Ed.v_joined ?_
  | with_reducible refine Ed.v_jcons ?_
  | with_reducible refine Ed.v_jnil ?_
  | with_reducible refine Ed.v_fmtS ?_
  | with_reducible refine Ed.v_isN ?_
  | with_reducible refine Ed.v_notN ?_
  | with_reducible refine Ed.v_isB ?_
  | with_reducible refine Ed.v_notB ?_
  | with_reducible refine Ed.v_brk ?_
  | with_reducible refine Ed.v_cnt ?_
  | with_reducible refine Ed.v_retN ?_
  | with_reducible refine Ed.v_dKC ?_
  | with_reducible refine Ed.v_dK ?_
  | with_reducible refine Ed.v_ip ?_
  | ((with_reducible refine Ed.v_aug ?_); (refine ⟨_, rfl, ?_⟩)))
local macro_rules | `(tactic| walk_at "vc") => `(tactic| repeat (walk_at "vc1"))
local macro_rules | `(tactic| walk_at "w1") => `(tactic| first
  | walk_at "vc1"
  | with_reducible refine Ed.v_try ?_
  | with_reducible refine Ed.v_mthK ?_
  | with_reducible refine Ed.v_get2 ?_
  | with_reducible refine Ed.v_revT ?_
  | with_reducible refine Ed.v_tup1 ?_
  | ((with_reducible refine Ed.v_sz ?h ?_); (case h => rfl))
  | ((with_reducible refine Ed.v_ix0 (x0 := ?x0) (l := ?l) ?h ?_); (case h => first | rfl | exact Ed.vs_ref (by assumption)))
  | ((with_reducible refine Ed.v_ix1 (x0 := ?x0) (x1 := ?x1) (l := ?l) ?h ?_); (case h => first | rfl | exact Ed.vs_ref (by assumption)))
  | ((with_reducible refine Ed.v_ix2 (x0 := ?x0) (x1 := ?x1) (x2 := ?x2) (l := ?l) ?h ?_); (case h => first | rfl | exact Ed.vs_ref (by assumption)))
  | ((with_reducible refine Ed.v_ix3 (x0 := ?x0) (x1 := ?x1) (x2 := ?x2) (x3 := ?x3) (l := ?l) ?h ?_); (case h => first | rfl | exact Ed.vs_ref (by assumption)))
  | ((with_reducible refine Ed.v_ix4 (x0 := ?x0) (x1 := ?x1) (x2 := ?x2) (x3 := ?x3) (x4 := ?x4) (l := ?l) ?h ?_); (case h => first | rfl | exact Ed.vs_ref (by assumption)))
  | ((with_reducible refine Ed.v_ix5 (x0 := ?x0) (x1 := ?x1) (x2 := ?x2) (x3 := ?x3) (x4 := ?x4) (x5 := ?x5) (l := ?l) ?h ?_); (case h => first | rfl | exact Ed.vs_ref (by assumption)))
  | ((with_reducible refine Ed.v_ix6 (x0 := ?x0) (x1 := ?x1) (x2 := ?x2) (x3 := ?x3) (x4 := ?x4) (x5 := ?x5) (x6 := ?x6) (l := ?l) ?h ?_); (case h => first | rfl | exact Ed.vs_ref (by assumption)))
  | ((with_reducible refine Ed.v_isiT ?h ?_); (case h => assumption))
  | ((with_reducible refine Ed.v_isiS ?h ?_); (case h => assumption))
  | ((with_reducible refine Ed.v_isiL ?h ?_); (case h => assumption))
  | ((with_reducible refine Ed.v_isiI ?h ?_); (case h => assumption))
  | ((with_reducible refine Ed.v_isiB ?h ?_); (case h => assumption))
  | ((with_reducible refine Ed.v_eqT ?h ?_); (case h => assumption))
  | ((with_reducible refine Ed.v_inT ?h (.inl rfl) ?_); (case h => assumption))
  | ((with_reducible refine Ed.v_lenL (ds := ?ds) ?h ?_); (case h => first | rfl | exact Ed.vs_ref (by assumption)))
  | with_reducible refine Ed.v_isN2 ?_
  | with_reducible refine Ed.v_notN2 ?_
  | ((with_reducible refine Ed.v_itT ?h ?_); (case h => first | rfl | assumption | decide +kernel))
  | ((with_reducible refine Ed.v_itF ?h ?_); (case h => first | rfl | assumption | decide +kernel))
  | ((with_reducible refine Ed.v_szE ?h ?_); (case h => (have hsz : (1 : Nat) = 1 := rfl; omega))))
local macro_rules | `(tactic| walk_at "w") => `(tactic| repeat (walk_at "w1"))
namespace K16
open PySem PySem.Spec PyProof.Rows L2 Dz Ed
/-- where things stand -/
structure Ad where
  f_NoName_init : Addr
  f_NoNumber_init : Addr
  f_NoLog_init : Addr
  f_is_truth : Addr
  f_is_number : Addr
  f_is_at_least : Addr
  f_is_whole : Addr
  f_is_name : Addr
  f__is_made_of : Addr
  f_Device_init : Addr
  f_device_of : Addr
  f_is_told : Addr
  f__need_whole : Addr
  f_is_link : Addr
  f_is_row : Addr
  f_Log_init : Addr
  f_Log_add : Addr
  f_Log_rows : Addr
  f_Log_last : Addr
  f_Log_copied : Addr
  f_Log_len : Addr
  f__are_words : Addr
  f__is_deed : Addr
  f__is_end : Addr
  f__is_device_word : Addr
  f__are_links : Addr
  f__law_cell : Addr
  f__law_box : Addr
  f__law_take : Addr
  f__law_names : Addr
  f__law_links : Addr
  f__law_told_device : Addr
  f__law_words : Addr
  f__law_told : Addr
  f__law_last : Addr
  f__law_refused : Addr
  f__law_stands : Addr
  f_law : Addr
  C_WakeError : Addr
  C_NoName : Addr
  C_NoNumber : Addr
  C_NoLog : Addr
  C_Device : Addr
  C_Log : Addr
  t_PHASES : Addr
  t_BELLS : Addr
  t_STATES : Addr
  t__UNDONE : Addr
  t__DEVICE_DEEDS : Addr
  t__MACHINE_DEEDS : Addr
  t__ANSWERS : Addr
def mt (A : Ad) : Addr → Addr → Bool → Prop := fun C c b => (C = A.C_NoName ∧ c = A.C_NoName ∧ b = true) ∨ (C = A.C_NoName ∧ c = A.C_NoNumber ∧ b = false) ∨ (C = A.C_NoName ∧ c = A.C_NoLog ∧ b = false) ∨ (C = A.C_NoNumber ∧ c = A.C_NoName ∧ b = false) ∨ (C = A.C_NoNumber ∧ c = A.C_NoNumber ∧ b = true) ∨ (C = A.C_NoNumber ∧ c = A.C_NoLog ∧ b = false) ∨ (C = A.C_NoLog ∧ c = A.C_NoName ∧ b = false) ∨ (C = A.C_NoLog ∧ c = A.C_NoNumber ∧ b = false) ∨ (C = A.C_NoLog ∧ c = A.C_NoLog ∧ b = true)
/-- a device's tuple -/
abbrev tds (t : List D) : List (Str × D) := [("_told", .tup t)]
def toldI (A : Ad) (L : Lc) (x : D) (t : List D) : Prop := vIns L x = some (A.C_Device, tds t) ∧ t.length = 7

def toldD : D → Bool
  | .tup [n, p, b, s, w, f, r] => (dueOf n p b s w f r).isNone
  | _ => false
def linkD : D → Bool
  | .tup [.str a, .str b] => namD (.str a) && (namD (.str b) && !decide (a = b))
  | _ => false
def linksD : D → Bool
  | .tup ds => decide ((ds.length : Int) ≤ 16) && ds.all linkD
  | _ => false
def isDeedD (d n : D) : Bool := if (["gain", "release"] : List Str).any (fun z => isS z d) then namD n else (["tick", "sleep", "rise"] : List Str).any (fun z => isS z d) && isNonD n
def isEndD (d w : D) : Bool := (["done", "busy", "broken"] : List Str).any (fun z => isS z w) || (isS "sleep" d && isS "bell" w)
def devW (w : D) : Bool := (["waking", "wake", "falling", "doze", "stays", "off", "use", "reset", "unplug"] : List Str).any (fun z => isS z w) || ((["ready", "sleep", "late", "still"] : List Str).any (fun z => isS z w) || (["unready", "unsleep", "unlate", "unstill"] : List Str).any (fun z => isS z w))
def wordsD (a : D) (r : List D) : Bool :=
  if isS "begin" a then (match r with | [x, y] => isDeedD x y | _ => false)
  else if isS "end" a then (match r with | [x, y, z] => isDeedD x y && isEndD x z | _ => false)
  else if isS "missed" a then (match r with | [x, y] => namD x && namD y | _ => false)
  else if isS "bell" a then (match r with | [x, y] => namD x && (["unheard", "noted", "broke", "woke"] : List Str).any (fun z => isS z y) | _ => false)
  else if isS "plug" a then (match r with | [x, y] => toldD x && linksD y | _ => false)
  else (match r with | [x] => devW a && namD x | _ => false)
def rowD : D → Bool
  | .tup (t :: a :: b :: r) => atlD t 0 && wordsD a (b :: r)
  | _ => false
theorem kn_ok {L : Lc} {x : D} (h : okD x = true) : Kn L x := ok_kind h
theorem isNon_iff {x : D} : isNonD x = true ↔ x = .non := by cases x <;> simp [isNonD]

def sp_is_truth (A : Ad) : DSp := fun ds L q _ => ∃ x s, ds = [x] ∧ kindD L x = some s ∧ q (.bl (decide (s = "bool"))) L
def sp_is_number (A : Ad) : DSp := fun ds L q _ => ∃ x s, ds = [x] ∧ kindD L x = some s ∧ q (.bl (decide (s = "int"))) L
def sp_is_at_least (A : Ad) : DSp := fun ds L q _ => ∃ x low s, ds = [x, .int low] ∧ kindD L x = some s ∧ q (.bl (atlD x low)) L
def sp_is_whole (A : Ad) : DSp := fun ds L q _ => ∃ x low high s, ds = [x, .int low, .int high] ∧ kindD L x = some s ∧ q (.bl (whlD x low high)) L
def sp__is_made_of (A : Ad) : DSp := fun ds L q _ => ∃ z t : Str, ds = [.str z, .str t] ∧ z.length ≤ 5000 ∧ q (.bl (!decide (z = "") && allIn z t)) L
def sp_is_name (A : Ad) : DSp := fun ds L q _ => ∃ x s, ds = [x] ∧ kindD L x = some s ∧ (∀ z, x = .str z → z.length ≤ 5000) ∧ q (.bl (namD x)) L
def sp__need_whole (A : Ad) : DSp := fun ds L q e => ∃ v high, ds = [v, .int high] ∧ Kn L v ∧ (whlD v 0 high = true → q .non L) ∧ (whlD v 0 high = false → e A.C_NoNumber [("found", v)] L)
def sp_Device_init (A : Ad) : DSp := fun ds L q e => ∃ x n p b s w f r, ds = [.ref x, n, p, b, s, w, f, r] ∧ L x = some (.ins A.C_Device []) ∧ Kn L n ∧ Kn L p ∧ Kn L b ∧ Kn L s ∧ Kn L w ∧ Kn L f ∧ Kn L r ∧ Shs n ∧ Shs p ∧
  (dueOf n p b s w f r = none → q .non (updL L x (.ins A.C_Device [("_told", .tup [n, p, b, s, w, f, r])]))) ∧ (∀ nm v, dueOf n p b s w f r = some (nm, v) → e (if nm = true then A.C_NoName else A.C_NoNumber) [("found", v)] L)
def sp_device_of (A : Ad) : DSp := fun ds L q e => ∃ t, ds = [.tup t] ∧ t.length = 7 ∧ okDs t = true ∧ (toldD (.tup t) = true → q (.ins A.C_Device (tds t)) L) ∧ (toldD (.tup t) = false → ∀ nm v, e (if nm = true then A.C_NoName else A.C_NoNumber) [("found", v)] L)
def sp_is_told (A : Ad) : DSp := fun ds L q _ => ∃ x, ds = [x] ∧ okD x = true ∧ q (.bl (toldD x)) L
def sp_is_link (A : Ad) : DSp := fun ds L q _ => ∃ x, ds = [x] ∧ okD x = true ∧ q (.bl (linkD x)) L
def sp__are_links (A : Ad) : DSp := fun ds L q _ => ∃ x, ds = [x] ∧ okD x = true ∧ q (.bl (linksD x)) L
def sp__is_deed (A : Ad) : DSp := fun ds L q _ => ∃ x y, ds = [x, y] ∧ okD x = true ∧ okD y = true ∧ q (.bl (isDeedD x y)) L
def sp__is_end (A : Ad) : DSp := fun ds L q _ => ∃ x y, ds = [x, y] ∧ okD x = true ∧ okD y = true ∧ q (.bl (isEndD x y)) L
def sp__is_device_word (A : Ad) : DSp := fun ds L q _ => ∃ x, ds = [x] ∧ okD x = true ∧ q (.bl (devW x)) L
def sp__are_words (A : Ad) : DSp := fun ds L q _ => ∃ a b r, ds = [.tup (a :: b :: r)] ∧ okDs (a :: b :: r) = true ∧ q (.bl (wordsD a (b :: r))) L
def sp_is_row (A : Ad) : DSp := fun ds L q _ => ∃ x, ds = [x] ∧ okD x = true ∧ q (.bl (rowD x)) L
def b_is_truth (A : Ad) : DTS :=
  (dRet (dCB isiD (dCons (dVar 0) (dCons (dC (.ty "bool")) dNil))))
def b_is_number (A : Ad) : DTS :=
  (dRet (dAnd (dCB isiD (dCons (dVar 0) (dCons (dC (.ty "int")) dNil))) (dNot (dCall (sp_is_truth A) 1 (dCons (dVar 0) dNil)))))
def b_is_at_least (A : Ad) : DTS :=
  (dRet (dAnd (dCall (sp_is_number A) 1 (dCons (dVar 0) dNil)) (dOp leD (dVar 1) (dVar 0))))
def b_is_whole (A : Ad) : DTS :=
  (dRet (dAnd (dCall (sp_is_at_least A) 2 (dCons (dVar 0) (dCons (dVar 1) dNil))) (dOp leD (dVar 0) (dVar 2))))
def b__is_made_of (A : Ad) : DTS :=
  (dRet (dAnd (dOp neD (dVar 0) (dC (.str ""))) (dCB allD (dCons (dLc (diStr (dVar 0)) (dgName 2) dYes (dOp (inD false) (dVar 2) (dVar 1)) [2]) dNil))))
def b_is_name (A : Ad) : DTS :=
  (dRet (dAnd (dCB isiD (dCons (dVar 0) (dCons (dC (.ty "str")) dNil))) (dAnd (dOp leD (dCB lenD (dCons (dVar 0) dNil)) (dC (.int 8))) (dCall (sp__is_made_of A) 2 (dCons (dVar 0) (dCons (dC (.str "abcdefghijklmnopqrstuvwxyz")) dNil))))))
def b__need_whole (A : Ad) : DTS :=
  (dIfS (dtNot (dTest (dCall (sp_is_whole A) 3 (dCons (dVar 0) (dCons (dC (.int 0)) (dCons (dVar 1) dNil))))))
    (dRaise A.C_NoNumber "found" (dCons (dVar 0) dNil)) dNext)
def b_tail (A : Ad) : DTS := (dSeq (dDrop (dCall (sp__need_whole A) 2 (dCons (dVar 3) (dCons (dC (.int 100)) dNil))))
    (dSeq (dDrop (dCall (sp__need_whole A) 2 (dCons (dVar 4) (dCons (dVar 3) dNil))))
    (dSeq (dDrop (dCall (sp__need_whole A) 2 (dCons (dVar 5) (dCons (dC (.int 5)) dNil))))
    (dSeq (dDrop (dCall (sp__need_whole A) 2 (dCons (dVar 6) (dCons (dC (.int 5)) dNil))))
    (dSeq (dDrop (dCall (sp__need_whole A) 2 (dCons (dVar 7) (dCons (dC (.int 9)) dNil))))
    (dSFld A.C_Device "_told" (dVar 0) (dTup (dCons (dVar 1) (dCons (dVar 2) (dCons (dVar 3) (dCons (dVar 4) (dCons (dVar 5) (dCons (dVar 6) (dCons (dVar 7) dNil))))))))))))))
def b_Device_init (A : Ad) : DTS :=
  (dSeq (dIfS (dtNot (dTest (dCall (sp_is_name A) 1 (dCons (dVar 1) dNil))))
    (dRaise A.C_NoName "found" (dCons (dVar 1) dNil)) dNext)
    (dSeq (dIfS (dtAnd (dTest (dOp notND (dVar 2) (dC .non))) (dtNot (dTest (dCall (sp_is_name A) 1 (dCons (dVar 2) dNil)))))
    (dRaise A.C_NoName "found" (dCons (dVar 2) dNil)) dNext)
    (b_tail A)))
def b_device_of (A : Ad) : DTS :=
  (dSeq (dAsg (dVar 0) (dgTup 7 (dgCons (dgName 1) (dgCons (dgName 2) (dgCons (dgName 3) (dgCons (dgName 4) (dgCons (dgName 5) (dgCons (dgName 6) (dgCons (dgName 7) dgNil)))))))))
    (dRet (dNew A.C_Device (sp_Device_init A) 1 6 (gPerm [0, 1, 2, 3, 4, 5, 6, 7] []) 8 (dCons (dVar 1) dNil) (dCons (dVar 2) (dCons (dVar 3) (dCons (dVar 4) (dCons (dVar 5) (dCons (dVar 6) (dCons (dVar 7) dNil)))))))))
def b_is_told (A : Ad) : DTS :=
  (dSeq (dIfS (dtOr (dtNot (dTest (dCB isiD (dCons (dVar 0) (dCons (dC (.ty "tuple")) dNil))))) (dTest (dOp neD (dCB lenD (dCons (dVar 0) dNil)) (dC (.int 7)))))
    (dRet (dC (.bl false))) dNext)
    (dSeq (dTryT (mt A)
    (dDrop (dCall (sp_device_of A) 1 (dCons (dVar 0) dNil))) [some (.two A.C_NoName A.C_NoNumber fun a dd C => (dRet (dC (.bl false))))])
    (dRet (dC (.bl true)))))
def b_is_link (A : Ad) : DTS :=
  (dSeq (dIfS (dtOr (dtNot (dTest (dCB isiD (dCons (dVar 0) (dCons (dC (.ty "tuple")) dNil))))) (dTest (dOp neD (dCB lenD (dCons (dVar 0) dNil)) (dC (.int 2)))))
    (dRet (dC (.bl false))) dNext)
    (dRet (dAnd (dCall (sp_is_name A) 1 (dCons (dOp ixD (dVar 0) (dC (.int 0))) dNil)) (dAnd (dCall (sp_is_name A) 1 (dCons (dOp ixD (dVar 0) (dC (.int 1))) dNil)) (dOp neD (dOp ixD (dVar 0) (dC (.int 0))) (dOp ixD (dVar 0) (dC (.int 1))))))))
def b__are_links (A : Ad) : DTS :=
  (dSeq (dIfS (dtOr (dtNot (dTest (dCB isiD (dCons (dVar 0) (dCons (dC (.ty "tuple")) dNil))))) (dTest (dOp gtD (dCB lenD (dCons (dVar 0) dNil)) (dC (.int 16)))))
    (dRet (dC (.bl false))) dNext)
    (dRet (dCB allD (dCons (dLc (diTup (dVar 0)) (dgName 1) dYes (dCall (sp_is_link A) 1 (dCons (dVar 1) dNil)) [1]) dNil))))
def b__is_deed (A : Ad) : DTS :=
  (dSeq (dIfS (dTest (dOp inWD (dVar 0) (dC (.ctup ((["gain", "release"] : List Str).map .str)))))
    (dRet (dCall (sp_is_name A) 1 (dCons (dVar 1) dNil))) dNext)
    (dRet (dAnd (dOp inWD (dVar 0) (dC (.ctup ((["tick", "sleep", "rise"] : List Str).map .str)))) (dOp isND (dVar 1) (dC .non)))))
def b__is_end (A : Ad) : DTS :=
  (dRet (dOr (dOp inWD (dVar 1) (dC (.ctup ((["done", "busy", "broken"] : List Str).map .str)))) (dAnd (dOp eqWD (dVar 0) (dC (.str "sleep"))) (dOp eqWD (dVar 1) (dC (.str "bell"))))))
def b__is_device_word (A : Ad) : DTS :=
  (dRet (dOr (dOp inWD (dVar 0) (dC (.ctup ((["waking", "wake", "falling", "doze", "stays", "off", "use", "reset", "unplug"] : List Str).map .str)))) (dOr (dOp inWD (dVar 0) (dC (.ctup ((["ready", "sleep", "late", "still"] : List Str).map .str)))) (dOp inWD (dVar 0) (dC (.ctup ((["unready", "unsleep", "unlate", "unstill"] : List Str).map .str)))))))
def b__are_words (A : Ad) : DTS :=
  (dSeq (dSet 1 (dOp ixD (dVar 0) (dC (.int 0))))
    (dSeq (dIfS (dTest (dOp eqWD (dVar 1) (dC (.str "begin"))))
    (dRet (dAnd (dOp eqD (dCB lenD (dCons (dVar 0) dNil)) (dC (.int 3))) (dCall (sp__is_deed A) 2 (dCons (dOp ixD (dVar 0) (dC (.int 1))) (dCons (dOp ixD (dVar 0) (dC (.int 2))) dNil))))) dNext)
    (dSeq (dIfS (dTest (dOp eqWD (dVar 1) (dC (.str "end"))))
    (dRet (dAnd (dOp eqD (dCB lenD (dCons (dVar 0) dNil)) (dC (.int 4))) (dAnd (dCall (sp__is_deed A) 2 (dCons (dOp ixD (dVar 0) (dC (.int 1))) (dCons (dOp ixD (dVar 0) (dC (.int 2))) dNil))) (dCall (sp__is_end A) 2 (dCons (dOp ixD (dVar 0) (dC (.int 1))) (dCons (dOp ixD (dVar 0) (dC (.int 3))) dNil)))))) dNext)
    (dSeq (dIfS (dTest (dOp eqWD (dVar 1) (dC (.str "missed"))))
    (dRet (dAnd (dOp eqD (dCB lenD (dCons (dVar 0) dNil)) (dC (.int 3))) (dAnd (dCall (sp_is_name A) 1 (dCons (dOp ixD (dVar 0) (dC (.int 1))) dNil)) (dCall (sp_is_name A) 1 (dCons (dOp ixD (dVar 0) (dC (.int 2))) dNil))))) dNext)
    (dSeq (dIfS (dTest (dOp eqWD (dVar 1) (dC (.str "bell"))))
    (dRet (dAnd (dOp eqD (dCB lenD (dCons (dVar 0) dNil)) (dC (.int 3))) (dAnd (dCall (sp_is_name A) 1 (dCons (dOp ixD (dVar 0) (dC (.int 1))) dNil)) (dOp inWD (dOp ixD (dVar 0) (dC (.int 2))) (dC (.ctup ((["unheard", "noted", "broke", "woke"] : List Str).map .str))))))) dNext)
    (dSeq (dIfS (dTest (dOp eqWD (dVar 1) (dC (.str "plug"))))
    (dRet (dAnd (dOp eqD (dCB lenD (dCons (dVar 0) dNil)) (dC (.int 3))) (dAnd (dCall (sp_is_told A) 1 (dCons (dOp ixD (dVar 0) (dC (.int 1))) dNil)) (dCall (sp__are_links A) 1 (dCons (dOp ixD (dVar 0) (dC (.int 2))) dNil))))) dNext)
    (dRet (dAnd (dOp eqD (dCB lenD (dCons (dVar 0) dNil)) (dC (.int 2))) (dAnd (dCall (sp__is_device_word A) 1 (dCons (dVar 1) dNil)) (dCall (sp_is_name A) 1 (dCons (dOp ixD (dVar 0) (dC (.int 1))) dNil)))))))))))
def b_is_row (A : Ad) : DTS :=
  (dSeq (dIfS (dtOr (dtNot (dTest (dCB isiD (dCons (dVar 0) (dCons (dC (.ty "tuple")) dNil))))) (dTest (dOp ltD (dCB lenD (dCons (dVar 0) dNil)) (dC (.int 3)))))
    (dRet (dC (.bl false))) dNext)
    (dRet (dAnd (dCall (sp_is_at_least A) 2 (dCons (dOp ixD (dVar 0) (dC (.int 0))) (dCons (dC (.int 0)) dNil))) (dCall (sp__are_words A) 1 (dCons (dSl slD (dVar 0) (dPart (dC (.int 1))) dNoPart) dNil)))))
theorem rd_is_truth (A : Ad) : Keeps ["thing"] (b_is_truth A) 1 (sp_is_truth A) := by
  rintro ds L q e hl ⟨x, s, rfl, h1, hq⟩
  unfold bodyD b_is_truth
  walk_at "vc"
  exact ⟨x, _, s, _, rfl, h1, kit_bool h1, v_rt hq⟩
theorem rd_is_number (A : Ad) : Keeps ["thing"] (b_is_number A) 1 (sp_is_number A) := by
  rintro ds L q e hl ⟨x, s, rfl, h1, hq⟩
  unfold bodyD b_is_number
  walk_at "vc"
  refine ⟨x, _, s, _, rfl, h1, kit_int h1, ?_⟩
  walk_at "vc"
  refine v_ite (fun c => ?_) (fun c => ?_)
  · walk_at "vc"
    refine ⟨rfl, x, s, rfl, h1, ?_⟩
    walk_at "vc"
    by_cases c2 : s = "bool"
    · rw [c2, decide_eq_true rfl]
      rw [c2] at hq
      exact v_rt hq
    · have : s = "int" := by simpa [c2] using c
      rw [decide_eq_false c2]
      rw [this] at hq
      exact v_rt hq
  · rw [decide_eq_false (fun z => by subst z; simp at c)] at hq
    exact v_rt hq
theorem rd_is_at_least (A : Ad) : Keeps ["thing", "low"] (b_is_at_least A) 2 (sp_is_at_least A) := by
  rintro ds L q e hl ⟨x, low, s, rfl, h1, hq⟩
  unfold bodyD b_is_at_least
  walk_at "vc"
  refine ⟨rfl, x, s, rfl, h1, ?_⟩
  walk_at "vc"
  refine v_ite (fun c => ?_) (fun c => ?_)
  · have : s = "int" := of_decide_eq_true c
    subst this
    obtain ⟨i, rfl⟩ := kind_int h1
    walk_at "vc"
    exact v_rt hq
  · rw [atl_no h1 (of_decide_eq_false c)] at hq
    exact v_rt hq
theorem rd_is_whole (A : Ad) : Keeps ["thing", "low", "high"] (b_is_whole A) 3 (sp_is_whole A) := by
  rintro ds L q e hl ⟨x, low, high, s, rfl, h1, hq⟩
  unfold bodyD b_is_whole
  walk_at "vc"
  refine ⟨rfl, x, low, s, rfl, h1, ?_⟩
  walk_at "vc"
  refine v_ite (fun c => ?_) (fun c => ?_)
  · obtain ⟨i, rfl, hi⟩ := atl_int c
    walk_at "vc"
    have e : whlD (.int i) low high = decide (i ≤ high) := by
      show (decide (low ≤ i) && decide (i ≤ high)) = _
      rw [hi, Bool.true_and]
    rw [e] at hq
    exact v_rt hq
  · rw [whl_atl c] at hq
    exact v_rt hq
theorem rd__is_made_of (A : Ad) : Keeps ["text", "signs", "sign"] (b__is_made_of A) 2 (sp__is_made_of A) := by
  rintro ds L q e hl ⟨z, t, rfl, hz, hq⟩
  unfold bodyD b__is_made_of
  walk_at "vc"
  refine v_ite (fun c => ?_) (fun c => ?_)
  · rw [c] at hq
    walk_at "vc"
    refine lc_pure (fun _ => true) (fun d => .bl (match d with | .str y => (match y.cps.toList with | [c] => decide (c ∈ t.cps.toList) | _ => false) | _ => false)) trivial (by rw [List.length_map, Array.length_toList]; exact Nat.le_trans hz (by decide)) ?_ ?_
    · intro d hd acc Rq S ha h1 h2
      obtain ⟨c, hc, rfl⟩ := List.mem_map.mp hd
      walk_at "vc"
      refine v_itT rfl ?_
      walk_at "vc"
      exact .inr (.inl ⟨c, t, rfl, rfl, ha, h1 rfl⟩)
    · refine ⟨_, z.cps.toList.map fun c => decide (c ∈ t.cps.toList), rfl, ?_, ?_⟩
      · show some _ = some _
        rw [List.filter_eq_self.mpr (fun _ _ => rfl), List.map_map, List.map_map]
        rfl
      · rw [List.all_map]
        exact v_rt hq
  · rw [c, Bool.false_and] at hq
    exact v_rt hq
theorem rd_is_name (A : Ad) : Keeps ["thing"] (b_is_name A) 1 (sp_is_name A) := by
  rintro ds L q e hl ⟨x, s, rfl, h1, hz, hq⟩
  unfold bodyD b_is_name
  walk_at "vc"
  refine ⟨x, _, s, _, rfl, h1, kit_str h1, ?_⟩
  walk_at "vc"
  refine v_ite (fun c => ?_) (fun c => ?_)
  · have : s = "str" := by simpa using c
    subst this
    obtain ⟨z, rfl⟩ := kind_str h1
    have hz' := hz z rfl
    walk_at "vc"
    refine .inr (.inl ⟨z, rfl, Nat.le_trans hz' (by decide), ?_⟩)
    walk_at "vc"
    have e : namD (.str z) = (decide ((z.length : Int) ≤ 8) && (!decide (z = "") && allIn z LT)) := rfl
    rw [e] at hq
    refine v_ite (fun c1 => ?_) (fun c1 => ?_)
    · walk_at "vc"
      rw [c1, Bool.true_and] at hq
      exact ⟨rfl, z, LT, rfl, hz', v_rt hq⟩
    · rw [c1, Bool.false_and] at hq
      exact v_rt hq
  · rw [nam_no h1 (fun z => by subst z; simp at c)] at hq
    exact v_rt hq
theorem rd__need_whole (A : Ad) : Keeps ["thing", "high"] (b__need_whole A) 2 (sp__need_whole A) := by
  rintro ds L q e hl ⟨v, high, rfl, ⟨s, h1⟩, q1, q2⟩
  unfold bodyD b__need_whole
  walk_at "vc"
  refine ⟨rfl, v, 0, high, s, rfl, h1, ?_⟩
  walk_at "vc"
  refine v_ite (fun c => ?_) (fun c => ?_)
  · walk_at "vc"
    exact q2 (by simpa using c)
  · walk_at "vc"
    exact q1 (by simpa using c)
theorem rd_Device_init (A : Ad) : Keeps ["self", "name", "parent", "burn", "sip", "wake", "fall", "rest"] (b_Device_init A) 8 (sp_Device_init A) := by
  rintro ds L q e hl ⟨x, n, p, b, s, w', f, r, rfl, hx, ⟨sn, kn⟩, kp, kb, ks, kw, kf, kr, zn, zp, q1, q2⟩
  unfold bodyD b_Device_init
  unfold dueOf at q1 q2
  walk_at "vc"
  refine ⟨rfl, n, sn, rfl, kn, zn, ?_⟩
  walk_at "vc"
  refine v_ite (fun c1 => ?_) (fun c1 => ?_)
  · walk_at "vc"
    have c1' : namD n = false := by simpa using c1
    exact q2 true n (by rw [if_pos c1'])
  have c1' : namD n = true := by simpa using c1
  rw [if_neg (by rw [c1']; decide)] at q1 q2
  walk_at "vc"
  have main : (!isNonD p && !namD p) = false → b_tail A (fun C gs x L' => e C gs L') (dEnd q) (startD ["self", "name", "parent", "burn", "sip", "wake", "fall", "rest"] [.ref x, n, p, b, s, w', f, r]) L := by
    intro c2
    rw [if_neg (by rw [c2]; decide)] at q1 q2
    unfold b_tail
    walk_at "vc"
    refine ⟨rfl, b, 100, rfl, kb, fun c3 => ?_, fun c3 => q2 false b (by rw [if_pos c3])⟩
    rw [if_neg (by rw [c3]; decide)] at q1 q2
    obtain ⟨bi, rfl⟩ := whl_int c3
    rw [show intvD (.int bi) = bi from rfl] at q1 q2
    walk_at "vc"
    refine ⟨rfl, s, bi, rfl, ks, fun c4 => ?_, fun c4 => q2 false s (by rw [if_pos c4])⟩
    rw [if_neg (by rw [c4]; decide)] at q1 q2
    walk_at "vc"
    refine ⟨rfl, w', 5, rfl, kw, fun c5 => ?_, fun c5 => q2 false w' (by rw [if_pos c5])⟩
    rw [if_neg (by rw [c5]; decide)] at q1 q2
    walk_at "vc"
    refine ⟨rfl, f, 5, rfl, kf, fun c6 => ?_, fun c6 => q2 false f (by rw [if_pos c6])⟩
    rw [if_neg (by rw [c6]; decide)] at q1 q2
    walk_at "vc"
    refine ⟨rfl, r, 9, rfl, kr, fun c7 => ?_, fun c7 => q2 false r (by rw [if_pos c7])⟩
    rw [if_neg (by rw [c7]; decide)] at q1 q2
    walk_at "vc"
    refine ⟨(by show (7 : Nat) ≤ sizeLine; decide), ?_⟩
    walk_at "vc"
    exact ⟨x, [], rfl, hx, by decide, q1 rfl⟩
  cases hp : isNonD p with
  | true =>
    have : p = .non := by cases p <;> first | rfl | cases hp
    subst this
    walk_at "vc"
    refine v_itF rfl ?_
    refine v_itF rfl ?_
    exact main rfl
  | false =>
    refine v_notN' (fun z => by subst z; cases hp) ?_
    walk_at "vc"
    refine v_itT rfl ?_
    obtain ⟨sp, kp'⟩ := kp
    walk_at "vc"
    refine ⟨rfl, p, sp, rfl, kp', zp, ?_⟩
    walk_at "vc"
    refine v_ite (fun c2 => ?_) (fun c2 => ?_)
    · walk_at "vc"
      exact q2 true p (by rw [if_pos (by rw [hp]; simpa using c2)])
    · exact main (by rw [hp]; simpa using c2)
theorem rd_device_of (A : Ad) : Keeps ["told", "name", "parent", "burn", "sip", "wake", "fall", "rest"] (b_device_of A) 1 (sp_device_of A) := by
  rintro ds L q e hl ⟨t, rfl, hl', ok, q1, q2⟩
  unfold bodyD b_device_of
  obtain ⟨n, p, b, s, w', f, r, rfl⟩ := seven hl'
  have o := okDs_iff.mp ok
  simp only [List.mem_cons, List.not_mem_nil, or_false, forall_eq_or_imp, forall_eq] at o
  obtain ⟨o1, o2, o3, o4, o5, o6, o7⟩ := o
  walk_at "w"
  refine ⟨rfl, rfl, fun x hx => ⟨rfl, ?_⟩⟩
  refine ⟨x, n, p, b, s, w', f, r, rfl, updL_same, kn_ok o1, kn_ok o2, kn_ok o3, kn_ok o4, kn_ok o5, kn_ok o6, kn_ok o7, ok_shs o1, ok_shs o2, fun c => ⟨rfl, _, _, .ins updL_same, ?_⟩, fun nm v c => ⟨L, fun a c h => ?_, ?_⟩⟩
  · rw [updL_updL, delL_updL hx]
    exact v_rt (q1 (by show (dueOf n p b s w' f r).isNone = true; rw [c]; rfl))
  · rw [updL_ne (fun z => by rw [z, hx] at h; cases h)]; exact h
  · exact q2 (by show (dueOf n p b s w' f r).isNone = false; rw [c]; rfl) nm v
theorem rd_is_told (A : Ad) : Keeps ["thing"] (b_is_told A) 1 (sp_is_told A) := by
  rintro ds L q e hl ⟨x, rfl, ok, hq⟩
  unfold bodyD b_is_told
  walk_at "w"
  refine v_ite (fun c => ?_) (fun c => ?_)
  · have e : toldD x = false := by cases x <;> first | rfl | cases c
    rw [e] at hq
    walk_at "w"
    exact v_rt hq
  obtain ⟨t, rfl⟩ := tup_of (by simpa using c)
  walk_at "w"
  refine v_ite (fun c => ?_) (fun c => ?_)
  · have e : toldD (.tup t) = false := by
      have c' : t.length ≠ 7 := by intro z; rw [z] at c; revert c; decide
      unfold toldD
      split
      · rename_i h; cases h; exact absurd rfl c'
      · rfl
    rw [e] at hq
    walk_at "w"
    exact v_rt hq
  have hl7 : t.length = 7 := by
    have : ((t.length : Nat) : Int) = 7 := by simpa using c
    omega
  walk_at "w"
  refine ⟨rfl, t, rfl, hl7, by rw [← okD_tup]; exact ok, fun e => ?_, fun e nm v => ?_⟩
  · walk_at "w"
    rw [e] at hq
    exact v_rt hq
  · rw [e] at hq
    cases nm with
    | true =>
      refine ⟨true, false, by simp [mt], by simp [mt], rfl, fun a dd => ?_⟩
      walk_at "w"
      exact v_rt hq
    | false =>
      refine ⟨false, true, by simp [mt], by simp [mt], rfl, fun a dd => ?_⟩
      walk_at "w"
      exact v_rt hq
theorem rd_is_link (A : Ad) : Keeps ["thing"] (b_is_link A) 1 (sp_is_link A) := by
  rintro ds L q e hl ⟨x, rfl, ok, hq⟩
  unfold bodyD b_is_link
  walk_at "w"
  refine v_ite (fun c => ?_) (fun c => ?_)
  · have e : linkD x = false := by cases x <;> first | rfl | cases c
    rw [e] at hq
    walk_at "w"
    exact v_rt hq
  obtain ⟨t, rfl⟩ := tup_of (by simpa using c)
  walk_at "w"
  refine v_ite (fun c => ?_) (fun c => ?_)
  · have e : linkD (.tup t) = false := by
      have c' : t.length ≠ 2 := by intro z; rw [z] at c; revert c; decide
      unfold linkD
      split
      · rename_i h; cases h; exact absurd rfl c'
      · rfl
    rw [e] at hq
    walk_at "w"
    exact v_rt hq
  have hl2 : t.length = 2 := by
    have : ((t.length : Nat) : Int) = 2 := by simpa using c
    omega
  obtain ⟨a, b, rfl⟩ : ∃ a b, t = [a, b] := by
    match t, hl2 with
    | [a, b], _ => exact ⟨a, b, rfl⟩
  rw [okD_tup] at ok
  have o := okDs_iff.mp ok
  simp only [List.mem_cons, List.not_mem_nil, or_false, forall_eq_or_imp, forall_eq] at o
  obtain ⟨o1, o2⟩ := o
  walk_at "w"
  obtain ⟨sa, ka⟩ := ok_kind (L := L) o1
  refine ⟨rfl, a, sa, rfl, ka, ok_shs o1, ?_⟩
  walk_at "w"
  refine v_ite (fun c1 => ?_) (fun c1 => ?_)
  rotate_left
  · have e : linkD (.tup [a, b]) = false := by
      unfold linkD
      split
      · rename_i h; cases h; rw [c1]; rfl
      · rfl
    rw [e] at hq
    exact v_rt hq
  obtain ⟨za, rfl⟩ := nam_str c1
  walk_at "w"
  obtain ⟨sb, kb⟩ := ok_kind (L := L) o2
  refine ⟨rfl, b, sb, rfl, kb, ok_shs o2, ?_⟩
  walk_at "w"
  refine v_ite (fun c2 => ?_) (fun c2 => ?_)
  rotate_left
  · have e : linkD (.tup [.str za, b]) = false := by
      unfold linkD
      split
      · rename_i h; cases h; rw [c2, Bool.false_and, Bool.and_false]
      · rfl
    rw [e] at hq
    exact v_rt hq
  obtain ⟨zb, rfl⟩ := nam_str c2
  walk_at "w"
  have e : linkD (.tup [.str za, .str zb]) = !decide (za = zb) := by
    show (namD (.str za) && (namD (.str zb) && !decide (za = zb))) = _
    rw [c1, c2]; rfl
  rw [e] at hq
  exact v_rt hq
theorem rd__are_links (A : Ad) : Keeps ["thing", "link"] (b__are_links A) 1 (sp__are_links A) := by
  rintro ds L q e hl ⟨x, rfl, ok, hq⟩
  unfold bodyD b__are_links
  walk_at "w"
  refine v_ite (fun c => ?_) (fun c => ?_)
  · have e : linksD x = false := by cases x <;> first | rfl | cases c
    rw [e] at hq
    walk_at "w"
    exact v_rt hq
  obtain ⟨t, rfl⟩ := tup_of (by simpa using c)
  walk_at "w"
  refine v_ite (fun c => ?_) (fun c => ?_)
  · have e : linksD (.tup t) = false := by
      show (decide ((t.length : Int) ≤ 16) && t.all linkD) = false
      have := of_decide_eq_true c
      rw [decide_eq_false (by omega)]; rfl
    rw [e] at hq
    walk_at "w"
    exact v_rt hq
  have h16 : ((t.length : Nat) : Int) ≤ 16 := by have := of_decide_eq_false c; omega
  rw [okD_tup] at ok
  have o := okDs_iff.mp ok
  walk_at "w"
  refine ⟨_, .inl rfl, ?_⟩
  refine lc_pure (fun _ => true) (fun d => .bl (linkD d)) trivial (sz_5 (by omega)) ?_ ?_
  · intro d hd acc Rq S ha h1 h2
    walk_at "w"
    refine ⟨rfl, d, rfl, o d hd, ha, h1 rfl⟩
  · have e : linksD (.tup t) = t.all linkD := by
      show (decide ((t.length : Int) ≤ 16) && t.all linkD) = _
      rw [decide_eq_true h16]; rfl
    rw [e] at hq
    refine ⟨_, t.map linkD, rfl, ?_, ?_⟩
    · show some _ = some _
      rw [List.filter_eq_self.mpr (fun _ _ => rfl), List.map_map]; rfl
    · rw [List.all_map]
      exact v_rt hq
theorem rd__is_deed (A : Ad) : Keeps ["deed", "name"] (b__is_deed A) 2 (sp__is_deed A) := by
  rintro ds L q e hl ⟨x, y, rfl, o1, o2, hq⟩
  unfold bodyD b__is_deed
  unfold isDeedD at hq
  walk_at "w"
  refine v_ite (fun c => ?_) (fun c => ?_)
  · rw [if_pos c] at hq
    walk_at "w"
    obtain ⟨sb, kb⟩ := ok_kind (L := L) o2
    exact ⟨rfl, y, sb, rfl, kb, ok_shs o2, v_rt hq⟩
  · rw [if_neg (by rw [c]; decide)] at hq
    walk_at "w"
    refine v_ite (fun c => ?_) (fun c => ?_)
    · rw [c, Bool.true_and] at hq
      walk_at "w"
      exact v_rt hq
    · rw [c, Bool.false_and] at hq
      exact v_rt hq
theorem rd__is_end (A : Ad) : Keeps ["deed", "word"] (b__is_end A) 2 (sp__is_end A) := by
  rintro ds L q e hl ⟨x, y, rfl, o1, o2, hq⟩
  unfold bodyD b__is_end
  unfold isEndD at hq
  walk_at "w"
  refine v_ite (fun c => ?_) (fun c => ?_)
  · rw [c, Bool.true_or] at hq
    exact v_rt hq
  · rw [c, Bool.false_or] at hq
    walk_at "w"
    refine v_ite (fun c => ?_) (fun c => ?_)
    · rw [c, Bool.true_and] at hq
      walk_at "w"
      exact v_rt hq
    · rw [c, Bool.false_and] at hq
      exact v_rt hq
theorem rd__is_device_word (A : Ad) : Keeps ["word"] (b__is_device_word A) 1 (sp__is_device_word A) := by
  rintro ds L q e hl ⟨x, rfl, o1, hq⟩
  unfold bodyD b__is_device_word
  unfold devW at hq
  walk_at "w"
  refine v_ite (fun c => ?_) (fun c => ?_)
  · rw [c, Bool.true_or] at hq
    exact v_rt hq
  · rw [c, Bool.false_or] at hq
    walk_at "w"
    refine v_ite (fun c => ?_) (fun c => ?_)
    · rw [c, Bool.true_or] at hq
      exact v_rt hq
    · rw [c, Bool.false_or] at hq
      walk_at "w"
      exact v_rt hq
theorem rd__are_words (A : Ad) : Keeps ["words", "first"] (b__are_words A) 1 (sp__are_words A) := by
  rintro ds L q e hl ⟨a, b, r, rfl, ok, hq⟩
  unfold bodyD b__are_words
  have ox := okDs_iff.mp ok
  have o1 : okD a = true := ox a (by simp)
  have o2 : okD b = true := ox b (by simp)
  unfold wordsD at hq
  walk_at "w"
  refine v_ite (fun c0 => ?_) (fun c0 => ?_)
  · rw [if_pos c0] at hq
    walk_at "w"
    refine v_ite (fun cl => ?_) (fun cl => ?_)
    rotate_left
    · have e : ∀ P : Bool → Prop, P (match b :: r with | [x, y] => isDeedD x y | _ => false) → P false := by
        intro P h
        split at h
        · rename_i hh; injection hh with _ hh; rw [hh] at cl; exact absurd cl (by simp)
        · exact h
      exact v_rt (e (fun c => q (.bl c) L) hq)
    obtain ⟨x2, rfl⟩ : ∃ x2, r = [x2] := by
      have : (((a :: b :: r).length : Nat) : Int) = 3 := of_decide_eq_true cl
      match r, (by simp only [List.length_cons] at this; omega : r.length = 1) with
      | [x2], _ => exact ⟨x2, rfl⟩
    replace hq : q (.bl (isDeedD b x2)) L := hq
    have o3 : okD x2 = true := ox x2 (by simp)
    walk_at "w"
    exact ⟨rfl, b, x2, rfl, o2, o3, v_rt hq⟩
  rw [if_neg (by rw [c0]; decide)] at hq
  walk_at "w"
  refine v_ite (fun c0 => ?_) (fun c0 => ?_)
  · rw [if_pos c0] at hq
    walk_at "w"
    refine v_ite (fun cl => ?_) (fun cl => ?_)
    rotate_left
    · have e : ∀ P : Bool → Prop, P (match b :: r with | [x, y, z] => isDeedD x y && isEndD x z | _ => false) → P false := by
        intro P h
        split at h
        · rename_i hh; injection hh with _ hh; rw [hh] at cl; exact absurd cl (by simp)
        · exact h
      exact v_rt (e (fun c => q (.bl c) L) hq)
    obtain ⟨x2, x3, rfl⟩ : ∃ x2 x3, r = [x2, x3] := by
      have : (((a :: b :: r).length : Nat) : Int) = 4 := of_decide_eq_true cl
      match r, (by simp only [List.length_cons] at this; omega : r.length = 2) with
      | [x2, x3], _ => exact ⟨x2, x3, rfl⟩
    replace hq : q (.bl (isDeedD b x2 && isEndD b x3)) L := hq
    have o3 : okD x2 = true := ox x2 (by simp)
    have o4 : okD x3 = true := ox x3 (by simp)
    walk_at "w"
    refine ⟨rfl, b, x2, rfl, o2, o3, ?_⟩
    walk_at "w"
    refine v_ite (fun c1 => ?_) (fun c1 => ?_)
    rotate_left
    · rw [c1, Bool.false_and] at hq
      exact v_rt hq
    rw [c1, Bool.true_and] at hq
    walk_at "w"
    exact ⟨rfl, b, x3, rfl, o2, o4, v_rt hq⟩
  rw [if_neg (by rw [c0]; decide)] at hq
  walk_at "w"
  refine v_ite (fun c0 => ?_) (fun c0 => ?_)
  · rw [if_pos c0] at hq
    walk_at "w"
    refine v_ite (fun cl => ?_) (fun cl => ?_)
    rotate_left
    · have e : ∀ P : Bool → Prop, P (match b :: r with | [x, y] => namD x && namD y | _ => false) → P false := by
        intro P h
        split at h
        · rename_i hh; injection hh with _ hh; rw [hh] at cl; exact absurd cl (by simp)
        · exact h
      exact v_rt (e (fun c => q (.bl c) L) hq)
    obtain ⟨x2, rfl⟩ : ∃ x2, r = [x2] := by
      have : (((a :: b :: r).length : Nat) : Int) = 3 := of_decide_eq_true cl
      match r, (by simp only [List.length_cons] at this; omega : r.length = 1) with
      | [x2], _ => exact ⟨x2, rfl⟩
    replace hq : q (.bl (namD b && namD x2)) L := hq
    have o3 : okD x2 = true := ox x2 (by simp)
    walk_at "w"
    obtain ⟨s2, k2⟩ := ok_kind (L := L) o2
    refine ⟨rfl, b, s2, rfl, k2, ok_shs o2, ?_⟩
    walk_at "w"
    refine v_ite (fun c1 => ?_) (fun c1 => ?_)
    rotate_left
    · rw [c1, Bool.false_and] at hq
      exact v_rt hq
    rw [c1, Bool.true_and] at hq
    walk_at "w"
    obtain ⟨s3, k3⟩ := ok_kind (L := L) o3
    exact ⟨rfl, x2, s3, rfl, k3, ok_shs o3, v_rt hq⟩
  rw [if_neg (by rw [c0]; decide)] at hq
  walk_at "w"
  refine v_ite (fun c0 => ?_) (fun c0 => ?_)
  · rw [if_pos c0] at hq
    walk_at "w"
    refine v_ite (fun cl => ?_) (fun cl => ?_)
    rotate_left
    · have e : ∀ P : Bool → Prop, P (match b :: r with | [x, y] => namD x && (["unheard", "noted", "broke", "woke"] : List Str).any (fun z => isS z y) | _ => false) → P false := by
        intro P h
        split at h
        · rename_i hh; injection hh with _ hh; rw [hh] at cl; exact absurd cl (by simp)
        · exact h
      exact v_rt (e (fun c => q (.bl c) L) hq)
    obtain ⟨x2, rfl⟩ : ∃ x2, r = [x2] := by
      have : (((a :: b :: r).length : Nat) : Int) = 3 := of_decide_eq_true cl
      match r, (by simp only [List.length_cons] at this; omega : r.length = 1) with
      | [x2], _ => exact ⟨x2, rfl⟩
    replace hq : q (.bl (namD b && (["unheard", "noted", "broke", "woke"] : List Str).any (fun z => isS z x2))) L := hq
    have o3 : okD x2 = true := ox x2 (by simp)
    walk_at "w"
    obtain ⟨s2, k2⟩ := ok_kind (L := L) o2
    refine ⟨rfl, b, s2, rfl, k2, ok_shs o2, ?_⟩
    walk_at "w"
    refine v_ite (fun c1 => ?_) (fun c1 => ?_)
    rotate_left
    · rw [c1, Bool.false_and] at hq
      exact v_rt hq
    rw [c1, Bool.true_and] at hq
    walk_at "w"
    exact v_rt hq
  rw [if_neg (by rw [c0]; decide)] at hq
  walk_at "w"
  refine v_ite (fun c0 => ?_) (fun c0 => ?_)
  · rw [if_pos c0] at hq
    walk_at "w"
    refine v_ite (fun cl => ?_) (fun cl => ?_)
    rotate_left
    · have e : ∀ P : Bool → Prop, P (match b :: r with | [x, y] => toldD x && linksD y | _ => false) → P false := by
        intro P h
        split at h
        · rename_i hh; injection hh with _ hh; rw [hh] at cl; exact absurd cl (by simp)
        · exact h
      exact v_rt (e (fun c => q (.bl c) L) hq)
    obtain ⟨x2, rfl⟩ : ∃ x2, r = [x2] := by
      have : (((a :: b :: r).length : Nat) : Int) = 3 := of_decide_eq_true cl
      match r, (by simp only [List.length_cons] at this; omega : r.length = 1) with
      | [x2], _ => exact ⟨x2, rfl⟩
    replace hq : q (.bl (toldD b && linksD x2)) L := hq
    have o3 : okD x2 = true := ox x2 (by simp)
    walk_at "w"
    refine ⟨rfl, b, rfl, o2, ?_⟩
    walk_at "w"
    refine v_ite (fun c1 => ?_) (fun c1 => ?_)
    rotate_left
    · rw [c1, Bool.false_and] at hq
      exact v_rt hq
    rw [c1, Bool.true_and] at hq
    walk_at "w"
    exact ⟨rfl, x2, rfl, o3, v_rt hq⟩
  rw [if_neg (by rw [c0]; decide)] at hq
  walk_at "w"
  walk_at "w"
  refine v_ite (fun cl => ?_) (fun cl => ?_)
  rotate_left
  · have e : ∀ P : Bool → Prop, P (match b :: r with | [x] => devW a && namD x | _ => false) → P false := by
      intro P h
      split at h
      · rename_i hh; injection hh with _ hh; rw [hh] at cl; exact absurd cl (by simp)
      · exact h
    exact v_rt (e (fun c => q (.bl c) L) hq)
  obtain rfl : r = [] := by
    have : (((a :: b :: r).length : Nat) : Int) = 2 := of_decide_eq_true cl
    match r, (by simp only [List.length_cons] at this; omega : r.length = 0) with
    | [], _ => rfl
  replace hq : q (.bl (devW a && namD b)) L := hq
  walk_at "w"
  refine ⟨rfl, a, rfl, o1, ?_⟩
  walk_at "w"
  refine v_ite (fun c1 => ?_) (fun c1 => ?_)
  rotate_left
  · rw [c1, Bool.false_and] at hq
    exact v_rt hq
  rw [c1, Bool.true_and] at hq
  walk_at "w"
  obtain ⟨s2, k2⟩ := ok_kind (L := L) o2
  exact ⟨rfl, b, s2, rfl, k2, ok_shs o2, v_rt hq⟩
theorem rd_is_row (A : Ad) : Keeps ["thing"] (b_is_row A) 1 (sp_is_row A) := by
  rintro ds L q e hl ⟨x, rfl, ok, hq⟩
  unfold bodyD b_is_row
  walk_at "w"
  refine v_ite (fun c => ?_) (fun c => ?_)
  · have e : rowD x = false := by cases x <;> first | rfl | cases c
    rw [e] at hq
    walk_at "w"
    exact v_rt hq
  obtain ⟨t, rfl⟩ := tup_of (by simpa using c)
  walk_at "w"
  refine v_ite (fun c => ?_) (fun c => ?_)
  · have e : rowD (.tup t) = false := by
      have c' : (t.length : Int) < 3 := of_decide_eq_true c
      unfold rowD
      split
      · rename_i h; cases h; simp at c'; omega
      · rfl
    rw [e] at hq
    walk_at "w"
    exact v_rt hq
  obtain ⟨t0, a, b, r, rfl⟩ : ∃ t0 a b r, t = t0 :: a :: b :: r := by
    have c' : ¬ (t.length : Int) < 3 := of_decide_eq_false c
    match t, c' with
    | t0 :: a :: b :: r, _ => exact ⟨t0, a, b, r, rfl⟩
    | [], h => exact absurd (by decide) h
    | [_], h => exact absurd (by simp) h
    | [_, _], h => exact absurd (by simp) h
  have e : rowD (.tup (t0 :: a :: b :: r)) = (atlD t0 0 && wordsD a (b :: r)) := rfl
  rw [e] at hq
  rw [okD_tup] at ok
  have ox := okDs_iff.mp ok
  have o1 : okD t0 = true := ox t0 (by simp)
  walk_at "w"
  obtain ⟨s1, k1⟩ := ok_kind (L := L) o1
  refine ⟨rfl, t0, 0, s1, rfl, k1, ?_⟩
  walk_at "w"
  refine v_ite (fun c1 => ?_) (fun c1 => ?_)
  rotate_left
  · rw [c1, Bool.false_and] at hq
    exact v_rt hq
  rw [c1, Bool.true_and] at hq
  walk_at "w"
  refine v_slT ?_
  rw [cut_1]
  exact ⟨rfl, a, b, r, rfl, okDs_iff.mpr fun d hd => ox d (List.mem_cons_of_mem _ hd), v_rt hq⟩
end K16
set_option Elab.async false
set_option linter.all false
set_option maxRecDepth 100000
set_option maxHeartbeats 2000000
namespace K16
open PySem PySem.Spec PyProof.Rows L2 Dz Ed


/-- data, or a list that may change -/
def El (L : Lc) (x : D) : Prop := okD x = true ∨ ∃ a xs, x = .ref a ∧ L a = some (.lst xs)
theorem el_kind {L : Lc} {x : D} (e : El L x) : ∃ s, kindD L x = some s := by
  rcases e with h | ⟨a, xs, rfl, h⟩
  · exact ok_kind h
  · exact ⟨"list", by simp [kindD, h]⟩
theorem el_tup {L : Lc} {x : D} {q : DQ} (e : El L x) (hq : q (.bl (isTup x)) L) : isiD [x, .ty "tuple"] L q := by
  rcases e with ok | ⟨a, xs, rfl, h⟩
  · exact v_isiT ok hq
  · exact ⟨_, _, "list", false, rfl, by simp [kindD, h], by decide +kernel, hq⟩
def rwD (t : D) : D → Bool
  | .tup ws => rowD (.tup (t :: ws))
  | _ => false
/-- a row that is kept -/
def RowT (d : D) : Prop := ∃ (t : Int) (ws : List D), d = .tup (.int t :: ws)
def lastT (rows : List D) : Option Int := match rows.getLast? with
  | some (.tup (.int t :: _)) => some t
  | _ => none
theorem last_at {rows : List D} (h : rows ≠ []) (hr : ∀ d ∈ rows, RowT d) : ∃ (t : Int) (ws : List D), atI rows (-1) = some (.tup (.int t :: ws)) ∧ lastT rows = some t ∧ .tup (.int t :: ws) ∈ rows := by
  obtain ⟨rs, d, rfl⟩ : ∃ rs d, rows = rs ++ [d] := ⟨rows.dropLast, rows.getLast h, (List.dropLast_concat_getLast h).symm⟩
  obtain ⟨t, ws, rfl⟩ := hr d (by simp)
  refine ⟨t, ws, ?_, ?_, by simp⟩
  · unfold L2.atI
    have e : ixN (rs ++ [D.tup (.int t :: ws)]).length (-1) = some rs.length := by
      unfold ixN
      rw [if_neg (by decide), if_pos (by rw [List.length_append]; simp; omega)]
      congr 1
      rw [List.length_append]; simp; omega
    rw [e]
    simp
  · unfold lastT
    rw [List.getLast?_append]; rfl
theorem last_nil : lastT [] = none := rfl
theorem last_app {rows : List D} {t : Int} {ws : List D} : lastT (rows ++ [.tup (.int t :: ws)]) = some t := by
  unfold lastT
  rw [List.getLast?_append]; rfl
/-- a log at x, its rows at r -/
def LogAt (A : Ad) (L : Lc) (x r : Addr) (rows : List D) : Prop := L x = some (.ins A.C_Log [("_rows", .ref r)]) ∧ L r = some (.lst rows)

def sp_Log_init (A : Ad) : DSp := fun ds L q _ => ∃ x, ds = [.ref x] ∧ L x = some (.ins A.C_Log []) ∧ ∀ r, L r = none → q .non (updL (updL L r (.lst [])) x (.ins A.C_Log [("_rows", .ref r)]))
def sp_Log_rows (A : Ad) : DSp := fun ds L q _ => ∃ x r rows, ds = [.ref x] ∧ LogAt A L x r rows ∧ ∀ a, L a = none → q (.ref a) (updL L a (.lst rows))
def sp_Log_len (A : Ad) : DSp := fun ds L q _ => ∃ x r rows, ds = [.ref x] ∧ LogAt A L x r rows ∧ q (.int ((rows.length : Nat) : Int)) L
def sp_Log_last (A : Ad) : DSp := fun ds L q e => ∃ x r rows n s, ds = [.ref x, n] ∧ LogAt A L x r rows ∧ kindD L n = some s ∧ (∀ k : Int, n = .int k → 1 ≤ k → k ≤ 1000 → ∀ a, L a = none → q (.ref a) (updL L a (.lst (Ed.cutD rows (some (-k)) none)))) ∧ (whlD n 1 1000 = false → e A.C_NoNumber [("found", n)] L)
def sp_Log_copied (A : Ad) : DSp := fun ds L q _ => ∃ x r rows, ds = [.ref x] ∧ LogAt A L x r rows ∧ ∀ y c L', L y = none → L c = none → y ≠ c → LogAt A L' y c rows → (∀ a d, L a = some d → L' a = some d) → q (.ref y) L'
def sp_Log_add (A : Ad) : DSp := fun ds L q e => ∃ x r t w rows, ds = [.ref x, t, w] ∧ LogAt A L x r rows ∧ (∀ d ∈ rows, RowT d) ∧ rows.length ≤ 900 ∧ El L t ∧ El L w ∧ (∀ ws, w = .tup ws → ws.length ≤ 20) ∧
  (atlD t 0 = false → e A.C_NoNumber [("found", t)] L) ∧ (atlD t 0 = true → rwD t w = false → e A.C_NoLog [("found", w)] L) ∧ (∀ i j : Int, t = .int i → rwD t w = true → lastT rows = some j → i < j → e A.C_NoNumber [("found", t)] L) ∧ (∀ (i : Int) ws, t = .int i → w = .tup ws → 0 ≤ i → rwD t w = true → (∀ j, lastT rows = some j → j ≤ i) → q .non (updL L r (.lst (rows ++ [.tup (.int i :: ws)]))))
def b_Log_init (A : Ad) : DTS :=
  (dSFld A.C_Log "_rows" (dVar 0) (dLstC dNil))
def b_Log_rows (A : Ad) : DTS :=
  (dRet (dCB listCD (dCons (dFld A.C_Log "_rows" (dVar 0)) dNil)))
def b_Log_len (A : Ad) : DTS :=
  (dRet (dCB lenD (dCons (dFld A.C_Log "_rows" (dVar 0)) dNil)))
def b_Log_last (A : Ad) : DTS :=
  (dSeq (dIfS (dtNot (dTest (dCall (sp_is_whole A) 3 (dCons (dVar 1) (dCons (dC (.int 1)) (dCons (dC (.int 1000)) dNil))))))
    (dRaise A.C_NoNumber "found" (dCons (dVar 1) dNil)) dNext)
    (dRet (dSl slCD (dFld A.C_Log "_rows" (dVar 0)) (dPart (dUn negD (dVar 1))) dNoPart)))
def b_Log_copied (A : Ad) : DTS :=
  (dSeq (dSet 1 (dNew A.C_Log (sp_Log_init A) 0 0 (gPerm [0] []) 1 dNil dNil))
    (dSeq (dSFld A.C_Log "_rows" (dVar 1) (dMth A.C_Log "rows" (sp_Log_rows A) 1 [] (dVar 0) dNil))
    (dRet (dVar 1))))
def b_Log_add (A : Ad) : DTS :=
  (dSeq (dIfS (dtNot (dTest (dCall (sp_is_at_least A) 2 (dCons (dVar 1) (dCons (dC (.int 0)) dNil)))))
    (dRaise A.C_NoNumber "found" (dCons (dVar 1) dNil)) dNext)
    (dSeq (dIfS (dtOr (dtNot (dTest (dCB isiD (dCons (dVar 2) (dCons (dC (.ty "tuple")) dNil))))) (dtNot (dTest (dCall (sp_is_row A) 1 (dCons (dTup (dCons (dVar 1) (dStar (dVar 2) dNil))) dNil)))))
    (dRaise A.C_NoLog "found" (dCons (dVar 2) dNil)) dNext)
    (dSeq (dIfS (dtAnd (dTest (dOp (emD true) (dFld A.C_Log "_rows" (dVar 0)) (dLst dNil))) (dTest (dOp ltD (dVar 1) (dOp ixD (dOp ixD (dFld A.C_Log "_rows" (dVar 0)) (dUn negD (dC (.int 1)))) (dC (.int 0))))))
    (dRaise A.C_NoNumber "found" (dCons (dVar 1) dNil)) dNext)
    (dDrop (dBML "list" appendD (dFld A.C_Log "_rows" (dVar 0)) (dCons (dTup (dCons (dVar 1) (dStar (dVar 2) dNil))) dNil))))))
theorem rd_Log_init (A : Ad) : Keeps ["self"] (b_Log_init A) 1 (sp_Log_init A) := by
  rintro ds L q e hl ⟨x, rfl, hx, hq⟩
  unfold bodyD b_Log_init
  walk_at "w"
  refine fun r hr => ?_
  have n : x ≠ r := fun e => by rw [← e, hx] at hr; cases hr
  walk_at "w"
  refine ⟨x, [], rfl, by rw [updL_ne n]; exact hx, by decide, ?_⟩
  walk_at "w"
  exact hq r hr
theorem rd_Log_rows (A : Ad) : Keeps ["self"] (b_Log_rows A) 1 (sp_Log_rows A) := by
  rintro ds L q e hl ⟨x, r, rows, rfl, ⟨hx, hr⟩, hq⟩
  unfold bodyD b_Log_rows
  walk_at "w"
  refine ⟨_, _, vIns_of hx, rfl, ?_⟩
  walk_at "w"
  refine ⟨_, rows, rfl, vs_ref hr, fun a ha => ?_⟩
  exact v_rt (hq a ha)
theorem rd_Log_len (A : Ad) : Keeps ["self"] (b_Log_len A) 1 (sp_Log_len A) := by
  rintro ds L q e hl ⟨x, r, rows, rfl, ⟨hx, hr⟩, hq⟩
  unfold bodyD b_Log_len
  walk_at "w"
  refine ⟨_, _, vIns_of hx, rfl, ?_⟩
  walk_at "w"
  exact v_rt hq
theorem rd_Log_last (A : Ad) : Keeps ["self", "many"] (b_Log_last A) 2 (sp_Log_last A) := by
  rintro ds L q e hl ⟨x, r, rows, n, s, rfl, ⟨hx, hr⟩, hk, q1, q2⟩
  unfold bodyD b_Log_last
  walk_at "w"
  refine ⟨rfl, n, 1, 1000, s, rfl, hk, ?_⟩
  cases hw : whlD n 1 1000 with
  | false =>
    walk_at "w"
    exact q2 hw
  | true =>
    obtain ⟨k, rfl⟩ : ∃ k, n = .int k := by cases n <;> first | exact ⟨_, rfl⟩ | cases hw
    have hw' : (decide (1 ≤ k) && decide (k ≤ 1000)) = true := hw
    obtain ⟨h1, h2⟩ := Bool.and_eq_true_iff.mp hw'
    walk_at "w"
    refine ⟨_, _, vIns_of hx, rfl, ?_⟩
    walk_at "w"
    refine v_slC (vr_ref hr) fun a ha => ?_
    exact v_rt (q1 k rfl (of_decide_eq_true h1) (of_decide_eq_true h2) a ha)
theorem rd_Log_copied (A : Ad) : Keeps ["self", "other"] (b_Log_copied A) 1 (sp_Log_copied A) := by
  rintro ds L q e hl ⟨x, r, rows, rfl, ⟨hx, hr⟩, hq⟩
  unfold bodyD b_Log_copied
  walk_at "w"
  refine ⟨rfl, rfl, fun y hy => ⟨rfl, ?_⟩⟩
  have nyx : x ≠ y := fun e => by rw [← e, hx] at hy; cases hy
  have nyr : r ≠ y := fun e => by rw [← e, hr] at hy; cases hy
  refine ⟨y, rfl, updL_same, fun b hb => ?_⟩
  have nby : y ≠ b := fun e => by rw [← e, updL_same] at hb; cases hb
  have hb0 : L b = none := by rw [updL_ne (fun e => nby e.symm)] at hb; exact hb
  have nbx : x ≠ b := fun e => by rw [← e, hx] at hb0; cases hb0
  have nbr : r ≠ b := fun e => by rw [← e, hr] at hb0; cases hb0
  refine ⟨rfl, .ref y, _, .refl, ?_⟩
  walk_at "w"
  have hx2 : updL (updL (updL L y (.ins A.C_Log [])) b (.lst [])) y (.ins A.C_Log [("_rows", .ref b)]) x = some (.ins A.C_Log [("_rows", .ref r)]) := by
    rw [updL_ne nyx, updL_ne nbx, updL_ne nyx]; exact hx
  have hr2 : updL (updL (updL L y (.ins A.C_Log [])) b (.lst [])) y (.ins A.C_Log [("_rows", .ref b)]) r = some (.lst rows) := by
    rw [updL_ne nyr, updL_ne nbr, updL_ne nyr]; exact hr
  have more : ∀ a d, L a = some d → updL (updL (updL L y (.ins A.C_Log [])) b (.lst [])) y (.ins A.C_Log [("_rows", .ref b)]) a = some d := fun a d h => by
    have n1 : a ≠ y := fun e => by rw [e, hy] at h; cases h
    have n2 : a ≠ b := fun e => by rw [e, hb0] at h; cases h
    rw [updL_ne n1, updL_ne n2, updL_ne n1]; exact h
  have hy2 : updL (updL (updL L y (.ins A.C_Log [])) b (.lst [])) y (.ins A.C_Log [("_rows", .ref b)]) y = some (.ins A.C_Log [("_rows", .ref b)]) := updL_same
  generalize updL (updL (updL L y (.ins A.C_Log [])) b (.lst [])) y (.ins A.C_Log [("_rows", .ref b)]) = L1 at hx2 hr2 more hy2
  refine ⟨_, vIns_of hx2, rfl, ?_⟩
  walk_at "w"
  refine ⟨rfl, x, r, rows, rfl, ⟨hx2, hr2⟩, fun c hc => ?_⟩
  have ncy : y ≠ c := fun e => by rw [← e, hy2] at hc; cases hc
  walk_at "w"
  refine ⟨y, _, rfl, by rw [updL_ne ncy]; exact hy2, by simp, ?_⟩
  walk_at "w"
  have c0 : L c = none := by
    cases h : L c with
    | none => rfl
    | some d => rw [more c d h] at hc; cases hc
  refine v_rt (hq y c _ hy c0 ncy ⟨?_, ?_⟩ fun a d h => ?_)
  · rw [updL_same]; rfl
  · rw [updL_ne (fun e => ncy e.symm)]; exact updL_same
  · have n1 : a ≠ y := fun e => by rw [e, hy] at h; cases h
    have n2 : a ≠ c := fun e => by rw [e, c0] at h; cases h
    rw [updL_ne n1, updL_ne n2]; exact more a d h
theorem rd_Log_add (A : Ad) : Keeps ["self", "turn", "words"] (b_Log_add A) 3 (sp_Log_add A) := by
  rintro ds L q e hl ⟨x, r, t, w', rows, rfl, ⟨hx, hr⟩, hrt, hl', et, ew, hws, q1, q2, q3, q4⟩
  unfold bodyD b_Log_add
  walk_at "w"
  obtain ⟨s, hk⟩ := el_kind et
  refine ⟨rfl, t, 0, s, rfl, hk, ?_⟩
  cases ht : atlD t 0 with
  | false =>
    walk_at "w"
    exact q1 ht
  | true =>
  obtain ⟨i, rfl, hi⟩ := atl_int ht
  have hi0 : (0 : Int) ≤ i := of_decide_eq_true hi
  walk_at "w"
  refine el_tup ew ?_
  walk_at "w"
  cases htu : isTup w' with
  | false =>
    walk_at "w"
    exact q2 ht (by cases w' <;> first | rfl | cases htu)
  | true =>
  obtain ⟨ws, rfl⟩ := tup_of htu
  have hws' := hws ws rfl
  have okw : okD (.tup ws) = true := by
    rcases ew with h | ⟨a, xs, e, _⟩
    · exact h
    · cases e
  have okt : okD (.int i) = true := by
    rcases et with h | ⟨a, xs, e, _⟩
    · exact h
    · cases e
  walk_at "w"
  refine ⟨_, rfl, ws, rfl, ?_⟩
  walk_at "w"
  have okr : okD (.tup (.int i :: ws)) = true := by
    rw [okD_tup] at okw ⊢
    exact okDs_iff.mpr fun d hd => (List.mem_cons.mp hd).elim (fun e => by rw [e]; exact okt) (okDs_iff.mp okw d)
  simp only [List.append_nil]
  refine ⟨sz_lt (by rw [List.length_cons]; omega), ?_⟩
  walk_at "w"
  refine ⟨rfl, _, rfl, okr, ?_⟩
  cases hrow : rowD (.tup (.int i :: ws)) with
  | false =>
    walk_at "w"
    exact q2 ht hrow
  | true =>
  walk_at "w"
  refine ⟨_, _, vIns_of hx, rfl, ?_⟩
  walk_at "w"
  refine v_emN (.inl ⟨vl_ref hr, rfl⟩) ?_
  have put : ∀ {ρ : Dv}, (∀ j, lastT rows = some j → j ≤ i) → ρ = [some (.ref x), some (.int i), some (.tup ws)] → ∃ fs d, vIns L (.ref x) = some (A.C_Log, fs) ∧ fs.lookup (Str.ofString "_rows") = some d ∧ tyLS L "list" d ∧ dCons (dTup (dCons (dVar 1) (dStar (dVar 2) dNil))) dNil (fun C gs x L' => e C gs L') ρ L fun ds L2 => appendD d ds L2 fun x_1 L1 => (dEnd q).nx ρ L1 := by
    rintro ρ h rfl
    refine ⟨_, _, vIns_of hx, rfl, ?_⟩
    refine ⟨⟨rfl, _, hr⟩, ?_⟩
    walk_at "w"
    refine ⟨_, rfl, ws, rfl, ?_⟩
    walk_at "w"
    simp only [List.append_nil]
    refine ⟨sz_lt (by rw [List.length_cons]; omega), ?_⟩
    walk_at "w"
    refine v_app hr (by omega) ?_
    exact q4 i ws rfl rfl hi0 hrow h
  by_cases hn : rows = []
  · subst hn
    walk_at "w"
    exact put (fun j h => by cases h) rfl
  · rw [show (!rows.isEmpty) = true by cases rows <;> first | rfl | exact absurd rfl hn]
    walk_at "w"
    obtain ⟨j, us, h1, h2, _⟩ := last_at hn hrt
    refine ⟨_, _, vIns_of hx, rfl, ?_⟩
    walk_at "w"
    refine v_ix (vs_ref hr) h1 ?_
    walk_at "w"
    by_cases hij : i < j
    · rw [decide_eq_true hij]
      walk_at "w"
      exact q3 i j rfl hrow h2 hij
    · rw [decide_eq_false hij]
      walk_at "w"
      exact put (fun j' h => by rw [h2] at h; cases h; omega) rfl
end K16
set_option Elab.async false
set_option linter.all false
set_option maxRecDepth 100000
set_option maxHeartbeats 2000000
namespace K16
open PySem PySem.Spec PyProof.Rows L2 Dz Ed


def NmS (z : Str) : Prop := Asc z ∧ namD (.str z) = true
theorem nam_len {z : Str} (h : namD (.str z) = true) : z.length ≤ 8 := by
  have e : namD (.str z) = (decide ((z.length : Int) ≤ 8) && (!decide (z = "") && allIn z LT)) := rfl
  rw [e] at h
  have := of_decide_eq_true (Bool.and_eq_true_iff.mp h).1
  omega
def WDS : List Str := ["wake", "doze", "ready", "sleep", "late", "still", "bell", "tick", "gain", "off", "bus", "disk"]
theorem wds_split : Txt.split "wake doze ready sleep late still bell tick gain off bus disk" " " = WDS := by decide +kernel
theorem wds_ok : ∀ z ∈ WDS, NmS z := fun z hz => by
  have key : (WDS.all fun z => ascB z && namD (.str z)) = true := by decide +kernel
  obtain ⟨h1, h2⟩ := Bool.and_eq_true_iff.mp (List.all_eq_true.mp key z hz)
  exact ⟨asc_of h1, h2⟩
theorem cut_len {z : Str} {k : Int} (h : 0 ≤ k) : (cutS z none (some k)).length = min k.toNat z.length := by
  obtain ⟨n, rfl⟩ : ∃ n : Nat, k = n := ⟨k.toNat, (Int.toNat_of_nonneg h).symm⟩
  have e1 : (cutS z none (some (n : Int))).length = ((z.cps.toList.drop (HT.sIx z.length 0 none)).take (HT.sIx z.length z.length (some (n : Int)) - HT.sIx z.length 0 none)).length := by
    show Array.size _ = _
    simp [cutS]
  rw [e1, HT.sIx_nat, HT.sIx_none, List.length_take, List.length_drop, Array.length_toList]
  show min (min n z.length - 0) (z.length - 0) = _
  omega
theorem LT_eq : Ed.LT = LTR := by first | rfl | decide +kernel
theorem nmS {z : Str} (h : LetS z) (h1 : 1 ≤ z.length) (h2 : z.length ≤ 8) : NmS z := by
  refine ⟨let_asc h, ?_⟩
  have e : namD (.str z) = (decide ((z.length : Int) ≤ 8) && (!decide (z = "") && allIn z Ed.LT)) := rfl
  rw [e, decide_eq_true (by omega), decide_eq_false (fun z => by subst z; exact absurd h1 (by decide +kernel)), LT_eq]
  show allIn z LTR = true
  unfold allIn
  exact List.all_eq_true.mpr fun c hc => decide_eq_true (h c hc)

theorem nodup_rng {α : Type} {F : Nat → α} {n : Nat} (h : ∀ i j, i < n → j < n → F i = F j → i = j) : ((List.range n).map F).Nodup := by
  unfold List.Nodup
  refine List.pairwise_map.mpr (List.Pairwise.imp_of_mem (fun {a b} ha hb hlt e => ?_) List.pairwise_lt_range)
  exact absurd (h a b (List.mem_range.mp ha) (List.mem_range.mp hb) e) (Nat.ne_of_lt hlt)
theorem cps_app (x y : Str) : (x ++ y).cps.toList = x.cps.toList ++ y.cps.toList := by
  show (x.cps ++ y.cps).toList = _
  rw [Array.toList_append]
theorem mid_eq2 {a t : Str} {x y : Nat} (h : (a ++ ⟨#[x]⟩) ++ t = (a ++ ⟨#[y]⟩) ++ t) : x = y := by
  have h2 := congrArg (fun z : Str => z.cps.toList) h
  simp only [cps_app] at h2
  have h3 := List.append_cancel_right h2
  have h4 := List.append_cancel_left h3
  simpa using h4
theorem wds_nd : ∀ i j : Fin 12, WDS[i]! = WDS[j]! → i = j := by decide +kernel
theorem wds_at {i j : Nat} (hi : i < 12) (hj : j < 12) (h : WDS.getD i Str.empty = WDS.getD j Str.empty) : i = j := by
  have := wds_nd ⟨i, hi⟩ ⟨j, hj⟩ (by
    have e : ∀ k : Nat, k < 12 → WDS[k]! = WDS.getD k Str.empty := fun k hk => by
      have hl : k < WDS.length := hk
      rw [List.getD_eq_getElem?_getD, List.getElem?_eq_getElem hl, getElem!_pos WDS k hl]; rfl
    show WDS[i]! = WDS[j]!
    rw [e i hi, e j hj]; exact h)
  exact congrArg Fin.val this

def sp__law_cell (A : Ad) : DSp := fun ds L q _ => ∃ ns k, ds = [.scr ns, .int k] ∧ 0 ≤ k ∧ k ≤ 1000000 ∧ ∀ i, q (.int i) L
abbrev sp__law_box (A : Ad) : DSp := spBagD
abbrev sp__law_take (A : Ad) : DSp := spTk
def sp__law_names (A : Ad) : DSp := fun ds L q _ => ∃ (p : Addr) (c : Nat) (m : Int), ds = [.ref p, .int m] ∧ Bag L L p c ∧ c ≤ 800000 ∧ 0 ≤ m ∧ m ≤ 8 ∧ ∀ (zs : List Str) L', (zs.length : Int) = m → (∀ z ∈ zs, NmS z) → zs.Nodup → Bag L L' p ((c + 20 : Nat) : Int) → q (.lst (zs.map .str)) L'
def b__law_cell (A : Ad) : DTS :=
  (dSeq (dIfS (dTest (dOp ltD (dVar 1) (dCB lenD (dCons (dVar 0) dNil))))
    (dRet (dOp ixD (dVar 0) (dVar 1))) dNext)
    (dRet (dOp addD (dOp mulD (dC (.int 6091)) (dVar 1)) (dC (.int 37)))))
def b__law_box (A : Ad) : DTS :=
  (dRet (dLstC (dCons (dCB max2D (dCons (dC (.int 0)) (dCons (dOp subD (dVar 0) (dOp powD (dC (.int 10)) (dC (.int 18)))) dNil))) (dCons (dOp modD (dVar 0) (dC (.int 2147483629))) (dCons (dC (.int 0)) dNil)))))
def b__law_take (A : Ad) : DTS :=
  (dSeq (dIfS (dTest (dOp gtD (dOp ixD (dVar 0) (dC (.int 0))) (dC (.int 0))))
    (dSeq (dSet 2 (dOp modD (dOp ixD (dVar 0) (dC (.int 0))) (dVar 1)))
    (dSeq (dAsg (dOp fdivD (dOp ixD (dVar 0) (dC (.int 0))) (dVar 1)) (dgSub setD (dVar 0) (dC (.int 0))))
    (dRet (dVar 2)))) dNext)
    (dSeq (dAsg (dOp addD (dOp ixD (dVar 0) (dC (.int 2))) (dC (.int 1))) (dgSub setD (dVar 0) (dC (.int 2))))
    (dSeq (dSet 3 (dOp modD (dOp powD (dOp addD (dOp addD (dOp ixD (dVar 0) (dC (.int 1))) (dOp mulD (dC (.int 27179)) (dOp ixD (dVar 0) (dC (.int 2))))) (dC (.int 11))) (dC (.int 5))) (dC (.int 2147483647))))
    (dSeq (dSet 3 (dOp modD (dOp powD (dOp addD (dVar 3) (dOp mulD (dC (.int 99991)) (dOp ixD (dVar 0) (dC (.int 2))))) (dC (.int 3))) (dC (.int 2147483587))))
    (dRet (dOp modD (dOp fdivD (dVar 3) (dC (.int 16))) (dVar 1)))))))
def b__law_names (A : Ad) : DTS :=
  (dSeq (dSet 2 (dC (.str "abcdefghijklmnopqrstuvwxyz")))
    (dSeq (dSet 3 (dCall (sp__law_take A) 2 (dCons (dVar 0) (dCons (dC (.int 3)) dNil))))
    (dSeq (dSet 4 (dCall (sp__law_take A) 2 (dCons (dVar 0) (dCons (dC (.int 26)) dNil))))
    (dSeq (dSet 5 (dBML "str" joinD (dC (.str "")) (dCons (dLc (diRng1 (dCons (dC (.int 8)) dNil)) (dgName 6) dYes (dOp ixD (dVar 2) (dCall (sp__law_take A) 2 (dCons (dVar 0) (dCons (dC (.int 26)) dNil)))) [6]) dNil)))
    (dSeq (dIfS (dtAnd (dTest (dOp eqD (dVar 3) (dC (.int 0)))) (dTest (dOp ltD (dVar 1) (dC (.int 9)))))
    (dRet (dLc (diRng1 (dCons (dVar 1) dNil)) (dgName 6) dYes (dSl slD (dVar 5) dNoPart (dPart (dOp addD (dC (.int 1)) (dOp modD (dOp addD (dVar 4) (dOp mulD (dC (.int 3)) (dVar 6))) (dC (.int 8)))))) [6])) dNext)
    (dSeq (dIfS (dtAnd (dTest (dOp eqD (dVar 3) (dC (.int 1)))) (dTest (dOp ltD (dVar 1) (dC (.int 13)))))
    (dSeq (dSet 7 (dBML "str" splitD (dC (.str "wake doze ready sleep late still bell tick gain off bus disk")) (dCons (dC (.str " ")) dNil)))
    (dRet (dLc (diRng1 (dCons (dVar 1) dNil)) (dgName 6) dYes (dOp ixD (dVar 7) (dOp modD (dOp addD (dVar 4) (dOp mulD (dC (.int 5)) (dVar 6))) (dC (.int 12)))) [6]))) dNext)
    (dSeq (dSet 8 (dCall (sp__law_take A) 2 (dCons (dVar 0) (dCons (dC (.int 8)) dNil))))
    (dSeq (dSet 5 (dSl slD (dVar 5) dNoPart (dPart (dCall (sp__law_take A) 2 (dCons (dVar 0) (dCons (dC (.int 8)) dNil))))))
    (dRet (dLc (diRng1 (dCons (dVar 1) dNil)) (dgName 6) dYes (dOp addD (dOp addD (dSl slD (dVar 5) dNoPart (dPart (dVar 8))) (dOp ixD (dVar 2) (dOp modD (dOp addD (dVar 4) (dOp mulD (dC (.int 7)) (dVar 6))) (dC (.int 26))))) (dSl slD (dVar 5) (dPart (dVar 8)) dNoPart)) [6]))))))))))
theorem rd__law_cell (A : Ad) : Keeps ["_law_script", "_law_k"] (b__law_cell A) 2 (sp__law_cell A) := by
  rintro ds L q e hl ⟨ns, k, rfl, h0, h1, hq⟩
  unfold bodyD b__law_cell
  walk_at "vc"
  refine .inl ⟨_, _, rfl, rfl, ?_⟩
  walk_at "vc"
  refine v_ite (fun c => ?_) (fun c => ?_)
  · obtain ⟨y, hy, hm, _⟩ := at_lt (l := ns.map D.int) h0 (by simpa using c)
    rw [List.getElem?_map] at hm
    cases hn : ns[k.toNat]? with
    | none => rw [hn] at hm; cases hm
    | some i =>
      rw [hn] at hm
      cases hm
      walk_at "vc"
      exact v_ix (ds := ns.map D.int) rfl hy (v_rt (hq i))
  · walk_at "vc"
    refine v_mulI (mulW_small (by decide) (by omega)) ?_
    walk_at "vc"
    exact v_rt (hq _)
theorem rd__law_box (A : Ad) : Keeps ["_law_cell_here"] (b__law_box A) 1 (sp__law_box A) := by
  rintro ds L q e hl ⟨z, rfl, hq⟩
  unfold bodyD b__law_box
  walk_at "vc"
  refine v_pow ⟨by decide, by decide, by decide⟩ ?_
  walk_at "vc"
  refine ⟨_, _, rfl, ?_⟩
  walk_at "vc"
  refine v_mod (by decide) ?_
  walk_at "vc"
  refine ⟨(by show (3 : Nat) ≤ sizeLine; decide), fun p hp => v_rt (hq p _ hp ⟨_, _, 0, rfl, ?_, Int.emod_nonneg _ (by decide), Int.emod_lt_of_pos _ (by decide), by decide, by decide⟩)⟩
  split <;> omega
theorem rd__law_take (A : Ad) : Keeps ["_law_box_here", "_law_wide", "_law_digit", "_law_number"] (b__law_take A) 2 (sp__law_take A) := by
  rintro ds L q e hl ⟨p, n, c, rfl, ⟨x, hp, a, b, k, rfl, h0, h1, h2, h3, h4⟩, c0, c9, n0, nn, hq⟩
  unfold bodyD b__law_take
  walk_at "vc"
  refine v_ix (vs_ref hp) at0 ?_
  walk_at "vc"
  refine v_ite (fun c => ?_) (fun c => ?_)
  · walk_at "vc"
    refine v_ix (vs_ref hp) at0 ?_
    walk_at "vc"
    refine v_mod n0 ?_
    walk_at "vc"
    refine v_ix (vs_ref hp) at0 ?_
    walk_at "vc"
    refine v_fdiv ⟨n0, nn⟩ ?_
    walk_at "vc"
    refine v_setL (j := 0) hp rfl ?_
    walk_at "vc"
    exact v_rt (hq _ _ (Int.emod_nonneg _ (by omega)) (Int.emod_lt_of_pos _ n0) ⟨a / n, b, k, rfl, Int.ediv_nonneg h0 (by omega), h1, h2, h3, by omega⟩)
  · walk_at "vc"
    refine v_ix (vs_ref hp) at2 ?_
    walk_at "vc"
    refine v_setL (j := 2) hp rfl ?_
    have hp' : (updL L p (.lst [.int a, .int b, .int (k + 1)])) p = some (.lst [.int a, .int b, .int (k + 1)]) := updL_same
    walk_at "vc"
    refine v_ix (vs_ref hp') at1 ?_
    walk_at "vc"
    refine v_ix (vs_ref hp') at2 ?_
    walk_at "vc"
    refine v_mulI (mulW_small (by decide) (by omega)) ?_
    walk_at "vc"
    refine v_pow ⟨by decide, by decide, by omega⟩ ?_
    walk_at "vc"
    refine v_mod (by decide) ?_
    walk_at "vc"
    refine v_ix (vs_ref hp') at2 ?_
    walk_at "vc"
    refine v_mulI (mulW_small (by decide) (by omega)) ?_
    walk_at "vc"
    refine v_pow ⟨by decide, by decide, ?_⟩ ?_
    · exact take_numB (Int.emod_nonneg _ (by decide)) (Int.emod_lt_of_pos _ (by decide)) (by decide) (by decide) (by omega) (by omega)
    walk_at "vc"
    refine v_mod (by decide) ?_
    walk_at "vc"
    refine v_fdiv (wide_div (b := 10) (by decide) (by decide) (by decide) (by decide)) ?_
    walk_at "vc"
    refine v_mod n0 ?_
    exact v_rt (hq _ _ (Int.emod_nonneg _ (by omega)) (Int.emod_lt_of_pos _ n0) ⟨a, b, k + 1, rfl, h0, h1, h2, by omega, by omega⟩)
theorem rd__law_names (A : Ad) : Keeps ["_law_box_here", "_law_wide", "_law_letters", "_law_way", "_law_first", "_law_stem", "_law_k", "_law_words_here", "_law_at"] (b__law_names A) 2 (sp__law_names A) := by
  rintro ds L q e hl ⟨p, c, m, rfl, b, hc, m0, m1, hq⟩
  unfold bodyD b__law_names
  walk_at "w"
  refine ⟨rfl, take_d b (by omega) (by decide) (by decide) fun way L1 way0 way1 b1 => ?_⟩
  walk_at "w"
  refine ⟨rfl, take_d b1 (by omega) (by decide) (by decide) fun fst L2 fst0 fst1 b2 => ?_⟩
  walk_at "w"
  refine ⟨rfl, ?_⟩
  walk_at "w"
  refine ⟨8, rfl, by decide, by decide, ?_⟩
  refine lc_go (fun i acc L' => ∃ zs : List Str, acc = zs.map D.str ∧ zs.length = i ∧ (∀ z ∈ zs, z.length = 1 ∧ LetS z) ∧ Bag L L' p ((c + 2 + i : Nat) : Int)) ⟨[], rfl, rfl, (fun _ h => nomatch h), b2⟩ (fun _ _ _ _ => trivial) ?_ ?_
  · rintro i d acc L' R S Rq hd ⟨zs, rfl, hl', ho, bx⟩ hR hS
    obtain ⟨rfl, hi⟩ := rng_get (n := 8) hd
    walk_at "w"
    refine ⟨rfl, take_d bx (by omega) (by decide) (by decide) fun u Lx u0 u1 by_ => ?_⟩
    obtain ⟨sg, hs, ls⟩ := ltr_at u0 u1
    refine v_ixS (z := LTR) (sz_lt (by rw [ltr_len]; decide)) hs ?_
    refine ⟨by rw [List.length_map]; exact Nat.lt_of_lt_of_le (by omega : zs.length < 1000) (sz_lt (Nat.le_refl _)), hR _ _ ⟨zs ++ [⟨#[sg]⟩], by rw [List.map_append]; rfl, by rw [List.length_append, hl']; rfl, ?_, by_⟩⟩
    intro z hz
    rcases List.mem_append.mp hz with h | h
    · exact ho z h
    · rw [List.mem_singleton.mp h]; exact ⟨rfl, ls⟩
  rintro acc Ls ⟨zs, rfl, hl', ho, b4⟩
  obtain ⟨j1, j2, j3⟩ := join_nil ho
  have hzl : zs.length = 8 := hl'
  rw [show c + 2 + ((List.range (8 : Int).toNat).map fun i => D.int (i : Nat)).length = c + 2 + 8 from rfl] at b4
  walk_at "w"
  refine ⟨_, _, zs, rfl, rfl, rfl, ?_, ?_⟩
  · rw [j3]
    show zs.length + zs.length * 0 ≤ 16777216
    omega
  rw [show (Str.ofString "") = ("" : Str) from rfl]
  rw [hzl] at j1
  generalize Txt.join "" zs = tx at j1 j2
  walk_at "w"
  have hrng : ∀ k, k ∈ List.range m.toNat → (k : Int) < 40 := fun k hk => by
    have := List.mem_range.mp hk
    omega
  refine v_iteT ?_ (fun c0 hr => ?_)
  rotate_left
  · walk_at "w"
    refine v_ite (fun c1 => ?_) (fun c1 => hr)
    walk_at "w"
    refine ⟨m, rfl, by omega, by omega, ?_⟩
    refine lc_pure (fun _ => true) (fun d => match d with | .int k => .str (cutS tx none (some (1 + (fst + 3 * k) % 8))) | _ => .non) trivial (by rw [List.length_map, List.length_range]; exact sz_lt (by omega)) ?_ ?_
    · intro d hd acc Rq S ha h1 h2
      obtain ⟨k, hk, rfl⟩ := List.mem_map.mp hd
      have hk9 := hrng k hk
      walk_at "w"
      refine v_mulI (mulW_small (by decide) (by omega)) ?_
      walk_at "w"
      refine v_mod (by decide) ?_
      walk_at "w"
      refine v_slS (sz_lt (by omega)) ?_
      exact ⟨ha, h1 rfl⟩
    · refine v_rt ?_
      rw [map_keep]
      refine Eq.mp (congrArg (fun z => q (.lst z) _) (rng_map (F := fun k => cutS tx none (some (1 + (fst + 3 * k) % 8)))).symm) ?_
      refine hq _ _ (by rw [List.length_map, List.length_range]; omega) (fun z hz => ?_) (nodup_rng fun i j hi hj e => by have e1 := congrArg Str.length e; have h1 := Int.emod_nonneg (fst + 3 * (i : Int)) (b := 8) (by decide); have h2 := Int.emod_lt_of_pos (fst + 3 * (i : Int)) (b := 8) (by decide); have h3 := Int.emod_nonneg (fst + 3 * (j : Int)) (b := 8) (by decide); have h4 := Int.emod_lt_of_pos (fst + 3 * (j : Int)) (b := 8) (by decide); rw [cut_len (by omega), cut_len (by omega), j1] at e1; omega) (b4.more (by omega))
      obtain ⟨k, hk, rfl⟩ := List.mem_map.mp hz
      have h1 := Int.emod_nonneg (fst + 3 * (k : Int)) (b := 8) (by decide)
      have h2 := Int.emod_lt_of_pos (fst + 3 * (k : Int)) (b := 8) (by decide)
      have h3 := cut_len (z := tx) (k := 1 + (fst + 3 * (k : Int)) % 8) (by omega)
      exact nmS (let_cut j2) (by omega) (by omega)
  walk_at "w"
  refine v_iteT ?_ (fun c0 hr => ?_)
  rotate_left
  · walk_at "w"
    refine v_ite (fun c1 => ?_) (fun c1 => hr)
    walk_at "w"
    refine ⟨rfl, ?_⟩
    walk_at "w"
    refine ⟨_, _, rfl, rfl, by decide +kernel, by decide +kernel, ?_⟩
    rw [show Txt.split (Str.ofString "wake doze ready sleep late still bell tick gain off bus disk") (Str.ofString " ") = WDS from wds_split]
    walk_at "w"
    have hix : ∀ k : Int, ∃ z, (WDS.map D.str)[((fst + 5 * k) % 12).toNat]? = some (.str z) ∧ z ∈ WDS := fun k => by
      have h1 := Int.emod_nonneg (fst + 5 * k) (b := 12) (by decide)
      have h2 := Int.emod_lt_of_pos (fst + 5 * k) (b := 12) (by decide)
      have hl : ((fst + 5 * k) % 12).toNat < WDS.length := by show _ < 12; omega
      exact ⟨WDS[((fst + 5 * k) % 12).toNat], by rw [List.getElem?_map, List.getElem?_eq_getElem hl]; rfl, List.getElem_mem hl⟩
    refine ⟨m, rfl, by omega, by omega, ?_⟩
    refine lc_pure (fun _ => true) (fun d => match d with | .int k => .str (WDS.getD ((fst + 5 * k) % 12).toNat Str.empty) | _ => .non) trivial (by rw [List.length_map, List.length_range]; exact sz_lt (by omega)) ?_ ?_
    · intro d hd acc Rq S ha h1 h2
      obtain ⟨k, hk, rfl⟩ := List.mem_map.mp hd
      have hk9 := hrng k hk
      walk_at "w"
      refine v_mulI (mulW_small (by decide) (by omega)) ?_
      walk_at "w"
      refine v_mod (by decide) ?_
      obtain ⟨z, hz, hm⟩ := hix k
      refine v_ix rfl (atI_ofD (Int.emod_nonneg _ (by decide)) hz) ?_
      have ez : WDS.getD ((fst + 5 * (k : Int)) % 12).toNat Str.empty = z := by
        rw [List.getElem?_map] at hz
        rw [List.getD_eq_getElem?_getD]
        cases hw : WDS[((fst + 5 * (k : Int)) % 12).toNat]? with
        | none => rw [hw] at hz; cases hz
        | some y => rw [hw] at hz; cases hz; rfl
      rw [show (match D.int (k : Nat) with | .int k => .str (WDS.getD ((fst + 5 * k) % 12).toNat Str.empty) | _ => .non) = D.str (WDS.getD ((fst + 5 * (k : Int)) % 12).toNat Str.empty) from rfl, ez] at h1
      exact ⟨ha, h1 rfl⟩
    · refine v_rt ?_
      rw [map_keep]
      refine Eq.mp (congrArg (fun z => q (.lst z) _) (rng_map (F := fun k => WDS.getD ((fst + 5 * k) % 12).toNat Str.empty)).symm) ?_
      refine hq _ _ (by rw [List.length_map, List.length_range]; omega) (fun z hz => ?_) (nodup_rng fun i j hi hj e => by have h1 := Int.emod_nonneg (fst + 5 * (i : Int)) (b := 12) (by decide); have h2 := Int.emod_lt_of_pos (fst + 5 * (i : Int)) (b := 12) (by decide); have h3 := Int.emod_nonneg (fst + 5 * (j : Int)) (b := 12) (by decide); have h4 := Int.emod_lt_of_pos (fst + 5 * (j : Int)) (b := 12) (by decide); have e1 := wds_at (by omega) (by omega) e; omega) (b4.more (by omega))
      obtain ⟨k, hk, rfl⟩ := List.mem_map.mp hz
      obtain ⟨z, hz, hm⟩ := hix k
      rw [List.getElem?_map] at hz
      rw [List.getD_eq_getElem?_getD]
      cases hw : WDS[((fst + 5 * (k : Int)) % 12).toNat]? with
      | none => rw [hw] at hz; cases hz
      | some y => exact wds_ok y (List.mem_of_getElem? hw)
  walk_at "w"
  refine ⟨rfl, take_d b4 (by omega) (by decide) (by decide) fun at_ L6 at_0 at_1 b6 => ?_⟩
  walk_at "w"
  refine ⟨rfl, take_d b6 (by omega) (by decide) (by decide) fun y L7 y0 y1 b7 => ?_⟩
  walk_at "w"
  refine v_slS (sz_lt (by omega)) ?_
  have hst := cut_take (z := tx) (k := y) y0
  have lst := let_cut (lo := none) (hi := some y) j2
  generalize cutS tx none (some y) = st at hst lst
  walk_at "w"
  have htw := cut_two (z := st) (k := at_) at_0
  have lh := let_cut (lo := none) (hi := some at_) lst
  have ltl := let_cut (lo := some at_) (hi := none) lst
  have hsg : ∀ k : Int, atI LTR.cps.toList ((fst + 7 * k) % 26) = some (97 + ((fst + 7 * k) % 26).toNat) ∧ LetS ⟨#[97 + ((fst + 7 * k) % 26).toNat]⟩ := fun k => ltr_no (Int.emod_nonneg _ (by decide)) (Int.emod_lt_of_pos _ (by decide))
  refine ⟨m, rfl, by omega, by omega, ?_⟩
  refine lc_pure (fun _ => true) (fun d => match d with | .int k => .str ((cutS st none (some at_) ++ (⟨#[97 + ((fst + 7 * k) % 26).toNat]⟩ : Str)) ++ cutS st (some at_) none) | _ => .non) trivial (by rw [List.length_map, List.length_range]; exact sz_lt (by omega)) ?_ ?_
  · intro d hd acc Rq S ha h1 h2
    obtain ⟨k, hk, rfl⟩ := List.mem_map.mp hd
    have hk9 := hrng k hk
    walk_at "w"
    refine v_slS (sz_lt (by omega)) ?_
    walk_at "w"
    refine v_mulI (mulW_small (by decide) (by omega)) ?_
    walk_at "w"
    refine v_mod (by decide) ?_
    refine v_ixS (z := LTR) (sz_lt (by rw [ltr_len]; decide)) (hsg k).1 ?_
    refine v_addS (sz_lt (by show _ + 1 ≤ 1000; omega)) ?_
    walk_at "w"
    refine v_slS (sz_lt (by omega)) ?_
    refine v_addS (sz_lt (by rw [len_app]; show _ + 1 + _ ≤ 1000; omega)) ?_
    exact ⟨ha, h1 rfl⟩
  · refine v_rt ?_
    rw [map_keep]
    refine Eq.mp (congrArg (fun z => q (.lst z) _) (rng_map (F := fun k => (cutS st none (some at_) ++ (⟨#[97 + ((fst + 7 * k) % 26).toNat]⟩ : Str)) ++ cutS st (some at_) none)).symm) ?_
    refine hq _ _ (by rw [List.length_map, List.length_range]; omega) (fun z hz => ?_) (nodup_rng fun i j hi hj e => by have h1 := Int.emod_nonneg (fst + 7 * (i : Int)) (b := 26) (by decide); have h2 := Int.emod_lt_of_pos (fst + 7 * (i : Int)) (b := 26) (by decide); have h3 := Int.emod_nonneg (fst + 7 * (j : Int)) (b := 26) (by decide); have h4 := Int.emod_lt_of_pos (fst + 7 * (j : Int)) (b := 26) (by decide); have e1 := mid_eq2 e; omega) (b7.more (by omega))
    obtain ⟨k, hk, rfl⟩ := List.mem_map.mp hz
    exact nmS (let_app (let_app lh (hsg (k : Nat)).2) ltl) (by rw [len_app, len_app]; show 1 ≤ _ + 1 + _; omega) (by rw [len_app, len_app]; show _ + 1 + _ ≤ 8; omega)
end K16
set_option Elab.async false
set_option linter.all false
set_option maxRecDepth 100000
set_option maxHeartbeats 2000000
namespace K16
open PySem PySem.Spec PyProof.Rows L2 Dz Ed


structure Nms (zs : List Str) : Prop where
  l2 : 2 ≤ zs.length
  l8 : zs.length ≤ 8
  nm : ∀ z ∈ zs, NmS z
  nd : zs.Nodup
theorem NmS.as8 {z : Str} (h : NmS z) : As8 z := ⟨h.1, nam_len h.2⟩
theorem NmS.th {z : Str} (h : NmS z) : Th (.str z) 82 0 := (NmS.as8 h).th
def OWN : List Str := ["gain", "release"]
def WHO : List Str := ["tick", "sleep", "rise"]
def ENDS : List Str := ["done", "busy", "broken", "bell"]
def BLS : List Str := ["unheard", "noted", "broke", "woke"]
theorem own_ok : ∀ z ∈ OWN, As8 z := as8_of (by decide +kernel)
theorem who_ok : ∀ z ∈ WHO, As8 z := as8_of (by decide +kernel)
theorem ends_ok : ∀ z ∈ ENDS, As8 z := as8_of (by decide +kernel)
theorem bls_ok : ∀ z ∈ BLS, As8 z := as8_of (by decide +kernel)
def STT1 : List Str := ["waking", "wake", "falling", "doze", "stays", "off", "use", "reset", "unplug", "ready", "sleep", "late", "still"]
def STT2 : List Str := ["unready", "unsleep", "unlate", "unstill"]
theorem stt1_split : Txt.split "waking wake falling doze stays off use reset unplug ready sleep late still" " " = STT1 := by decide +kernel
theorem stt2_split : Txt.split "unready unsleep unlate unstill" " " = STT2 := by decide +kernel
theorem stt_ok : ∀ z ∈ STT1 ++ STT2, As8 z := as8_of (by decide +kernel)
theorem lit8 {z : Str} (h : (ascB z && Nat.ble z.length 8) = true) : As8 z := as8_of (zs := [z]) (by simpa using h) z (by simp)
theorem atE {zs : List Str} {i : Int} (h0 : -(zs.length : Int) ≤ i) (h1 : i < zs.length) : ∃ (m : Nat) (hm : m < zs.length), (m : Int) = (if 0 ≤ i then i else i + zs.length) ∧ atI (zs.map D.str) i = some (.str zs[m]) := by
  by_cases z : 0 ≤ i
  · refine ⟨i.toNat, by omega, by rw [if_pos z]; omega, atI_ofD z ?_⟩
    rw [List.getElem?_map, List.getElem?_eq_getElem (by omega)]; rfl
  · refine ⟨(i + zs.length).toNat, by omega, by rw [if_neg z]; omega, ?_⟩
    unfold L2.atI
    have e : ixN (zs.map D.str).length i = some (i + zs.length).toNat := by
      unfold ixN
      rw [if_neg z, List.length_map, if_pos (by omega)]
    rw [e]
    show (zs.map D.str)[(i + zs.length).toNat]? = _
    rw [List.getElem?_map, List.getElem?_eq_getElem (by omega)]; rfl
theorem told_and (n p b s w f r : D) : toldD (.tup [n, p, b, s, w, f, r]) = (namD n && ((isNonD p || namD p) && (whlD b 0 100 && (whlD s 0 (intvD b) && (whlD w 0 5 && (whlD f 0 5 && whlD r 0 9)))))) := by
  show (dueOf n p b s w f r).isNone = _
  unfold dueOf
  cases namD n
  · rfl
  cases isNonD p <;> cases namD p <;> try rfl
  all_goals (cases whlD b 0 100; · rfl)
  all_goals (cases whlD s 0 (intvD b); · rfl)
  all_goals (cases whlD w 0 5; · rfl)
  all_goals (cases whlD f 0 5; · rfl)
  all_goals (cases whlD r 0 9 <;> rfl)
theorem whl_of {i a b : Int} (h : a ≤ i) (g : i ≤ b) : whlD (.int i) a b = true := by
  show (decide (a ≤ i) && decide (i ≤ b)) = true
  rw [decide_eq_true h, decide_eq_true g]; rfl
theorem ths2 {a b : D} {m n : Nat} (ha : Th a m 0) (hb : Th b n 0) : Ths [a, b] (m + n + 4) 0 := (Ths.cons ha (Ths.one hb)).more
theorem noKs_all {ts : List D} (h : ∀ t ∈ ts, noK t = true) : noKs ts = true := by
  induction ts with
  | nil => rfl
  | cons t ts ih => rw [noKs.eq_def]; simp only [h t List.mem_cons_self, ih fun u hu => h u (List.mem_cons_of_mem _ hu), Bool.and_self]
/-- words that a log takes -/
structure Wok (ts : List D) : Prop where
  th : Ths ts 3800 2
  ln : ts.length ≤ 10
  w : ∀ t : Int, 0 ≤ t → rwD (.int t) (.tup ts) = true
  nk : noKs ts = true
  sh : ∃ a b r, ts = a :: b :: r ∧ wordsD a (b :: r) = true
theorem wok_of {a b : D} {r : List D} (h : wordsD a (b :: r) = true) (t : Ths (a :: b :: r) 3800 2) (l : r.length ≤ 8) (k : noKs (a :: b :: r) = true) : Wok (a :: b :: r) :=
  ⟨t, by simp; omega, fun t h0 => by
    show (atlD (.int t) 0 && wordsD a (b :: r)) = true
    rw [h]
    show (decide (0 ≤ t) && true) = true
    rw [decide_eq_true h0]; rfl, k, a, b, r, rfl, h⟩
theorem own_d {w : Str} (h : w ∈ OWN) {n : D} (hn : namD n = true) : isDeedD (.str w) n = true := by
  have : (["gain", "release"] : List Str).any (fun z => isS z (.str w)) = true := List.any_eq_true.mpr ⟨w, h, decide_eq_true rfl⟩
  unfold isDeedD
  rw [if_pos this]; exact hn
theorem who_d {w : Str} (h : w ∈ WHO) : isDeedD (.str w) .non = true := by
  have key : ∀ w ∈ WHO, isDeedD (.str w) .non = true := by
    intro w hw
    simp only [WHO, List.mem_cons, List.not_mem_nil, or_false] at hw
    rcases hw with rfl | rfl | rfl <;> decide +kernel
  exact key w h
theorem end_a {d : D} {e : Str} (h : e ∈ (["done", "busy", "broken"] : List Str)) : isEndD d (.str e) = true := by
  have : (["done", "busy", "broken"] : List Str).any (fun z => isS z (.str e)) = true := List.any_eq_true.mpr ⟨e, h, decide_eq_true rfl⟩
  unfold isEndD
  rw [this]; rfl
theorem stt_w {z : Str} (h : z ∈ STT1 ++ STT2) {x : D} (hx : namD x = true) : wordsD (.str z) [x] = true := by
  have key : ((STT1 ++ STT2).all fun z => (!isS "begin" (.str z)) && ((!isS "end" (.str z)) && ((!isS "missed" (.str z)) && ((!isS "bell" (.str z)) && ((!isS "plug" (.str z)) && devW (.str z)))))) = true := by decide +kernel
  have := List.all_eq_true.mp key z h
  simp only [Bool.and_eq_true, Bool.not_eq_true'] at this
  obtain ⟨h1, h2, h3, h4, h5, h6⟩ := this
  unfold wordsD
  simp only [h1, h2, h3, h4, h5, Bool.false_eq_true, if_false]
  rw [h6, hx]; rfl

def sp__law_links (A : Ad) : DSp := fun ds L q _ => ∃ (p : Addr) (c : Nat) (zs : List Str), ds = [.ref p, .lst (zs.map .str)] ∧ Bag L L p c ∧ c ≤ 800000 ∧ Nms zs ∧ ∀ ts L', Ths ts 2768 1 → linksD (.tup ts) = true → noKs ts = true → Bag L L' p ((c + 40 : Nat) : Int) → q (.tup ts) L'
def sp__law_told_device (A : Ad) : DSp := fun ds L q _ => ∃ (p : Addr) (c : Nat) (zs : List Str), ds = [.ref p, .lst (zs.map .str)] ∧ Bag L L p c ∧ c ≤ 800000 ∧ Nms zs ∧ ∀ ts L', Ths ts 883 0 → toldD (.tup ts) = true → noKs ts = true → Bag L L' p ((c + 20 : Nat) : Int) → q (.tup ts) L'
def b__law_links (A : Ad) : DTS :=
  (dSeq (dSet 2 (dLstC dNil))
    (dSeq (dFor (diRng1 (dCons (dOp ixD (dLst (dCons (dC (.int 0)) (dCons (dC (.int 1)) (dCons (dC (.int 16)) (dCons (dCall (sp__law_take A) 2 (dCons (dVar 0) (dCons (dC (.int 5)) dNil))) dNil))))) (dCall (sp__law_take A) 2 (dCons (dVar 0) (dCons (dC (.int 4)) dNil)))) dNil)) (dgName 3)
    (dSeq (dSet 4 (dCall (sp__law_take A) 2 (dCons (dVar 0) (dCons (dCB lenD (dCons (dVar 1) dNil)) dNil))))
    (dDrop (dBML "list" appendD (dVar 2) (dCons (dTup (dCons (dOp ixD (dVar 1) (dVar 4)) (dCons (dOp ixD (dVar 1) (dOp subD (dOp subD (dVar 4) (dC (.int 1))) (dCall (sp__law_take A) 2 (dCons (dVar 0) (dCons (dOp subD (dCB lenD (dCons (dVar 1) dNil)) (dC (.int 1))) dNil))))) dNil))) dNil)))))
    (dRet (dCB tupleD (dCons (dVar 2) dNil)))))
def b__law_told_device (A : Ad) : DTS :=
  (dSeq (dSet 2 (dOp ixD (dLst (dCons (dC .non) (dCons (dOp ixD (dVar 1) (dCall (sp__law_take A) 2 (dCons (dVar 0) (dCons (dCB lenD (dCons (dVar 1) dNil)) dNil)))) dNil))) (dCall (sp__law_take A) 2 (dCons (dVar 0) (dCons (dC (.int 2)) dNil)))))
    (dSeq (dSet 3 (dOp ixD (dLst (dCons (dC (.int 0)) (dCons (dC (.int 100)) (dCons (dCall (sp__law_take A) 2 (dCons (dVar 0) (dCons (dC (.int 101)) dNil))) dNil)))) (dCall (sp__law_take A) 2 (dCons (dVar 0) (dCons (dC (.int 3)) dNil)))))
    (dSeq (dSet 4 (dOp ixD (dLst (dCons (dC (.int 0)) (dCons (dVar 3) (dCons (dCall (sp__law_take A) 2 (dCons (dVar 0) (dCons (dOp addD (dVar 3) (dC (.int 1))) dNil))) dNil)))) (dCall (sp__law_take A) 2 (dCons (dVar 0) (dCons (dC (.int 3)) dNil)))))
    (dRet (dTup (dCons (dOp ixD (dVar 1) (dC (.int 0))) (dCons (dVar 2) (dCons (dVar 3) (dCons (dVar 4) (dCons (dCall (sp__law_take A) 2 (dCons (dVar 0) (dCons (dC (.int 6)) dNil))) (dCons (dCall (sp__law_take A) 2 (dCons (dVar 0) (dCons (dC (.int 6)) dNil))) (dCons (dCall (sp__law_take A) 2 (dCons (dVar 0) (dCons (dC (.int 10)) dNil))) dNil))))))))))))
theorem rd__law_links (A : Ad) : Keeps ["_law_box_here", "_law_names_here", "_law_found", "_law_k", "_law_at"] (b__law_links A) 2 (sp__law_links A) := by
  rintro ds L q e hl ⟨p, c, zs, rfl, b, hc, hn, hq⟩
  unfold bodyD b__law_links
  walk_at "w"
  intro r hr
  have rp : r ≠ p := b.ne_new hr
  have b0 := b.new (a := r) (x := .lst []) hr
  walk_at "w"
  refine ⟨rfl, take_d b0 (by omega) (by decide) (by decide) fun u L1 u0 u1 b1 => ?_⟩
  walk_at "w"
  refine ⟨rfl, take_d b1 (by omega) (by decide) (by decide) fun i L2 i0 i1 b2 => ?_⟩
  walk_at "w"
  refine v_ixI (ns := [0, 1, 16, u]) rfl i0 i1 fun n hm => ?_
  have n16 : 0 ≤ n ∧ n ≤ 16 := by
    simp only [List.mem_cons, List.not_mem_nil, or_false] at hm
    omega
  walk_at "w"
  refine ⟨n, rfl, by omega, by omega, ?_⟩
  refine for_go (fun j ρ' L' => j ≤ 16 ∧ (∃ o1 o2, ρ' = [some (.ref p), some (.lst (zs.map .str)), some (.ref r), o1, o2]) ∧ ∃ ts, ts.length = j ∧ (∀ t ∈ ts, Th t 171 1 ∧ linkD t = true ∧ noK t = true) ∧ Bag (updL L r (.lst ts)) L' p ((c + 2 + 2 * j : Nat) : Int)) ⟨by omega, ⟨_, _, rfl⟩, [], rfl, (fun _ h => nomatch h), b2⟩ (fun _ _ _ _ => trivial) ?_ ?_
  · rintro j d ρ' L' R hd ⟨j16, ⟨o1, o2, rfl⟩, ts, htl, hts, bb⟩ hR
    obtain ⟨rfl, hj⟩ := rng_get hd
    walk_at "w"
    rw [List.length_map]
    refine ⟨rfl, take_d bb (by omega) (by have := hn.l2; omega) (log_of (by have := hn.l2; omega) (by have := hn.l8; omega)) fun a L3 a0 a1 b3 => ?_⟩
    walk_at "w"
    refine ⟨⟨rfl, ts, by rw [b3.rest r rp, updL_same]⟩, ?_⟩
    walk_at "w"
    have h2 := hn.l2
    have h8 := hn.l8
    obtain ⟨m1, hm1, e1, at1_⟩ := atE (zs := zs) (i := a) (by omega) a1
    refine v_ix rfl at1_ ?_
    walk_at "w"
    rw [List.length_map]
    refine ⟨rfl, take_d b3 (by omega) (by omega) (log_of (by omega) (by omega)) fun y L4 y0 y1 b4 => ?_⟩
    walk_at "w"
    obtain ⟨m2, hm2, e2, at2_⟩ := atE (zs := zs) (i := a - 1 - y) (by omega) (by omega)
    refine v_ix rfl at2_ ?_
    walk_at "w"
    have hLr : L4 r = some (.lst ts) := by rw [b4.rest r rp, updL_same]
    refine ⟨r, ts, _, rfl, rfl, hLr, by rw [htl]; exact sz_lt (by omega), ?_⟩
    walk_at "w"
    have hne : m1 ≠ m2 := by
      rw [if_pos a0] at e1
      split at e2 <;> omega
    have z1 := hn.nm _ (List.getElem_mem hm1)
    have z2 := hn.nm _ (List.getElem_mem hm2)
    have zne : zs[m1] ≠ zs[m2] := by
      have pw := List.pairwise_iff_getElem.mp hn.nd
      rcases Nat.lt_or_gt_of_ne hne with h | h
      · exact pw m1 m2 hm1 hm2 h
      · exact fun e => pw m2 m1 hm2 hm1 h e.symm
    refine hR _ _ ⟨by omega, ⟨_, _, rfl⟩, ts ++ [.tup [.str zs[m1], .str zs[m2]]], by rw [List.length_append, htl]; rfl, fun t ht => ?_, ?_⟩
    · rcases List.mem_append.mp ht with h | h
      · exact hts t h
      · rw [List.mem_singleton.mp h]
        refine ⟨(Ths.tup (Ths.cons (NmS.th z1) (Ths.one (NmS.th z2)))).more, ?_, rfl⟩
        show (namD (.str zs[m1]) && (namD (.str zs[m2]) && !decide (zs[m1] = zs[m2]))) = true
        rw [z1.2, z2.2, decide_eq_false zne]; rfl
    · have := (b4.more (d := ((c + 2 + 2 * (j + 1) : Nat) : Int)) (by omega)).put (y := .lst (ts ++ [.tup [.str zs[m1], .str zs[m2]]])) rp
      rw [updL_updL] at this
      exact this
  rintro ρ' L' ⟨j16, ⟨o1, o2, rfl⟩, ts, htl, hts, bb⟩
  have hLr : L' r = some (.lst ts) := by rw [bb.rest r rp, updL_same]
  walk_at "w"
  refine ⟨.ref r, ts, rfl, .inl ⟨vr_ref hLr, ?_⟩⟩
  rw [List.length_map, List.length_range] at htl bb
  refine v_rtD (a := r) (hq ts _ ((Ths.all fun t ht => (hts t ht).1).more (by omega)) ?_ (noKs_all fun t ht => (hts t ht).2.2) ((bb.gone hr rp).more (by omega)))
  show (decide ((ts.length : Int) ≤ 16) && ts.all linkD) = true
  rw [decide_eq_true (by omega), List.all_eq_true.mpr fun t ht => (hts t ht).2.1]; rfl
theorem rd__law_told_device (A : Ad) : Keeps ["_law_box_here", "_law_names_here", "_law_parent", "_law_burn", "_law_sip"] (b__law_told_device A) 2 (sp__law_told_device A) := by
  rintro ds L q e hl ⟨p, c, zs, rfl, b, hc, hn, hq⟩
  unfold bodyD b__law_told_device
  walk_at "w"
  rw [List.length_map]
  refine ⟨rfl, take_d b (by omega) (by have := hn.l2; omega) (log_of (by have := hn.l2; omega) (by have := hn.l8; omega)) fun a L1 a0 a1 b1 => ?_⟩
  walk_at "w"
  refine v_ixZ rfl a0 a1 fun z hz => ?_
  walk_at "w"
  refine ⟨rfl, take_d b1 (by omega) (by decide) (by decide) fun i L2 i0 i1 b2 => ?_⟩
  walk_at "w"
  refine v_ixM rfl i0 i1 fun par hpar => ?_
  simp only [List.mem_cons, List.not_mem_nil, or_false] at hpar
  have tpar : Th par 82 0 ∧ (isNonD par || namD par) = true := by
    rcases hpar with rfl | rfl
    · exact ⟨Th.non.more, rfl⟩
    · exact ⟨NmS.th (hn.nm z hz), by rw [(hn.nm z hz).2]; rfl⟩
  walk_at "w"
  refine ⟨rfl, take_d b2 (by omega) (by decide) (by decide) fun u L3 u0 u1 b3 => ?_⟩
  walk_at "w"
  refine ⟨rfl, take_d b3 (by omega) (by decide) (by decide) fun j L4 j0 j1 b4 => ?_⟩
  walk_at "w"
  refine v_ixI (ns := [0, 100, u]) rfl j0 j1 fun cost hm => ?_
  have cb : 0 ≤ cost ∧ cost ≤ 100 := by
    simp only [List.mem_cons, List.not_mem_nil, or_false] at hm
    omega
  walk_at "w"
  refine ⟨rfl, take_d b4 (by omega) (by omega) (log_of (by omega) (by omega)) fun y L5 y0 y1 b5 => ?_⟩
  walk_at "w"
  refine ⟨rfl, take_d b5 (by omega) (by decide) (by decide) fun k L6 k0 k1 b6 => ?_⟩
  walk_at "w"
  refine v_ixI (ns := [0, cost, y]) rfl k0 k1 fun drop hm2 => ?_
  have db : 0 ≤ drop ∧ drop ≤ cost := by
    simp only [List.mem_cons, List.not_mem_nil, or_false] at hm2
    omega
  walk_at "w"
  have hz0 : ∃ z0, (zs.map D.str)[0]? = some (.str z0) ∧ z0 ∈ zs := by
    have h2 := hn.l2
    exact ⟨zs[0], by rw [List.getElem?_map, List.getElem?_eq_getElem (by omega)]; rfl, List.getElem_mem _⟩
  obtain ⟨z0, e0, m0⟩ := hz0
  refine v_ix (i := 0) rfl (atI_ofD (by decide) e0) ?_
  walk_at "w"
  refine ⟨rfl, take_d b6 (by omega) (by decide) (by decide) fun w1 L7 w10 w11 b7 => ?_⟩
  walk_at "w"
  refine ⟨rfl, take_d b7 (by omega) (by decide) (by decide) fun w2 L8 w20 w21 b8 => ?_⟩
  walk_at "w"
  refine ⟨rfl, take_d b8 (by omega) (by decide) (by decide) fun w3 L9 w30 w31 b9 => ?_⟩
  walk_at "w"
  refine v_rt (hq _ _ ?_ ?_ (by rcases hpar with rfl | rfl <;> rfl) (b9.more (by omega)))
  · exact (Ths.cons (NmS.th (hn.nm z0 m0)) (.cons tpar.1 (.cons (Th.small (i := cost)) (.cons (Th.small (i := drop)) (.cons (Th.small (i := w1)) (.cons (Th.small (i := w2)) (.cons (Th.small (i := w3)) .nil))))))).more
  · rw [told_and, (hn.nm z0 m0).2, tpar.2, whl_of cb.1 cb.2, whl_of db.1 (show drop ≤ intvD (.int cost) from db.2), whl_of w10 (by omega), whl_of w20 (by omega), whl_of w30 (by omega)]; rfl
end K16
set_option Elab.async false
set_option linter.all false
set_option maxRecDepth 100000
set_option maxHeartbeats 2000000
namespace K16
open PySem PySem.Spec PyProof.Rows L2 Dz Ed


def sp__law_words (A : Ad) : DSp := fun ds L q _ => ∃ (p : Addr) (c : Nat) (zs : List Str), ds = [.ref p, .lst (zs.map .str)] ∧ Bag L L p c ∧ c ≤ 700000 ∧ Nms zs ∧ ∀ ts L', Wok ts → Bag L L' p ((c + 100 : Nat) : Int) → q (.tup ts) L'
def b__law_words (A : Ad) : DTS :=
  (dSeq (dSet 2 (dBML "str" splitD (dC (.str "waking wake falling doze stays off use reset unplug ready sleep late still")) (dCons (dC (.str " ")) dNil)))
    (dSeq (dSet 2 (dOp addD (dVar 2) (dBML "str" splitD (dC (.str "unready unsleep unlate unstill")) (dCons (dC (.str " ")) dNil))))
    (dSeq (dPar 3 4 (dCons (dOp ixD (dVar 1) (dCall (sp__law_take A) 2 (dCons (dVar 0) (dCons (dCB lenD (dCons (dVar 1) dNil)) dNil)))) (dCons (dOp ixD (dVar 1) (dCall (sp__law_take A) 2 (dCons (dVar 0) (dCons (dCB lenD (dCons (dVar 1) dNil)) dNil)))) dNil)))
    (dSeq (dSet 5 (dCall (sp__law_take A) 2 (dCons (dVar 0) (dCons (dC (.int 8)) dNil))))
    (dSeq (dPar 6 7 (dCons (dOp ixD (dLst (dCons (dC (.str "gain")) (dCons (dC (.str "release")) dNil))) (dCall (sp__law_take A) 2 (dCons (dVar 0) (dCons (dC (.int 2)) dNil)))) (dCons (dOp ixD (dLst (dCons (dC (.str "tick")) (dCons (dC (.str "sleep")) (dCons (dC (.str "rise")) dNil)))) (dCall (sp__law_take A) 2 (dCons (dVar 0) (dCons (dC (.int 3)) dNil)))) dNil)))
    (dSeq (dSet 8 (dOp ixD (dLst (dCons (dC (.str "done")) (dCons (dC (.str "busy")) (dCons (dC (.str "broken")) (dCons (dC (.str "bell")) dNil))))) (dCall (sp__law_take A) 2 (dCons (dVar 0) (dCons (dOp addD (dC (.int 3)) (dCB intD (dCons (dOp eqD (dVar 7) (dC (.str "sleep"))) dNil))) dNil)))))
    (dSeq (dIfS (dTest (dOp eqD (dVar 5) (dC (.int 0))))
    (dRet (dOp ixD (dLst (dCons (dTup (dCons (dC (.str "begin")) (dCons (dVar 6) (dCons (dVar 3) dNil)))) (dCons (dTup (dCons (dC (.str "begin")) (dCons (dVar 7) (dCons (dC .non) dNil)))) dNil))) (dCall (sp__law_take A) 2 (dCons (dVar 0) (dCons (dC (.int 2)) dNil))))) dNext)
    (dSeq (dIfS (dTest (dOp eqD (dVar 5) (dC (.int 1))))
    (dRet (dOp ixD (dLst (dCons (dTup (dCons (dC (.str "end")) (dCons (dVar 6) (dCons (dVar 3) (dCons (dIfE (dTest (dOp neD (dVar 8) (dC (.str "bell")))) (dVar 8) (dC (.str "done"))) dNil))))) (dCons (dTup (dCons (dC (.str "end")) (dCons (dVar 7) (dCons (dC .non) (dCons (dVar 8) dNil))))) dNil))) (dCall (sp__law_take A) 2 (dCons (dVar 0) (dCons (dC (.int 2)) dNil))))) dNext)
    (dSeq (dIfS (dTest (dOp eqD (dVar 5) (dC (.int 2))))
    (dRet (dTup (dCons (dC (.str "missed")) (dCons (dVar 3) (dCons (dVar 4) dNil))))) dNext)
    (dSeq (dIfS (dTest (dOp eqD (dVar 5) (dC (.int 3))))
    (dRet (dTup (dCons (dC (.str "bell")) (dCons (dVar 3) (dCons (dOp ixD (dLst (dCons (dC (.str "unheard")) (dCons (dC (.str "noted")) (dCons (dC (.str "broke")) (dCons (dC (.str "woke")) dNil))))) (dCall (sp__law_take A) 2 (dCons (dVar 0) (dCons (dC (.int 4)) dNil)))) dNil))))) dNext)
    (dSeq (dIfS (dTest (dOp eqD (dVar 5) (dC (.int 4))))
    (dRet (dTup (dCons (dC (.str "plug")) (dCons (dCall (sp__law_told_device A) 2 (dCons (dVar 0) (dCons (dVar 1) dNil))) (dCons (dCall (sp__law_links A) 2 (dCons (dVar 0) (dCons (dVar 1) dNil))) dNil))))) dNext)
    (dRet (dTup (dCons (dOp ixD (dVar 2) (dCall (sp__law_take A) 2 (dCons (dVar 0) (dCons (dC (.int 17)) dNil)))) (dCons (dVar 3) dNil)))))))))))))))
theorem rd__law_words (A : Ad) : Keeps ["_law_box_here", "_law_names_here", "_law_states", "_law_name", "_law_other", "_law_way", "_law_own", "_law_whole", "_law_ends"] (b__law_words A) 2 (sp__law_words A) := by
  rintro ds L q e hl ⟨p, c, zs, rfl, b, hc, hn, hq⟩
  unfold bodyD b__law_words
  walk_at "w"
  refine ⟨rfl, ?_⟩
  walk_at "w"
  refine ⟨_, _, rfl, rfl, by decide +kernel, by decide +kernel, ?_⟩
  rw [show Txt.split (Str.ofString "waking wake falling doze stays off use reset unplug ready sleep late still") (Str.ofString " ") = STT1 from stt1_split]
  walk_at "w"
  refine ⟨rfl, ?_⟩
  walk_at "w"
  refine ⟨_, _, rfl, rfl, by decide +kernel, by decide +kernel, ?_⟩
  rw [show Txt.split (Str.ofString "unready unsleep unlate unstill") (Str.ofString " ") = STT2 from stt2_split]
  refine v_addL (xs := STT1.map .str) (ys := STT2.map .str) rfl rfl (by show (17 : Nat) ≤ sizeLine; decide) ?_
  walk_at "w"
  rw [List.length_map]
  refine ⟨rfl, take_d b (by omega) (by have := hn.l2; omega) (log_of (by have := hn.l2; omega) (by have := hn.l8; omega)) fun a L1 a0 a1 b1 => ?_⟩
  walk_at "w"
  refine v_ixZ rfl a0 a1 fun nm hnm => ?_
  walk_at "w"
  rw [List.length_map]
  refine ⟨rfl, take_d b1 (by omega) (by have := hn.l2; omega) (log_of (by have := hn.l2; omega) (by have := hn.l8; omega)) fun o L2 o0 o1 b2 => ?_⟩
  walk_at "w"
  refine v_ixZ rfl o0 o1 fun ot hot => ?_
  walk_at "w"
  refine ⟨rfl, take_d b2 (by omega) (by decide) (by decide) fun way L3 way0 way1 b3 => ?_⟩
  walk_at "w"
  refine ⟨rfl, take_d b3 (by omega) (by decide) (by decide) fun i L4 i0 i1 b4 => ?_⟩
  walk_at "w"
  refine v_ixZ (zs := OWN) rfl i0 i1 fun ow how => ?_
  walk_at "w"
  refine ⟨rfl, take_d b4 (by omega) (by decide) (by decide) fun j L5 j0 j1 b5 => ?_⟩
  walk_at "w"
  refine v_ixZ (zs := WHO) rfl j0 j1 fun wh hwh => ?_
  walk_at "w"
  have zn := hn.nm nm hnm
  have zo := hn.nm ot hot
  have tn := NmS.th zn
  have tot := NmS.th zo
  have tow := (own_ok ow how).th
  have twh := (who_ok wh hwh).th
  generalize hsl : decide (wh = Str.ofString "sleep") = sl
  refine .inr ⟨sl, rfl, ?_⟩
  walk_at "w"
  have e3 : (3 : Int) + (if sl = true then 1 else 0) = (if sl = true then 4 else 3) := by cases sl <;> rfl
  rw [e3]
  refine ⟨rfl, take_d b5 (by omega) (by split <;> decide) (by split <;> decide) fun k L6 k0 k1 b6 => ?_⟩
  walk_at "w"
  have k4 : k < 4 := by split at k1 <;> omega
  obtain ⟨en, hen, hen2⟩ : ∃ en, atI (ENDS.map D.str) k = some (.str en) ∧ (en ∈ (["done", "busy", "broken"] : List Str) ∨ (en = "bell" ∧ sl = true)) := by
    obtain rfl | rfl | rfl | rfl : k = 0 ∨ k = 1 ∨ k = 2 ∨ k = 3 := by omega
    · exact ⟨_, at0, .inl (by decide +kernel)⟩
    · exact ⟨_, at1, .inl (by decide +kernel)⟩
    · exact ⟨_, at2, .inl (by decide +kernel)⟩
    · refine ⟨_, at3, .inr ⟨rfl, ?_⟩⟩
      cases sl with
      | true => rfl
      | false => exact absurd k1 (by decide)
  refine v_ix (ds := ENDS.map D.str) rfl hen ?_
  have hem : en ∈ ENDS := by
    rcases hen2 with h | ⟨rfl, _⟩
    · exact List.mem_append_left [("bell" : Str)] h
    · decide +kernel
  have ten := (ends_ok en hem).th
  have hend : isEndD (.str wh) (.str en) = true := by
    rcases hen2 with h | ⟨rfl, h⟩
    · exact end_a h
    · rw [h] at hsl
      have : wh = Str.ofString "sleep" := of_decide_eq_true hsl
      subst this
      decide +kernel
  walk_at "w"
  refine v_ite (fun c0 => ?_) (fun c0 => ?_)
  · walk_at "w"
    refine ⟨rfl, take_d b6 (by omega) (by decide) (by decide) fun u L7 u0 u1 b7 => ?_⟩
    walk_at "w"
    refine v_ixM rfl u0 u1 fun d hd => ?_
    simp only [List.mem_cons, List.not_mem_nil, or_false] at hd
    rcases hd with rfl | rfl
    · refine v_rt (hq _ _ (wok_of (show isDeedD (.str ow) (.str nm) = true from own_d how zn.2) (Ths.cons (lit8 (z := Str.ofString "begin") (by decide +kernel)).th (ths2 tow tn)).more (by simp) rfl) (b7.more (by omega)))
    · refine v_rt (hq _ _ (wok_of (show isDeedD (.str wh) .non = true from who_d hwh) (Ths.cons (lit8 (z := Str.ofString "begin") (by decide +kernel)).th (ths2 twh Th.non)).more (by simp) rfl) (b7.more (by omega)))
  walk_at "w"
  refine v_ite (fun c1 => ?_) (fun c1 => ?_)
  · walk_at "w"
    have key : ∀ e2 : Str, e2 ∈ (["done", "busy", "broken"] : List Str) → Th (.str e2) 82 0 → (fun d : D => d = .tup [.str (Str.ofString "end"), .str ow, .str nm, .str e2] ∨ d = .tup [.str (Str.ofString "end"), .str wh, .non, .str en]) = (fun d : D => d = .tup [.str (Str.ofString "end"), .str ow, .str nm, .str e2] ∨ d = .tup [.str (Str.ofString "end"), .str wh, .non, .str en]) := fun _ _ _ => rfl
    have good : ∀ e2 : Str, e2 ∈ (["done", "busy", "broken"] : List Str) → Th (.str e2) 82 0 → Wok [.str (Str.ofString "end"), .str ow, .str nm, .str e2] := fun e2 h t => wok_of (show (isDeedD (.str ow) (.str nm) && isEndD (.str ow) (.str e2)) = true by rw [own_d how zn.2, end_a h]; rfl) (Ths.cons (lit8 (z := Str.ofString "end") (by decide +kernel)).th (Ths.cons tow (ths2 tn t))).more (by simp) rfl
    have good2 : Wok [.str (Str.ofString "end"), .str wh, .non, .str en] := wok_of (show (isDeedD (.str wh) .non && isEndD (.str wh) (.str en)) = true by rw [who_d hwh, hend]; rfl) (Ths.cons (lit8 (z := Str.ofString "end") (by decide +kernel)).th (Ths.cons twh (ths2 Th.non ten))).more (by simp) rfl
    refine v_ite (fun c2 => ?_) (fun c2 => ?_)
    · have h3 : en ∈ (["done", "busy", "broken"] : List Str) := by
        rcases hen2 with h | ⟨rfl, _⟩
        · exact h
        · exact absurd c2 (by decide +kernel)
      walk_at "w"
      refine ⟨rfl, take_d b6 (by omega) (by decide) (by decide) fun u L7 u0 u1 b7 => ?_⟩
      walk_at "w"
      refine v_ixM rfl u0 u1 fun d hd => ?_
      simp only [List.mem_cons, List.not_mem_nil, or_false] at hd
      rcases hd with rfl | rfl
      · exact v_rt (hq _ _ (good en h3 ten) (b7.more (by omega)))
      · exact v_rt (hq _ _ good2 (b7.more (by omega)))
    · walk_at "w"
      refine ⟨rfl, take_d b6 (by omega) (by decide) (by decide) fun u L7 u0 u1 b7 => ?_⟩
      walk_at "w"
      refine v_ixM rfl u0 u1 fun d hd => ?_
      simp only [List.mem_cons, List.not_mem_nil, or_false] at hd
      rcases hd with rfl | rfl
      · exact v_rt (hq _ _ (good "done" (by decide +kernel) (lit8 (by decide +kernel)).th) (b7.more (by omega)))
      · exact v_rt (hq _ _ good2 (b7.more (by omega)))
  walk_at "w"
  refine v_ite (fun c2 => ?_) (fun c2 => ?_)
  · walk_at "w"
    exact v_rt (hq _ _ (wok_of (show (namD (.str nm) && namD (.str ot)) = true by rw [zn.2, zo.2]; rfl) (Ths.cons (lit8 (z := Str.ofString "missed") (by decide +kernel)).th (ths2 tn tot)).more (by simp) rfl) (b6.more (by omega)))
  walk_at "w"
  refine v_ite (fun c3 => ?_) (fun c3 => ?_)
  · walk_at "w"
    refine ⟨rfl, take_d b6 (by omega) (by decide) (by decide) fun u L7 u0 u1 b7 => ?_⟩
    walk_at "w"
    refine v_ixZ (zs := BLS) rfl u0 u1 fun z hz => ?_
    walk_at "w"
    have hb : (["unheard", "noted", "broke", "woke"] : List Str).any (fun y => isS y (.str z)) = true := List.any_eq_true.mpr ⟨z, hz, decide_eq_true rfl⟩
    exact v_rt (hq _ _ (wok_of (show (namD (.str nm) && (["unheard", "noted", "broke", "woke"] : List Str).any (fun y => isS y (.str z))) = true by rw [zn.2, hb]; rfl) (Ths.cons (lit8 (z := Str.ofString "bell") (by decide +kernel)).th (ths2 tn (bls_ok z hz).th)).more (by simp) rfl) (b7.more (by omega)))
  walk_at "w"
  refine v_ite (fun c4 => ?_) (fun c4 => ?_)
  · walk_at "w"
    refine ⟨rfl, p, _, zs, rfl, .self b6.bag, by omega, hn, fun ts1 L7 h7 g7 n7 b7 => ?_⟩
    walk_at "w"
    refine ⟨rfl, p, _, zs, rfl, .self b7.bag, by omega, hn, fun ts2 L8 h8 g8 n8 b8 => ?_⟩
    walk_at "w"
    exact v_rt (hq _ _ (wok_of (show (toldD (.tup ts1) && linksD (.tup ts2)) = true by rw [g7, g8]; rfl) (Ths.cons (lit8 (z := Str.ofString "plug") (by decide +kernel)).th (Ths.cons h7.tup (Ths.one h8.tup))).more (by simp) (by show (true && (noKs ts1 && (noKs ts2 && true))) = true; rw [n7, n8]; rfl)) (((b6.trans b7).trans b8).more (by omega)))
  walk_at "w"
  refine ⟨rfl, take_d b6 (by omega) (by decide) (by decide) fun u L7 u0 u1 b7 => ?_⟩
  refine v_ixZ (zs := STT1 ++ STT2) (by rw [List.map_append]; rfl) u0 (by show u < (17 : Nat); omega) fun z hz => ?_
  walk_at "w"
  exact v_rt (hq _ _ (wok_of (stt_w hz zn.2) (ths2 (stt_ok z hz).th tn).more (by simp) rfl) (b7.more (by omega)))
end K16
set_option Elab.async false
set_option linter.all false
set_option maxRecDepth 100000
set_option maxHeartbeats 2000000
namespace K16
open PySem PySem.Spec PyProof.Rows L2 Dz Ed


def wlen (a : D) : Nat := if isS "begin" a = true then 2 else if isS "end" a = true then 3 else if isS "missed" a = true then 2 else if isS "bell" a = true then 2 else if isS "plug" a = true then 2 else 1
theorem w_len {a : D} {r : List D} (h : wordsD a r = true) : r.length = wlen a := by
  unfold wordsD at h
  unfold wlen
  by_cases h1 : isS "begin" a = true
  · rw [if_pos h1] at h ⊢
    split at h
    · rfl
    · cases h
  rw [if_neg h1] at h ⊢
  by_cases h2 : isS "end" a = true
  · rw [if_pos h2] at h ⊢
    split at h
    · rfl
    · cases h
  rw [if_neg h2] at h ⊢
  by_cases h3 : isS "missed" a = true
  · rw [if_pos h3] at h ⊢
    split at h
    · rfl
    · cases h
  rw [if_neg h3] at h ⊢
  by_cases h4 : isS "bell" a = true
  · rw [if_pos h4] at h ⊢
    split at h
    · rfl
    · cases h
  rw [if_neg h4] at h ⊢
  by_cases h5 : isS "plug" a = true
  · rw [if_pos h5] at h ⊢
    split at h
    · rfl
    · cases h
  rw [if_neg h5] at h ⊢
  split at h
  · rfl
  · cases h
theorem w_ext {t : D} {ts : List D} (h : Wok ts) (x : D) : rwD t (.tup (ts ++ [x])) = false := by
  obtain ⟨a, b, r, rfl, hw⟩ := h.sh
  show (atlD t 0 && wordsD a (b :: (r ++ [x]))) = false
  have : wordsD a (b :: (r ++ [x])) = false := by
    cases e : wordsD a (b :: (r ++ [x])) with
    | false => rfl
    | true =>
      have h1 := w_len e
      have h2 := w_len hw
      rw [List.length_cons, List.length_append] at h1
      rw [List.length_cons] at h2
      simp at h1
      omega
  rw [this, Bool.and_false]
/-- a row that is kept -/
structure Row (d : D) : Prop where
  ex : ∃ (t : Int) (ws : List D), d = .tup (.int t :: ws) ∧ 0 ≤ t ∧ t ≤ 50000 ∧ Wok ws
theorem Row.t {d : D} (h : Row d) : RowT d := by
  obtain ⟨t, ws, e, _⟩ := h.ex
  exact ⟨t, ws, e⟩
theorem Row.th {d : D} (h : Row d) : Th d 4000 3 := by
  obtain ⟨t, ws, rfl, h0, h1, w⟩ := h.ex
  exact ((Ths.cons (.small (i := t)) w.th).tup).more (by omega) (by omega)
theorem Row.nk {d : D} (h : Row d) : noK d = true := by
  obtain ⟨t, ws, rfl, h0, h1, w⟩ := h.ex
  show (true && noKs ws) = true
  rw [w.nk]; rfl
structure Rows (rows : List D) : Prop where
  all : ∀ d ∈ rows, Row d
  ln : rows.length ≤ 400
theorem Rows.ths {rows : List D} (h : Rows rows) : Ths rows (4002 * 400) 3 := by
  have := Ths.all fun d hd => (h.all d hd).th
  exact this.more (Nat.mul_le_mul_left _ h.ln) (by omega)
theorem Rows.nk {rows : List D} (h : Rows rows) : noKs rows = true := Ed.noKs_all fun d hd => (h.all d hd).nk
/-- what comes of a refused one -/
def Exp (rows : List D) (t w : D) (tag : Str) (v : D) : Prop := (atlD t 0 = false ∧ tag = "number" ∧ v = t) ∨ (atlD t 0 = true ∧ rwD t w = false ∧ tag = "log" ∧ v = w) ∨ ∃ i j : Int, t = .int i ∧ 0 ≤ i ∧ rwD t w = true ∧ lastT rows = some j ∧ i < j ∧ tag = "number" ∧ v = t
theorem exp_no {rows : List D} {t w v : D} {tag : Str} (h : Exp rows t w tag v) {i : Int} (e : t = .int i) (h0 : 0 ≤ i) (hr : rwD t w = true) (hj : ∀ j, lastT rows = some j → j ≤ i) : False := by
  rcases h with ⟨h, _⟩ | ⟨_, h, _⟩ | ⟨i', j, e', _, _, h1, h2, _⟩
  · rw [e] at h
    have : decide ((0 : Int) ≤ i) = false := h
    rw [decide_eq_true h0] at this; cases this
  · rw [h] at hr; cases hr
  · rw [e] at e'
    cases e'
    have := hj j h1
    omega

def sp__law_told (A : Ad) : DSp := fun ds L q _ => ∃ x r t w rows, ds = [.ref x, t, w] ∧ LogAt A L x r rows ∧ (∀ d ∈ rows, RowT d) ∧ rows.length ≤ 900 ∧ El L t ∧ El L w ∧ (∀ ws, w = .tup ws → ws.length ≤ 20) ∧ (∀ tag v, Exp rows t w tag v → q (.lst [.str tag, v]) L) ∧ (∀ (i : Int) ws, t = .int i → w = .tup ws → 0 ≤ i → rwD t w = true → (∀ j, lastT rows = some j → j ≤ i) → q (.lst [.str "told", .non]) (updL L r (.lst (rows ++ [.tup (.int i :: ws)]))))
def sp__law_last (A : Ad) : DSp := fun ds L q _ => ∃ x r rows n s, ds = [.ref x, n] ∧ LogAt A L x r rows ∧ kindD L n = some s ∧ whlD n 1 1000 = false ∧ q (.lst [.str "number", n]) L
def b__law_told (A : Ad) : DTS :=
  (dSeq (dSet 3 (dC .non))
    (dSeq (dTryT (mt A)
    (dSet 3 (dLst (dCons (dC (.str "told")) (dCons (dMth A.C_Log "add" (sp_Log_add A) 3 [] (dVar 0) (dCons (dVar 1) (dCons (dVar 2) dNil))) dNil)))) [some (.one ⟨A.C_NoNumber, some 4, fun a dd C => (dSet 3 (dLst (dCons (dC (.str "number")) (dCons (dXfC a dd C A.C_NoNumber "found" (dVar 4)) dNil))))⟩), some (.one ⟨A.C_NoLog, some 4, fun a dd C => (dSet 3 (dLst (dCons (dC (.str "log")) (dCons (dXfC a dd C A.C_NoLog "found" (dVar 4)) dNil))))⟩), none])
    (dRet (dVar 3))))
def b__law_last (A : Ad) : DTS :=
  (dSeq (dSet 2 (dC .non))
    (dSeq (dTryT (mt A)
    (dSet 2 (dMth A.C_Log "last" (sp_Log_last A) 2 [] (dVar 0) (dCons (dVar 1) dNil))) [some (.one ⟨A.C_NoNumber, some 3, fun a dd C => (dSet 2 (dLst (dCons (dC (.str "number")) (dCons (dXfC a dd C A.C_NoNumber "found" (dVar 3)) dNil))))⟩), none])
    (dRet (dVar 2))))
theorem rd__law_told (A : Ad) : Keeps ["_law_log", "_law_turn", "_law_words_here", "_law_found", "e"] (b__law_told A) 3 (sp__law_told A) := by
  rintro ds L q e hl ⟨x, r, t, w', rows, rfl, hlog, hrt, hl', et, ew, hws, q1, q2⟩
  unfold bodyD b__law_told
  walk_at "w"
  refine ⟨_, vIns_of hlog.1, rfl, ?_⟩
  walk_at "w"
  refine ⟨rfl, x, r, t, w', rows, rfl, hlog, hrt, hl', et, ew, hws, fun h => ?_, fun h1 h2 => ?_, fun i j e1 h1 h2 h3 => ?_, fun i ws e1 e2 h1 h2 h3 => ?_⟩
  · refine cls_yes (by simp [mt]) fun a dd => ?_
    walk_at "w"
    refine ⟨_, rfl, _, _, rfl, rfl, rfl, ?_⟩
    walk_at "w"
    show dRet (dVar 3) (fun C gs _ L' => e C gs L') (dEnd q) _ _
    walk_at "w"
    exact v_rt (q1 _ _ (.inl ⟨h, rfl, rfl⟩))
  · refine cls_no (by simp [mt]) (cls_yes (by simp [mt]) fun a dd => ?_)
    walk_at "w"
    refine ⟨_, rfl, _, _, rfl, rfl, rfl, ?_⟩
    walk_at "w"
    show dRet (dVar 3) (fun C gs _ L' => e C gs L') (dEnd q) _ _
    walk_at "w"
    exact v_rt (q1 _ _ (.inr (.inl ⟨h1, h2, rfl, rfl⟩)))
  · refine cls_yes (by simp [mt]) fun a dd => ?_
    walk_at "w"
    refine ⟨_, rfl, _, _, rfl, rfl, rfl, ?_⟩
    walk_at "w"
    show dRet (dVar 3) (fun C gs _ L' => e C gs L') (dEnd q) _ _
    walk_at "w"
    by_cases h0 : 0 ≤ i
    · exact v_rt (q1 _ _ (.inr (.inr ⟨i, j, e1, h0, h1, h2, h3, rfl, rfl⟩)))
    · refine v_rt (q1 _ _ (.inl ⟨?_, rfl, rfl⟩))
      rw [e1]
      exact decide_eq_false h0
  · walk_at "w"
    exact v_rt (q2 i ws e1 e2 h1 h2 h3)
theorem rd__law_last (A : Ad) : Keeps ["_law_log", "_law_wide", "_law_found", "e"] (b__law_last A) 2 (sp__law_last A) := by
  rintro ds L q e hl ⟨x, r, rows, n, s, rfl, hlog, hk, hw, hq⟩
  unfold bodyD b__law_last
  walk_at "w"
  refine ⟨_, vIns_of hlog.1, rfl, ?_⟩
  walk_at "w"
  refine ⟨rfl, x, r, rows, n, s, rfl, hlog, hk, fun k e h1 h2 => ?_, fun _ => ?_⟩
  · have : (decide (1 ≤ k) && decide (k ≤ 1000)) = false := by rw [e] at hw; exact hw
    rw [decide_eq_true h1, decide_eq_true h2] at this; cases this
  · refine cls_yes (by simp [mt]) fun a dd => ?_
    walk_at "w"
    refine ⟨_, rfl, _, _, rfl, rfl, rfl, ?_⟩
    walk_at "w"
    show dRet (dVar 2) (fun C gs _ L' => e C gs L') (dEnd q) _ _
    walk_at "w"
    exact v_rt hq
end K16
set_option Elab.async false
set_option linter.all false
set_option maxRecDepth 100000
set_option maxHeartbeats 2000000
namespace K16
open PySem PySem.Spec PyProof.Rows L2 Dz Ed


/-- the cells that are known -/
def Kw (L : Lc) : Addr → Prop := fun b => ∃ c, L b = some c
/-- a thing that is handed in, its list may grow -/
def Ob (L0 L : Lc) (p : Addr) (j : Nat) (d : D) : Prop := (Th d 5000 6 ∧ isLst d = false) ∨ ∃ a xs, d = .ref a ∧ L a = some (.lst xs) ∧ L0 a = none ∧ a ≠ p ∧ xs.length ≤ 12 + j ∧ ∀ y ∈ xs, Th y 4000 4
theorem Ob.el {L0 L : Lc} {p : Addr} {j : Nat} {d : D} (h : Ob L0 L p j d) : El L d := by
  rcases h with h | ⟨a, xs, e, h, _⟩
  · exact .inl h.1.ok
  · exact .inr ⟨a, xs, e, h⟩
theorem Ob.show {L0 L : Lc} {p : Addr} {j : Nat} {d : D} (h : Ob L0 L p j d) (hj : j ≤ 24) : ∃ y, Rv L (Kw L) d y ∧ Th y 200000 10 := by
  rcases h with h | ⟨a, xs, rfl, h1, _, _, h3, h4⟩
  · exact ⟨d, rv_self _ _ _ h.1.ok, h.1.more⟩
  · have := (Ths.all h4).lst (k := 4)
    have t : Th (.lst xs) 200000 10 := this.more (Nat.le_trans (Nat.add_le_add_right (Nat.mul_le_mul_left _ (show xs.length ≤ 40 by omega)) _) (by decide)) (by omega)
    exact ⟨.lst xs, .ref ⟨_, h1⟩ h1 (rvL_self _ _ _ (okD_lst ▸ t.ok)), t⟩
theorem Ob.more {L0 L L' : Lc} {p : Addr} {j : Nat} {d : D} (h : Ob L0 L p j d) (e : ∀ a c, L a = some c → L' a = some c) : Ob L0 L' p (j + 1) d := by
  rcases h with h | ⟨a, xs, h0, h1, h2, h5, h3, h4⟩
  · exact .inl h
  · exact .inr ⟨a, xs, h0, e _ _ h1, h2, h5, by omega, h4⟩
theorem Ob.bag {L0 L L' : Lc} {p : Addr} {j : Nat} {d : D} (h : Ob L0 L p j d) (e : ∀ a c, a ≠ p → L a = some c → L' a = some c) : Ob L0 L' p (j + 1) d := by
  rcases h with h | ⟨a, xs, h0, h1, h2, h5, h3, h4⟩
  · exact .inl h
  · exact .inr ⟨a, xs, h0, e _ _ h5 h1, h2, h5, by omega, h4⟩
theorem more_th : Th (.str "more") 4000 4 := (Th.lit (n := 100) (by decide +kernel) (by decide +kernel)).more (by omega) (by omega)
theorem Ob.put {L0 L : Lc} {p b : Addr} {j : Nat} {d : D} {xs : List D} (h : Ob L0 L p j d) (e : L b = some (.lst xs)) : Ob L0 (updL L b (.lst (xs ++ [.str "more"]))) p (j + 1) d := by
  rcases h with h | ⟨a, ys, h0, h1, h2, h5, h3, h4⟩
  · exact .inl h
  · by_cases z : a = b
    · subst z
      rw [e] at h1
      cases h1
      refine .inr ⟨a, _, h0, updL_same, h2, h5, by rw [List.length_append]; simp; omega, fun y hy => ?_⟩
      rcases List.mem_append.mp hy with hy | hy
      · exact h4 y hy
      · rw [List.mem_singleton.mp hy]; exact more_th
    · exact .inr ⟨a, ys, h0, by rw [updL_ne z]; exact h1, h2, h5, by omega, h4⟩
/-- one of the things that are asked -/
def Ask (rows : List D) (tu st : D) (d : D) : Prop := ∃ (t w : D) (tag : Str) (v : D), d = .tup [t, w, .lst [.str tag, v]] ∧ As8 tag ∧ Exp rows t w tag v ∧ (t = tu ∨ ∃ i : Int, t = .int i ∧ i.natAbs ≤ 100000) ∧ (w = st ∨ ∃ ts, w = .tup ts ∧ Wok ts)
theorem LogAt.more {A : Ad} {L L' : Lc} {x r : Addr} {rows : List D} (h : LogAt A L x r rows) (e : ∀ a c, L a = some c → L' a = some c) : LogAt A L' x r rows := ⟨e _ _ h.1, e _ _ h.2⟩
theorem good_of {q : DQ} {w : EW} {ρ : Dv} {L : Lc} {s : Addr} {rows : List D} {a : DTE} (ha : ∀ k : D → Lc → Prop, k (.ref s) L → a w ρ L k) (hs : L s = some (.lst rows)) (hr : Rows rows) (h : ∀ g : Int, 0 ≤ g → g ≤ 50000 → (lastT rows = some g ∨ (rows = [] ∧ g = 0)) → q (.int g) L) :
    ∃ c, D.bl (!rows.isEmpty) = .bl c ∧ if c = true then dOp ixD (dOp ixD a (dUn negD (dC (.int 1)))) (dC (.int 0)) w ρ L q else dC (.int 0) w ρ L q := by
  refine ⟨_, rfl, ?_⟩
  by_cases hn : rows = []
  · subst hn
    refine v_itF rfl ?_
    exact h 0 (by decide) (by decide) (.inr ⟨rfl, rfl⟩)
  · refine v_itT (by cases rows <;> first | rfl | exact absurd rfl hn) ?_
    obtain ⟨t, ws, h1, h2, h3⟩ := last_at hn fun d hd => (hr.all d hd).t
    obtain ⟨t', ws', e, g0, g1, _⟩ := (hr.all _ h3).ex
    injection e with e
    injection e with e1 e2
    injection e1 with e1
    subst e1
    refine v_op (v_op (ha _ ?_))
    walk_at "w"
    refine v_ix (vs_ref hs) h1 ?_
    walk_at "w"
    exact h t g0 g1 (.inl h2)
theorem exp_uniq {rows : List D} {t w v v' : D} {tag tag' : Str} (h : Exp rows t w tag v) (h' : Exp rows t w tag' v') : tag' = tag ∧ v' = v := by
  have key : ∀ {i j : Int}, t = .int i → 0 ≤ i → rwD t w = true → lastT rows = some j → i < j → ∀ {tg u}, Exp rows t w tg u → tg = "number" ∧ u = t := by
    intro i j e h0 h1 h2 h3 tg u hx
    rcases hx with ⟨a, b, c⟩ | ⟨a, b, _⟩ | ⟨_, _, _, _, _, _, _, b, c⟩
    · exact ⟨b, c⟩
    · rw [b] at h1; cases h1
    · exact ⟨b, c⟩
  rcases h with ⟨a, rfl, rfl⟩ | ⟨a, b, rfl, rfl⟩ | ⟨i, j, e, h0, h1, h2, h3, rfl, rfl⟩
  · rcases h' with ⟨_, b', c'⟩ | ⟨a', _⟩ | ⟨i, j, e, h0, _⟩
    · exact ⟨b', c'⟩
    · rw [a] at a'; cases a'
    · rw [e] at a
      have : decide ((0 : Int) ≤ i) = false := a
      rw [decide_eq_true h0] at this; cases this
  · rcases h' with ⟨a', _⟩ | ⟨_, _, b', c'⟩ | ⟨i, j, e, h0, h1, _⟩
    · rw [a] at a'; cases a'
    · exact ⟨b', c'⟩
    · rw [b] at h1; cases h1
  · exact key e h0 h1 h2 h3 h'
theorem a_num : As8 "number" := as8_of (zs := ["number"]) (by decide +kernel) _ List.mem_cons_self
theorem a_log : As8 "log" := as8_of (zs := ["log"]) (by decide +kernel) _ List.mem_cons_self

def sp__law_refused (A : Ad) : DSp := fun ds L q _ => ∃ (p : Addr) (c : Nat) (x r s : Addr) (rows ts : List D), ds = [.ref p, .ref x, .ref s, .tup ts] ∧ Bag L L p c ∧ c ≤ 700000 ∧ LogAt A L x r rows ∧ L s = some (.lst rows) ∧ x ≠ p ∧ r ≠ p ∧ s ≠ p ∧ Rows rows ∧ Wok ts ∧ ∀ L', (∃ xb, L' p = some xb ∧ BagC ((c + 10 : Nat) : Int) xb) → (∀ a d, a ≠ p → L a = some d → L' a = some d) → q (.bl true) L'
def b__law_refused_c0 (A : Ad) : DTS :=
  (dFor (diSeq (dVar 7)) (dgTup 3 (dgCons (dgName 8) (dgCons (dgName 9) (dgCons (dgName 10) dgNil))))
    (dSeq (dSet 11 (dCall (sp__law_told A) 3 (dCons (dVar 1) (dCons (dVar 8) (dCons (dVar 9) dNil)))))
    (dSeq (dIfS (dtOr (dTest (dOp neD (dCB reprQD (dCons (dVar 11) dNil)) (dCB reprQD (dCons (dVar 10) dNil)))) (dTest (dOp neD (dMth A.C_Log "rows" (sp_Log_rows A) 1 [] (dVar 1) dNil) (dVar 2))))
    (dRet (dC (.bl false))) dNext)
    (dSeq (dIfS (dTest (dCB isiD (dCons (dOp ixD (dVar 10) (dC (.int 1))) (dCons (dC (.ty "list")) dNil))))
    (dDrop (dBML "list" appendD (dOp ixD (dVar 10) (dC (.int 1))) (dCons (dC (.str "more")) dNil))) dNext)
    (dIfS (dTest (dOp neD (dCB reprQD (dCons (dVar 11) dNil)) (dCB reprQD (dCons (dVar 10) dNil))))
    (dRet (dC (.bl false))) dNext)))))
def b__law_refused (A : Ad) : DTS :=
  (dSeq (dSet 4 (dOp ixD (dLst (dCons (dC .non) (dCons (dC (.bl true)) (dCons (dUn negD (dC (.int 1))) (dCons (dC (.str "0")) (dCons (dLstC (dCons (dC (.int 3)) dNil)) (dCons (dTup dNil) (dCons dDK dNil)))))))) (dCall (sp__law_take A) 2 (dCons (dVar 0) (dCons (dC (.int 7)) dNil)))))
    (dSeq (dSet 5 (dOp ixD (dLst (dCons (dC .non) (dCons (dCB listCD (dCons (dVar 3) dNil)) (dCons (dSl slD (dVar 3) dNoPart (dPart (dC (.int 1)))) (dCons (dOp addD (dVar 3) (dTup (dCons (dC (.str "wake")) dNil))) (dCons (dTup dNil) (dCons (dTup (dCons (dC (.str "wakes")) (dCons (dC (.str "a")) dNil))) (dCons (dC (.int 7)) (dCons dDK (dCons (dLstC (dCons (dVar 3) dNil)) dNil)))))))))) (dCall (sp__law_take A) 2 (dCons (dVar 0) (dCons (dC (.int 9)) dNil)))))
    (dSeq (dSet 6 (dIfE (dTest (dOp (emD true) (dVar 2) (dLst dNil))) (dOp ixD (dOp ixD (dVar 2) (dUn negD (dC (.int 1)))) (dC (.int 0))) (dC (.int 0))))
    (dSeq (dSet 7 (dLst (dCons (dTup (dCons (dVar 4) (dCons (dVar 3) (dCons (dLst (dCons (dC (.str "number")) (dCons (dVar 4) dNil))) dNil)))) (dCons (dTup (dCons (dVar 4) (dCons (dVar 5) (dCons (dLst (dCons (dC (.str "number")) (dCons (dVar 4) dNil))) dNil)))) (dCons (dTup (dCons (dVar 6) (dCons (dVar 5) (dCons (dLst (dCons (dC (.str "log")) (dCons (dVar 5) dNil))) dNil)))) dNil)))))
    (dSeq (dIfS (dTest (dOp gtD (dVar 6) (dC (.int 0))))
    (dSet 7 (dOp addD (dVar 7) (dLst (dCons (dTup (dCons (dOp subD (dVar 6) (dC (.int 1))) (dCons (dVar 3) (dCons (dLst (dCons (dC (.str "number")) (dCons (dOp subD (dVar 6) (dC (.int 1))) dNil))) dNil)))) (dCons (dTup (dCons (dOp subD (dVar 6) (dC (.int 1))) (dCons (dVar 5) (dCons (dLst (dCons (dC (.str "log")) (dCons (dVar 5) dNil))) dNil)))) dNil))))) dNext)
    (dSeq (b__law_refused_c0 A)
    (dRet (dC (.bl true)))))))))
theorem rd__law_refused (A : Ad) : Keeps ["_law_box_here", "_law_log", "_law_rows", "_law_words_here", "_law_turns", "_law_strange", "_law_good", "_law_asks", "_law_turn", "_law_some", "_law_due", "_law_found"] (b__law_refused A) 4 (sp__law_refused A) := by
  rintro ds L q e hl ⟨p, c, x, r, s, rows, ts, rfl, bg, hc, hlog, hs, nxp, nrp, nsp, hrows, wok, hq⟩
  unfold bodyD b__law_refused
  have hrt : ∀ d ∈ rows, RowT d := fun d hd => (hrows.all d hd).t
  have n9 : rows.length ≤ 400 := hrows.ln
  walk_at "w"
  refine fun a3 ha3 => ?_
  have na3 : a3 ≠ p := bg.ne_new ha3
  have b0 := bg.put (y := .lst [.int 3]) na3
  walk_at "w"
  refine ⟨rfl, take_d b0 (by omega) (by decide) (by decide) fun k L1 k0 k1 b1 => ?_⟩
  refine v_ixM rfl k0 k1 fun tu htu => ?_
  have tu0 : atlD tu 0 = false := by
    simp only [List.mem_cons, List.not_mem_nil, or_false] at htu
    rcases htu with rfl | rfl | rfl | rfl | rfl | rfl | rfl <;> first | rfl | decide
  have ob1 : Ob L L1 p 0 tu := by
    have h3 : L1 a3 = some (.lst [.int 3]) := b1.at_ (.inr na3) updL_same
    simp only [List.mem_cons, List.not_mem_nil, or_false] at htu
    rcases htu with rfl | rfl | rfl | rfl | rfl | rfl | rfl
    · exact .inl ⟨⟨by decide +kernel, by decide +kernel, by decide +kernel⟩, rfl⟩
    · exact .inl ⟨⟨by decide +kernel, by decide +kernel, by decide +kernel⟩, rfl⟩
    · exact .inl ⟨⟨by decide +kernel, by decide +kernel, by decide +kernel⟩, rfl⟩
    · exact .inl ⟨⟨by decide +kernel, by decide +kernel, by decide +kernel⟩, rfl⟩
    · refine .inr ⟨a3, _, rfl, h3, ha3, na3, by simp, fun y hy => ?_⟩
      rw [List.mem_singleton.mp hy]; exact ⟨by decide +kernel, by decide +kernel, by decide +kernel⟩
    · exact .inl ⟨⟨by decide +kernel, by decide +kernel, by decide +kernel⟩, rfl⟩
    · exact .inl ⟨⟨by decide +kernel, by decide +kernel, by decide +kernel⟩, rfl⟩
  clear htu
  have ext1 : ∀ a d, a ≠ p → L a = some d → L1 a = some d := fun a d n h => b1.at_ (.inr n) (by rw [updL_ne (fun e => by rw [e, ha3] at h; cases h)]; exact h)
  have bag1 := b1.bag
  clear b0 b1
  walk_at "w"
  refine ⟨_, ts, rfl, rfl, fun c1 hc1 => ?_⟩
  have bs1 : Bag L1 L1 p _ := .self bag1
  have nc1 : c1 ≠ p := bs1.ne_new hc1
  have b2 := bs1.put (y := .lst ts) nc1
  walk_at "w"
  refine v_slT ?_
  walk_at "w"
  have wln := wok.ln
  refine v_addT (sz_lt (by simp; omega)) ?_
  walk_at "w"
  refine fun c2 hc2 => ?_
  have nc2 : c2 ≠ p := b2.ne_new hc2
  have c21 : c1 ≠ c2 := fun e => by rw [← e, updL_same] at hc2; cases hc2
  have b3 := b2.put (y := .lst [.tup ts]) nc2
  walk_at "w"
  refine ⟨rfl, take_d b3 (by omega) (by decide) (by decide) fun m L2 m0 m1 b4 => ?_⟩
  have ext12 : ∀ a d, a ≠ p → L1 a = some d → L2 a = some d := fun a d n h1 => by
    have n1 : a ≠ c1 := fun e => by rw [e, hc1] at h1; cases h1
    have n2 : a ≠ c2 := fun e => by
      rw [e] at h1
      rw [updL_ne (fun e => c21 e.symm)] at hc2
      rw [hc2] at h1; cases h1
    exact b4.at_ (.inr n) (by rw [updL_ne n2, updL_ne n1]; exact h1)
  have ext2 : ∀ a d, a ≠ p → L a = some d → L2 a = some d := fun a d n h => ext12 a d n (ext1 a d n h)
  have z1 : L c1 = none := by
    cases h : L c1 with
    | none => rfl
    | some d => rw [ext1 _ _ nc1 h] at hc1; cases hc1
  have z2 : L c2 = none := by
    cases h : L c2 with
    | none => rfl
    | some d =>
      rw [updL_ne (fun e => c21 e.symm), ext1 _ _ nc2 h] at hc2; cases hc2
  have hl1 : L2 c1 = some (.lst ts) := b4.at_ (.inr nc1) (by rw [updL_ne c21]; exact updL_same)
  have hl2 : L2 c2 = some (.lst [.tup ts]) := b4.at_ (.inr nc2) updL_same
  have obt : Ob L L2 p 1 tu := ob1.bag ext12
  have bag2 := b4.bag
  clear ob1 b2 b3 b4 bs1 ext12 bag1 hc1 hc2
  have thts : Th (.tup ts) 3900 3 := wok.th.tup.more (by omega) (by omega)
  refine v_ixM rfl m0 m1 fun st hst => ?_
  have obs : Ob L L2 p 1 st ∧ ∀ t : D, rwD t st = false := by
    simp only [List.mem_cons, List.not_mem_nil, or_false] at hst
    rcases hst with rfl | rfl | rfl | rfl | rfl | rfl | rfl | rfl | rfl
    · exact ⟨.inl ⟨⟨by decide +kernel, by decide +kernel, by decide +kernel⟩, rfl⟩, fun t => rfl⟩
    · exact ⟨.inr ⟨c1, _, rfl, hl1, z1, nc1, by omega, fun y hy => (wok.th.mem hy).more (by omega) (by omega)⟩, fun t => rfl⟩
    · refine ⟨.inl ⟨(wok.th.cut).tup.more (by omega) (by omega), rfl⟩, fun t => ?_⟩
      obtain ⟨a, b, r, rfl, _⟩ := wok.sh
      rw [cutD_take (by decide) (by simp; omega)]; rfl
    · refine ⟨.inl ⟨((wok.th.app (Ths.one (Th.lit (x := "wake") (n := 100) (by decide +kernel) (by decide +kernel)))).tup).more (by omega) (by omega), rfl⟩, fun t => w_ext wok _⟩
    · exact ⟨.inl ⟨⟨by decide +kernel, by decide +kernel, by decide +kernel⟩, rfl⟩, fun t => rfl⟩
    · refine ⟨.inl ⟨⟨by decide +kernel, by decide +kernel, by decide +kernel⟩, rfl⟩, fun t => ?_⟩
      show (atlD t 0 && wordsD (.str "wakes") [.str "a"]) = false
      rw [show wordsD (.str "wakes") [.str "a"] = false by decide +kernel, Bool.and_false]
    · exact ⟨.inl ⟨⟨by decide +kernel, by decide +kernel, by decide +kernel⟩, rfl⟩, fun t => rfl⟩
    · exact ⟨.inl ⟨⟨by decide +kernel, by decide +kernel, by decide +kernel⟩, rfl⟩, fun t => rfl⟩
    · refine ⟨.inr ⟨c2, _, rfl, hl2, z2, nc2, by simp, fun y hy => ?_⟩, fun t => rfl⟩
      rw [List.mem_singleton.mp hy]; exact thts.more (by omega) (by omega)
  have stl : ∀ us, st = .tup us → us.length ≤ 20 := by
    intro us e
    simp only [List.mem_cons, List.not_mem_nil, or_false] at hst
    rcases hst with rfl | rfl | rfl | rfl | rfl | rfl | rfl | rfl | rfl
    · cases e
    · cases e
    · cases e
      have := (cut_sub (ds := ts) (lo := none) (hi := some 1)).length_le
      omega
    · cases e
      rw [List.length_append]
      simp
      omega
    · cases e; simp
    · cases e; simp
    · cases e
    · cases e
    · cases e
  obtain ⟨obs, st0⟩ := obs
  clear hst hl1 hl2
  have hs2 : L2 s = some (.lst rows) := ext2 _ _ nsp hs
  walk_at "w"
  refine v_emN (.inl ⟨vl_ref hs2, rfl⟩) ?_
  refine good_of (fun k h => ?_) hs2 hrows fun g g0 g1 hg => ?_
  · walk_at "w"
    exact h
  have aga : ∀ d ∈ ([.tup [tu, .tup ts, .lst [.str "number", tu]], .tup [tu, st, .lst [.str "number", tu]], .tup [.int g, st, .lst [.str "log", st]]] : List D), Ask rows tu st d := by
    intro d hd
    simp only [List.mem_cons, List.not_mem_nil, or_false] at hd
    rcases hd with rfl | rfl | rfl
    · exact ⟨_, _, _, _, rfl, a_num, .inl ⟨tu0, rfl, rfl⟩, .inl rfl, .inr ⟨ts, rfl, wok⟩⟩
    · exact ⟨_, _, _, _, rfl, a_num, .inl ⟨tu0, rfl, rfl⟩, .inl rfl, .inl rfl⟩
    · exact ⟨_, _, _, _, rfl, a_log, .inr (.inl ⟨decide_eq_true g0, st0 _, rfl, rfl⟩), .inr ⟨g, rfl, by omega⟩, .inl rfl⟩
  have loop : ∀ (asks : List D), (∀ d ∈ asks, Ask rows tu st d) → asks.length ≤ 10 → ∀ (w : EW) (D0 : DEnds) (ρ : Dv), ρ = [some (.ref p), some (.ref x), some (.ref s), some (.tup ts), some tu, some st, some (.int g), some (.lst asks), none, none, none, none] →
      (∀ ρ' L', (∃ xb, L' p = some xb ∧ BagC ((c + 10 : Nat) : Int) xb) → (∀ a d, a ≠ p → L a = some d → L' a = some d) → D0.nx ρ' L') → b__law_refused_c0 A w D0 ρ L2 := by
    rintro asks hall hal w D0 ρ rfl hn
    unfold b__law_refused_c0
    walk_at "w"
    refine ⟨_, rfl, ?_⟩
    refine for_go (fun j ρ' L' => ∃ o8 o9 o10 o11, ρ' = [some (.ref p), some (.ref x), some (.ref s), some (.tup ts), some tu, some st, some (.int g), some (.lst asks), o8, o9, o10, o11] ∧ (∃ xb, L' p = some xb ∧ BagC ((c + 10 : Nat) : Int) xb) ∧ (∀ a d, a ≠ p → L a = some d → L' a = some d) ∧ Ob L L' p (1 + 2 * j) tu ∧ Ob L L' p (1 + 2 * j) st) ⟨_, _, _, _, rfl, ?_, ext2, obt, obs⟩ (fun i ρ L' h => by first | trivial | rfl) ?_ ?_
    · obtain ⟨xb, h1, h2⟩ := bag2
      exact ⟨xb, h1, h2.more (by omega)⟩
    · rintro j d ρ' L3 R hd ⟨o8, o9, o10, o11, rfl, bag3, ext3, ot, os⟩ hR
      have hj : j < 10 := Nat.lt_of_lt_of_le (List.getElem?_eq_some_iff.mp hd).1 hal
      obtain ⟨t, w', tag, v, rfl, htag, hexp, ht, hw⟩ := hall d (List.mem_of_getElem? hd)
      have hlog3 : LogAt A L3 x r rows := ⟨ext3 _ _ nxp hlog.1, ext3 _ _ nrp hlog.2⟩
      have hs3 : L3 s = some (.lst rows) := ext3 _ _ nsp hs
      have obT : Ob L L3 p (1 + 2 * j) t := by
        rcases ht with rfl | ⟨i, rfl, hi⟩
        · exact ot
        · exact .inl ⟨(Th.small (i := i)).more (by omega) (by omega), rfl⟩
      have obW : Ob L L3 p (1 + 2 * j) w' := by
        rcases hw with rfl | ⟨us, rfl, hu⟩
        · exact os
        · exact .inl ⟨hu.th.tup.more (by omega) (by omega), rfl⟩
      have obV : Ob L L3 p (1 + 2 * j) v := by
        rcases hexp with ⟨_, _, rfl⟩ | ⟨_, _, _, rfl⟩ | ⟨_, _, _, _, _, _, _, _, rfl⟩
        · exact obT
        · exact obW
        · exact obT
      obtain ⟨y, hy, hyt⟩ := obV.show (by omega)
      have hyt1 : Th (.lst [.str tag, y]) 300000 12 := (Ths.cons htag.th (Ths.cons hyt .nil)).lst.more (by omega) (by omega)
      have rv1 : ∀ {L4 : Lc} {u : D}, Rv L4 (Kw L4) v u → Rv L4 (Kw L4) (.lst [.str tag, v]) (.lst [.str tag, u]) := fun h => .lst (.cons (.str _) (.cons h .nil))
      walk_at "w"
      refine ⟨rfl, x, r, t, w', rows, rfl, hlog3, hrt, by omega, obT.el, obW.el, fun us e => ?_, fun tag' v' h => ?_, fun i us e1 e2 h1 h2 h3 => (exp_no hexp e1 h1 h2 h3).elim⟩
      · rcases hw with rfl | ⟨us', rfl, hu⟩
        · rcases os with ⟨h1, _⟩ | ⟨a, xs, e2, _⟩
          · exact stl us e
          · rw [e] at e2; cases e2
        · cases e
          have := hu.ln
          omega
      obtain ⟨e1, e2⟩ := exp_uniq hexp h
      have e1 := e1.symm
      have e2 := e2.symm
      subst e1
      subst e2
      walk_at "w"
      refine w_repr (rv1 hy) hyt1 ?_
      walk_at "w"
      refine w_repr (rv1 hy) hyt1 ?_
      have hk1 : ∀ {q : DQ}, q (.str (pyOf (.lst [.str tag, y])).shown) L3 → reprQD [.lst [.str tag, v]] L3 q := fun h => w_repr (rv1 hy) hyt1 h
      generalize (pyOf (.lst [.str tag, y])).shown = S1
      have hS1 : (!decide (S1 = S1)) = false := by simp
      walk_at "w"
      refine ⟨_, vIns_of hlog3.1, rfl, ?_⟩
      walk_at "w"
      refine ⟨rfl, x, r, rows, rfl, hlog3, fun a ha => ?_⟩
      have nap : a ≠ p := fun e => by
        obtain ⟨xb, h1, _⟩ := bag3
        rw [e, h1] at ha; cases ha
      have nas : s ≠ a := fun e => by rw [← e, hs3] at ha; cases ha
      have more4 : ∀ b c, L3 b = some c → updL L3 a (.lst rows) b = some c := fun b c h => by rw [updL_ne (fun e => by rw [e, ha] at h; cases h)]; exact h
      have hth := hrows.ths
      have hthl := hth.lst
      walk_at "w"
      refine .inr ⟨_, _, py_cell updL_same hth.ok hrows.nk, py_cell (more4 _ _ hs3) hth.ok hrows.nk, shaped_plain hthl (show noKs rows = true from hrows.nk), shaped_plain hthl (show noKs rows = true from hrows.nk), ?_⟩
      rw [eqv_plain _ hthl.ok (show noKs rows = true from hrows.nk)]
      have bag4 : ∃ xb, updL L3 a (.lst rows) p = some xb ∧ BagC ((c + 10 : Nat) : Int) xb := by
        obtain ⟨xb, h1, h2⟩ := bag3
        exact ⟨xb, more4 _ _ h1, h2⟩
      have ext4 : ∀ b d, b ≠ p → L b = some d → updL L3 a (.lst rows) b = some d := fun b d n h => more4 _ _ (ext3 b d n h)
      have obV4 := obV.more more4
      have ot4 := ot.more more4
      have os4 := os.more more4
      obtain ⟨y4, hy4, hyt4⟩ := obV4.show (by omega)
      generalize updL L3 a (.lst rows) = L4 at bag4 ext4 obV4 ot4 os4 hy4
      clear more4 hk1
      have hyt5 : Th (.lst [.str tag, y4]) 300000 12 := (Ths.cons htag.th (Ths.cons hyt4 .nil)).lst.more (by omega) (by omega)
      walk_at "w"
      rcases obV4 with ⟨h1, h2⟩ | ⟨b, xs, rfl, h1, h2, h3, h4, h5⟩
      · have hok := h1.ok
        refine v_isiL hok ?_
        rw [h2]
        walk_at "w"
        refine w_repr (rv1 hy4) hyt5 ?_
        walk_at "w"
        refine w_repr (rv1 hy4) hyt5 ?_
        generalize (pyOf (.lst [.str tag, y4])).shown = S2
        have hS2 : (!decide (S2 = S2)) = false := by simp
        walk_at "w"
        exact hR _ _ ⟨_, _, _, _, rfl, bag4, ext4, ot4.more fun _ _ h => h, os4.more fun _ _ h => h⟩
      · refine ⟨_, _, "list", true, rfl, by simp [kindD, h1], by decide +kernel, ?_⟩
        walk_at "w"
        refine ⟨⟨rfl, _, h1⟩, ?_⟩
        walk_at "w"
        refine v_app h1 (by omega) ?_
        have obV6 : Ob L (updL L4 b (.lst (xs ++ [.str "more"]))) p (1 + 2 * j + 1 + 1) (.ref b) := Ob.put (.inr ⟨b, xs, rfl, h1, h2, h3, h4, h5⟩) h1
        obtain ⟨y6, hy6, hyt6⟩ := obV6.show (by omega)
        have hyt7 : Th (.lst [.str tag, y6]) 300000 12 := (Ths.cons htag.th (Ths.cons hyt6 .nil)).lst.more (by omega) (by omega)
        walk_at "w"
        refine w_repr (rv1 hy6) hyt7 ?_
        walk_at "w"
        refine w_repr (rv1 hy6) hyt7 ?_
        generalize (pyOf (.lst [.str tag, y6])).shown = S2
        have hS2 : (!decide (S2 = S2)) = false := by simp
        walk_at "w"
        refine hR _ _ ⟨_, _, _, _, rfl, ?_, fun a d n h => ?_, ot4.put h1, os4.put h1⟩
        · obtain ⟨xb, g1, g2⟩ := bag4
          exact ⟨xb, by rw [updL_ne (fun e => h3 e.symm)]; exact g1, g2⟩
        · rw [updL_ne (fun e => by rw [e, h2] at h; cases h)]
          exact ext4 a d n h
    · rintro ρ' L3 ⟨o8, o9, o10, o11, rfl, bag3, ext3, _, _⟩
      exact hn _ _ bag3 ext3
  clear obt obs
  walk_at "w"
  refine v_ite (fun c3 => ?_) (fun c3 => ?_)
  · have c4 := of_decide_eq_true c3
    have hlast : lastT rows = some g := by
      rcases hg with h | ⟨_, h⟩
      · exact h
      · omega
    walk_at "w"
    refine v_addL rfl rfl (sz_lt (by simp)) ?_
    walk_at "w"
    refine loop _ (fun d hd => ?_) (by simp) _ _ _ rfl fun ρ' L' h1 h2 => ?_
    · rcases List.mem_append.mp hd with hd | hd
      · exact aga d hd
      · simp only [List.mem_cons, List.not_mem_nil, or_false] at hd
        rcases hd with rfl | rfl
        · exact ⟨_, _, _, _, rfl, a_num, .inr (.inr ⟨g - 1, g, rfl, by omega, wok.w _ (by omega), hlast, by omega, rfl, rfl⟩), .inr ⟨g - 1, rfl, by omega⟩, .inr ⟨ts, rfl, wok⟩⟩
        · exact ⟨_, _, _, _, rfl, a_log, .inr (.inl ⟨decide_eq_true (by omega), st0 _, rfl, rfl⟩), .inr ⟨g - 1, rfl, by omega⟩, .inl rfl⟩
    · walk_at "w"
      exact v_rt (hq L' h1 h2)
  · walk_at "w"
    refine loop _ aga (by simp) _ _ _ rfl fun ρ' L' h1 h2 => ?_
    walk_at "w"
    exact v_rt (hq L' h1 h2)
end K16
set_option Elab.async false
set_option linter.all false
set_option maxRecDepth 100000
set_option maxHeartbeats 2000000
namespace K16
open PySem PySem.Spec PyProof.Rows L2 Dz Ed


theorem cut_th {rows : List D} (h : Rows rows) {lo hi : Option Int} : Ths (Ed.cutD rows lo hi) (4002 * 400) 3 := h.ths.cut
theorem cut_rv {L : Lc} {P : Addr → Prop} {a : Addr} {ds : List D} (h : L a = some (.lst ds)) (p : P a) (ok : okDs ds = true) : Rv L P (.ref a) (.lst ds) := .ref p h (rvL_self _ _ _ ok)
theorem cut3c {a b c d e : D} : Ed.cutD [a, b, c, d, e] none (some 3) = [a, b, c] := by
  have := cutD_take (ds := [a, b, c, d, e]) (i := 3) (by decide) (by simp)
  rw [this]; rfl

def sp__law_stands (A : Ad) : DSp := fun ds L q _ => ∃ (p : Addr) (c : Nat) (x r s : Addr) (rows : List D), ds = [.ref p, .ref x, .ref s] ∧ Bag L L p c ∧ c ≤ 700000 ∧ LogAt A L x r rows ∧ L s = some (.lst rows) ∧ x ≠ p ∧ r ≠ p ∧ s ≠ p ∧ Rows rows ∧ ∀ L', (∃ xb, L' p = some xb ∧ BagC ((c + 10 : Nat) : Int) xb) → (∀ a d, a ≠ p → L a = some d → L' a = some d) → q (.bl true) L'
def b__law_stands (A : Ad) : DTS :=
  (dSeq (dSet 3 (dOp ixD (dLst (dCons (dC (.int 1)) (dCons (dC (.int 2)) (dCons (dC (.int 1000)) (dCons (dOp addD (dC (.int 1)) (dCall (sp__law_take A) 2 (dCons (dVar 0) (dCons (dC (.int 20)) dNil)))) dNil))))) (dCall (sp__law_take A) 2 (dCons (dVar 0) (dCons (dC (.int 4)) dNil)))))
    (dSeq (dSet 4 (dOp ixD (dLst (dCons (dC (.int 0)) (dCons (dC (.int 1001)) (dCons (dC .non) (dCons (dC (.bl true)) (dCons (dC (.str "1")) (dCons (dLst (dCons (dC (.int 1)) dNil)) (dCons (dUn negD (dC (.int 1))) (dCons (dOp powD (dC (.int 10)) (dC (.int 29))) dNil))))))))) (dCall (sp__law_take A) 2 (dCons (dVar 0) (dCons (dC (.int 8)) dNil)))))
    (dSeq (dSet 5 (dLst (dCons (dMth A.C_Log "rows" (sp_Log_rows A) 1 [] (dVar 1) dNil) (dCons (dMth A.C_Log "last" (sp_Log_last A) 2 [.int 1] (dVar 1) dNil) (dCons (dMth A.C_Log "last" (sp_Log_last A) 2 [] (dVar 1) (dCons (dVar 3) dNil)) (dCons (dCB (lenOD A.C_Log (sp_Log_len A)) (dCons (dVar 1) dNil)) (dCons (dMthK A.C_Log "last" (sp_Log_last A) 1 1 (gPerm [0, 2] [.int 1]) 2 (dVar 1) dNil (dCons (dVar 3) dNil)) dNil)))))))
    (dSeq (dIfS (dTest (dOp neD (dCB reprQD (dCons (dVar 5) dNil)) (dCB reprQD (dCons (dLst (dCons (dVar 2) (dCons (dSl slD (dVar 2) (dPart (dUn negD (dC (.int 1)))) dNoPart) (dCons (dSl slD (dVar 2) (dPart (dUn negD (dVar 3))) dNoPart) (dCons (dCB lenD (dCons (dVar 2) dNil)) (dCons (dSl slD (dVar 2) (dPart (dUn negD (dVar 3))) dNoPart) dNil)))))) dNil))))
    (dRet (dC (.bl false))) dNext)
    (dSeq (dFor (diSeq (dSl slD (dVar 5) dNoPart (dPart (dC (.int 3))))) (dgName 6)
    (dDrop (dBML "list" appendD (dVar 6) (dCons (dC .non) dNil))))
    (dRet (dOp eqD (dCB reprQD (dCons (dCall (sp__law_last A) 2 (dCons (dVar 1) (dCons (dVar 4) dNil))) dNil)) (dCB reprQD (dCons (dLst (dCons (dC (.str "number")) (dCons (dVar 4) dNil))) dNil)))))))))
theorem rd__law_stands (A : Ad) : Keeps ["_law_box_here", "_law_log", "_law_rows", "_law_wide", "_law_odd", "_law_found", "_law_told_here"] (b__law_stands A) 3 (sp__law_stands A) := by
  rintro ds L q e hl ⟨p, c, x, r, s, rows, rfl, bg, hc, hlog, hs, nxp, nrp, nsp, hrows, hq⟩
  unfold bodyD b__law_stands
  have n9 : rows.length ≤ 400 := hrows.ln
  walk_at "w"
  refine ⟨rfl, take_d bg (by omega) (by decide) (by decide) fun u L1 u0 u1 b1 => ?_⟩
  walk_at "w"
  refine ⟨rfl, take_d b1 (by omega) (by decide) (by decide) fun i L2 i0 i1 b2 => ?_⟩
  refine v_ixI (ns := [1, 2, 1000, 1 + u]) rfl i0 i1 fun wd hwd => ?_
  have wd9 : 1 ≤ wd ∧ wd ≤ 1000 := by
    simp only [List.mem_cons, List.not_mem_nil, or_false] at hwd
    omega
  walk_at "w"
  refine v_pow ⟨by decide, by decide, by decide⟩ ?_
  walk_at "w"
  refine ⟨rfl, take_d b2 (by omega) (by decide) (by decide) fun k L3 k0 k1 b3 => ?_⟩
  refine v_ixM rfl k0 k1 fun od hod => ?_
  have od9 : (∃ s, kindD L3 od = some s) ∧ whlD od 1 1000 = false ∧ Th od 500 2 := by
    simp only [List.mem_cons, List.not_mem_nil, or_false] at hod
    rcases hod with rfl | rfl | rfl | rfl | rfl | rfl | rfl | rfl <;> exact ⟨⟨_, rfl⟩, by decide +kernel, by decide +kernel, by decide +kernel, by decide +kernel⟩
  clear hod
  have ext3 : ∀ a d, a ≠ p → L a = some d → L3 a = some d := fun a d n h => b3.at_ (.inr n) h
  have bag3 : ∃ xb, L3 p = some xb ∧ BagC ((c + 10 : Nat) : Int) xb := by
    obtain ⟨xb, h1, h2⟩ := b3.bag
    exact ⟨xb, h1, h2.more (by omega)⟩
  have hlog3 : LogAt A L3 x r rows := ⟨ext3 _ _ nxp hlog.1, ext3 _ _ nrp hlog.2⟩
  have hs3 : L3 s = some (.lst rows) := ext3 _ _ nsp hs
  clear b1 b2 b3 bg
  walk_at "w"
  refine ⟨_, vIns_of hlog3.1, rfl, ?_⟩
  walk_at "w"
  refine ⟨rfl, x, r, rows, rfl, hlog3, fun a1 ha1 => ?_⟩
  have m1 : ∀ b c, L3 b = some c → updL L3 a1 (.lst rows) b = some c := fun b c h => by rw [updL_ne (fun e => by rw [e, ha1] at h; cases h)]; exact h
  have h1 : updL L3 a1 (.lst rows) a1 = some (.lst rows) := updL_same
  generalize updL L3 a1 (.lst rows) = L4 at m1 h1
  have hlog4 := hlog3.more m1
  walk_at "w"
  refine ⟨_, vIns_of hlog4.1, rfl, ?_⟩
  walk_at "w"
  refine ⟨rfl, x, r, rows, .int 1, "int", rfl, hlog4, rfl, fun k e _ _ a2 ha2 => ?_, fun h => by exact absurd h (by decide)⟩
  cases e
  have m2 : ∀ b c, L4 b = some c → updL L4 a2 (.lst (Ed.cutD rows (some (-1)) none)) b = some c := fun b c h => by rw [updL_ne (fun e => by rw [e, ha2] at h; cases h)]; exact h
  have h2 : updL L4 a2 (.lst (Ed.cutD rows (some (-1)) none)) a2 = some (.lst (Ed.cutD rows (some (-1)) none)) := updL_same
  have n12 : a1 ≠ a2 := fun e => by rw [← e, h1] at ha2; cases ha2
  generalize updL L4 a2 (.lst (Ed.cutD rows (some (-1)) none)) = L5 at m2 h2
  have hlog5 := hlog4.more m2
  walk_at "w"
  refine ⟨_, vIns_of hlog5.1, rfl, ?_⟩
  walk_at "w"
  refine ⟨rfl, x, r, rows, .int wd, "int", rfl, hlog5, rfl, fun k e _ _ a3 ha3 => ?_, fun h => by rw [whl_of wd9.1 wd9.2] at h; cases h⟩
  cases e
  have m3 : ∀ b c, L5 b = some c → updL L5 a3 (.lst (Ed.cutD rows (some (-wd)) none)) b = some c := fun b c h => by rw [updL_ne (fun e => by rw [e, ha3] at h; cases h)]; exact h
  have h3 : updL L5 a3 (.lst (Ed.cutD rows (some (-wd)) none)) a3 = some (.lst (Ed.cutD rows (some (-wd)) none)) := updL_same
  have n13 : a1 ≠ a3 := fun e => by rw [← e, m2 _ _ h1] at ha3; cases ha3
  have n23 : a2 ≠ a3 := fun e => by rw [← e, h2] at ha3; cases ha3
  generalize updL L5 a3 (.lst (Ed.cutD rows (some (-wd)) none)) = L6 at m3 h3
  have hlog6 := hlog5.more m3
  walk_at "w"
  refine ⟨_, _, rfl, vIns_of hlog6.1, x, r, rows, rfl, hlog6, ⟨_, rfl, by omega, by omega⟩, ?_⟩
  walk_at "w"
  refine ⟨_, vIns_of hlog6.1, rfl, ?_⟩
  walk_at "w"
  refine ⟨rfl, rfl, rfl, x, r, rows, .int wd, "int", rfl, hlog6, rfl, fun k e _ _ a4 ha4 => ?_, fun h => by rw [whl_of wd9.1 wd9.2] at h; cases h⟩
  cases e
  have m4 : ∀ b c, L6 b = some c → updL L6 a4 (.lst (Ed.cutD rows (some (-wd)) none)) b = some c := fun b c h => by rw [updL_ne (fun e => by rw [e, ha4] at h; cases h)]; exact h
  have h4 : updL L6 a4 (.lst (Ed.cutD rows (some (-wd)) none)) a4 = some (.lst (Ed.cutD rows (some (-wd)) none)) := updL_same
  generalize updL L6 a4 (.lst (Ed.cutD rows (some (-wd)) none)) = L7 at m4 h4
  have m7 : ∀ b c, L3 b = some c → L7 b = some c := fun b c h => m4 _ _ (m3 _ _ (m2 _ _ (m1 _ _ h)))
  replace h1 := m4 _ _ (m3 _ _ (m2 _ _ h1))
  replace h2 := m4 _ _ (m3 _ _ h2)
  replace h3 := m4 _ _ h3
  have hs7 := m7 _ _ hs3
  have hlog7 := hlog3.more m7
  have t0 := hrows.ths
  have t1 := cut_th hrows (lo := some (-1)) (hi := none)
  have t2 := cut_th hrows (lo := some (-wd)) (hi := none)
  have hy : Th (.lst [.lst rows, .lst (Ed.cutD rows (some (-1)) none), .lst (Ed.cutD rows (some (-wd)) none), .int ((rows.length : Nat) : Int), .lst (Ed.cutD rows (some (-wd)) none)]) 16000000 10 :=
    (Ths.cons t0.lst (Ths.cons t1.lst (Ths.cons t2.lst (Ths.cons (Th.small (i := ((rows.length : Nat) : Int)) (by omega)) (Ths.cons t2.lst .nil))))).lst.more (by decide) (by decide)
  walk_at "w"
  refine w_repr (P := Kw L7) (.lst (.cons (cut_rv h1 ⟨_, h1⟩ t0.ok) (.cons (cut_rv h2 ⟨_, h2⟩ t1.ok) (.cons (cut_rv h3 ⟨_, h3⟩ t2.ok) (.cons (.int _) (.cons (cut_rv h4 ⟨_, h4⟩ t2.ok) .nil)))))) hy ?_
  walk_at "w"
  refine v_slL (vr_ref hs7) ?_
  walk_at "w"
  refine v_slL (vr_ref hs7) ?_
  walk_at "w"
  refine v_slL (vr_ref hs7) ?_
  walk_at "w"
  refine w_repr (P := Kw L7) (.lst (.cons (cut_rv hs7 ⟨_, hs7⟩ t0.ok) (.cons (rv_self _ _ _ t1.lst.ok) (.cons (rv_self _ _ _ t2.lst.ok) (.cons (.int _) (.cons (rv_self _ _ _ t2.lst.ok) .nil)))))) hy ?_
  generalize (pyOf (.lst [.lst rows, .lst (Ed.cutD rows (some (-1)) none), .lst (Ed.cutD rows (some (-wd)) none), .int ((rows.length : Nat) : Int), .lst (Ed.cutD rows (some (-wd)) none)])).shown = S
  have hS : (!decide (S = S)) = false := by simp
  walk_at "w"
  refine v_slL rfl ?_
  rw [cut3c]
  walk_at "w"
  refine ⟨_, rfl, ?_⟩
  have bp : ∃ xb, L3 p = some xb := bag3.elim fun xb h => ⟨xb, h.1⟩
  have fr0 : ∀ b, L3 b = none → L b = none ∧ b ≠ p := fun b h => by
    obtain ⟨xb, hxb⟩ := bp
    have n : b ≠ p := fun e => by rw [e, hxb] at h; cases h
    refine ⟨?_, n⟩
    cases e : L b with
    | none => rfl
    | some d => rw [ext3 _ _ n e] at h; cases h
  have up : ∀ {M N : Lc} {b : Addr}, (∀ a c, M a = some c → N a = some c) → N b = none → M b = none := fun {M N b} hm hn => by
    cases e : M b with
    | none => rfl
    | some d => rw [hm _ _ e] at hn; cases hn
  have fr : ∀ b, b = a1 ∨ b = a2 ∨ b = a3 → L b = none ∧ b ≠ p := by
    rintro b (rfl | rfl | rfl)
    · exact fr0 _ ha1
    · exact fr0 _ (up m1 ha2)
    · exact fr0 _ (up m1 (up m2 ha3))
  have l1 : ∀ {lo hi : Option Int}, (Ed.cutD rows lo hi).length ≤ 400 := fun {lo hi} => Nat.le_trans (cut_sub (ds := rows) (lo := lo) (hi := hi)).length_le n9
  refine for_go (fun j ρ' L' => ∃ o6, ρ' = [some (.ref p), some (.ref x), some (.ref s), some (.int wd), some od, some (.lst [.ref a1, .ref a2, .ref a3, .int ((rows.length : Nat) : Int), .ref a4]), o6] ∧ (∀ b, b = a1 ∨ b = a2 ∨ b = a3 → ∃ xs, L' b = some (.lst xs) ∧ xs.length ≤ 400 + j) ∧ (∃ xb, L' p = some xb ∧ BagC ((c + 10 : Nat) : Int) xb) ∧ (∀ a d, a ≠ p → L a = some d → L' a = some d)) ⟨_, rfl, ?_, ?_, fun a d n h => m7 _ _ (ext3 a d n h)⟩ (fun i ρ L' h => by first | trivial | rfl) ?_ ?_
  · rintro b (rfl | rfl | rfl)
    · exact ⟨_, h1, n9⟩
    · exact ⟨_, h2, l1⟩
    · exact ⟨_, h3, l1⟩
  · obtain ⟨xb, g1, g2⟩ := bag3
    exact ⟨xb, m7 _ _ g1, g2⟩
  · rintro j d ρ' L8 R hd ⟨o6, rfl, hk, bag, ext⟩ hR
    have hj : j < 3 := (List.getElem?_eq_some_iff.mp hd).1
    obtain ⟨b, hb, rfl⟩ : ∃ b, (b = a1 ∨ b = a2 ∨ b = a3) ∧ d = .ref b := by
      have := List.mem_of_getElem? hd
      simp only [List.mem_cons, List.not_mem_nil, or_false] at this
      rcases this with rfl | rfl | rfl
      · exact ⟨_, .inl rfl, rfl⟩
      · exact ⟨_, .inr (.inl rfl), rfl⟩
      · exact ⟨_, .inr (.inr rfl), rfl⟩
    obtain ⟨xs, hxs, hxl⟩ := hk b hb
    obtain ⟨f1, f2⟩ := fr b hb
    walk_at "w"
    refine ⟨⟨rfl, _, hxs⟩, ?_⟩
    walk_at "w"
    refine v_app hxs (by omega) ?_
    refine hR _ _ ⟨_, rfl, fun b2 hb2 => ?_, ?_, fun a d n h => ?_⟩
    · by_cases e : b2 = b
      · subst e
        exact ⟨_, updL_same, by rw [List.length_append]; simp; omega⟩
      · obtain ⟨ys, g1, g2⟩ := hk b2 hb2
        exact ⟨ys, by rw [updL_ne e]; exact g1, by omega⟩
    · obtain ⟨xb, g1, g2⟩ := bag
      exact ⟨xb, by rw [updL_ne (fun e => f2 e.symm)]; exact g1, g2⟩
    · rw [updL_ne (fun e => by rw [e, f1] at h; cases h)]
      exact ext a d n h
  rintro ρ' L8 ⟨o6, rfl, hk, bag, ext⟩
  obtain ⟨sk, hsk⟩ := ok_kind (L := L8) od9.2.2.ok
  walk_at "w"
  refine ⟨rfl, x, r, rows, od, sk, rfl, ⟨ext _ _ nxp hlog.1, ext _ _ nrp hlog.2⟩, hsk, od9.2.1, ?_⟩
  have hthl : Th (.lst [.str "number", od]) 1000 4 := (Ths.cons a_num.th (Ths.cons od9.2.2 .nil)).lst.more (by omega) (by omega)
  walk_at "w"
  refine v_reprT hthl ?_
  walk_at "w"
  refine v_reprT hthl ?_
  generalize (pyOf (.lst [.str "number", od])).shown = S2
  have hS2 : decide (S2 = S2) = true := by simp
  walk_at "w"
  rw [hS2]
  exact v_rt (hq L8 bag ext)
end K16
set_option Elab.async false
set_option linter.all false
set_option maxRecDepth 100000
set_option maxHeartbeats 2000000
namespace K16
open PySem PySem.Spec PyProof.Rows L2 Dz Ed


def pairL (i : Int) (a b : D) : List D := if i = 0 then [a, b] else [b, a]
theorem pair_len {i : Int} {a b : D} : (pairL i a b).length = 2 := by unfold pairL; split <;> rfl
theorem pair_at {i : Int} (h0 : 0 ≤ i) (h1 : i < 2) {a b : D} : atI (pairL i a b) i = some a := by
  obtain rfl | rfl : i = 0 ∨ i = 1 := by omega
  · exact at0
  · exact at1
theorem pair_ix {i : Int} (h0 : 0 ≤ i) (h1 : i < 2) {a b : D} : ixN (pairL i a b).length (1 - i) = some (1 - i).toNat := by
  rw [pair_len]
  exact ixN_of (by omega) (by omega)
theorem pair_set {i : Int} (h0 : 0 ≤ i) (h1 : i < 2) {a b c : D} : (pairL i a b).set (1 - i).toNat c = pairL i a c := by
  obtain rfl | rfl : i = 0 ∨ i = 1 := by omega
  · rfl
  · rfl
/-- two logs and their rows, the i-th one first -/
structure LS (A : Ad) (L : Lc) (i : Int) (lg rw x r s y u v : Addr) (R S : List D) : Prop where
  hl : L lg = some (.lst (pairL i (.ref x) (.ref y)))
  hr : L rw = some (.lst (pairL i (.ref s) (.ref v)))
  l1 : LogAt A L x r R
  l2 : LogAt A L y u S
  s1 : L s = some (.lst R)
  s2 : L v = some (.lst S)
  d1 : lg ≠ rw ∧ lg ≠ r ∧ lg ≠ s ∧ lg ≠ u ∧ lg ≠ v
  d2 : rw ≠ r ∧ rw ≠ s ∧ rw ≠ u ∧ rw ≠ v
  d3 : r ≠ s ∧ r ≠ u ∧ r ≠ v
  d4 : s ≠ u ∧ s ≠ v
  d5 : u ≠ v
theorem LS.swap {A : Ad} {L : Lc} {lg rw x r s y u v : Addr} {R S : List D} (h : LS A L 0 lg rw x r s y u v R S) : LS A L 1 lg rw y u v x r s S R :=
  ⟨h.hl, h.hr, h.l2, h.l1, h.s2, h.s1, ⟨h.d1.1, h.d1.2.2.2.1, h.d1.2.2.2.2, h.d1.2.1, h.d1.2.2.1⟩, ⟨h.d2.2.2.1, h.d2.2.2.2, h.d2.1, h.d2.2.1⟩, ⟨h.d5, h.d3.2.1.symm, h.d4.1.symm⟩, ⟨h.d3.2.2.symm, h.d4.2.symm⟩, h.d3.1⟩
theorem LS.back {A : Ad} {L : Lc} {lg rw x r s y u v : Addr} {R S : List D} (h : LS A L 1 lg rw x r s y u v R S) : LS A L 0 lg rw y u v x r s S R :=
  ⟨h.hl, h.hr, h.l2, h.l1, h.s2, h.s1, ⟨h.d1.1, h.d1.2.2.2.1, h.d1.2.2.2.2, h.d1.2.1, h.d1.2.2.1⟩, ⟨h.d2.2.2.1, h.d2.2.2.2, h.d2.1, h.d2.2.1⟩, ⟨h.d5, h.d3.2.1.symm, h.d4.1.symm⟩, ⟨h.d3.2.2.symm, h.d4.2.symm⟩, h.d3.1⟩
/-- none of them is the bag -/
structure NP (p lg rw x r s y u v : Addr) : Prop where
  n1 : lg ≠ p
  n2 : rw ≠ p
  n3 : x ≠ p
  n4 : r ≠ p
  n5 : s ≠ p
  n6 : y ≠ p
  n7 : u ≠ p
  n8 : v ≠ p
theorem LS.np {A : Ad} {L : Lc} {i : Int} {p lg rw x r s y u v : Addr} {R S : List D} (h : LS A L i lg rw x r s y u v R S) (hp : L p = none) : NP p lg rw x r s y u v := by
  have k : ∀ {a c}, L a = some c → a ≠ p := fun h e => by rw [e, hp] at h; cases h
  exact ⟨k h.hl, k h.hr, k h.l1.1, k h.l1.2, k h.s1, k h.l2.1, k h.l2.2, k h.s2⟩
theorem LS.ext {A : Ad} {L L' : Lc} {i : Int} {p lg rw x r s y u v : Addr} {R S : List D} (h : LS A L i lg rw x r s y u v R S) (n : NP p lg rw x r s y u v) (e : ∀ a d, a ≠ p → L a = some d → L' a = some d) : LS A L' i lg rw x r s y u v R S :=
  ⟨e _ _ n.n1 h.hl, e _ _ n.n2 h.hr, ⟨e _ _ n.n3 h.l1.1, e _ _ n.n4 h.l1.2⟩, ⟨e _ _ n.n6 h.l2.1, e _ _ n.n7 h.l2.2⟩, e _ _ n.n5 h.s1, e _ _ n.n8 h.s2, h.d1, h.d2, h.d3, h.d4, h.d5⟩
/-- the rows, and when the last one was -/
structure RR (R : List D) (n : Nat) : Prop where
  rs : Rows R
  ln : R.length ≤ n
  lt : ∀ g, lastT R = some g → g ≤ 90 * (R.length : Int)
theorem RR.nil {n : Nat} : RR [] n := ⟨⟨fun _ h => (nomatch h), Nat.zero_le _⟩, Nat.zero_le _, fun g h => by cases h⟩
theorem RR.more {R : List D} {n m : Nat} (h : RR R n) (l : n ≤ m) : RR R m := ⟨h.rs, Nat.le_trans h.ln l, h.lt⟩
theorem RR.app {R : List D} {n : Nat} (h : RR R n) (hn : n < 300) {t : Int} {ws : List D} (h0 : 0 ≤ t) (h1 : t ≤ 90 * (R.length : Int) + 90) (w : Wok ws) : RR (R ++ [.tup (.int t :: ws)]) (n + 1) := by
  have hl := h.ln
  refine ⟨⟨fun d hd => ?_, by rw [List.length_append]; simp; omega⟩, by rw [List.length_append]; simp; omega, fun g hg => ?_⟩
  · rcases List.mem_append.mp hd with hd | hd
    · exact h.rs.all d hd
    · rw [List.mem_singleton.mp hd]
      exact ⟨t, ws, rfl, h0, by omega, w⟩
  · rw [last_app] at hg
    cases hg
    rw [List.length_append]
    simp
    omega
theorem ins_ne {L : Lc} {a b C : Addr} {fs : List (Str × D)} {ds : List D} (h : L a = some (.ins C fs)) (g : L b = some (.lst ds)) : a ≠ b := fun e => by rw [e, g] at h; cases h
theorem LS.app {A : Ad} {L : Lc} {i : Int} {lg rw x r s y u v : Addr} {R S Q : List D} (h : LS A L i lg rw x r s y u v R S) : LS A (updL (updL L r (.lst Q)) s (.lst Q)) i lg rw x r s y u v Q S := by
  obtain ⟨hl, hr, l1, l2, s1, s2, d1, d2, d3, d4, d5⟩ := h
  obtain ⟨a1, a2, a3, a4, a5⟩ := d1
  obtain ⟨b1, b2, b3, b4⟩ := d2
  obtain ⟨c1, c2, c3⟩ := d3
  obtain ⟨e1, e2⟩ := d4
  have xr : x ≠ r := ins_ne l1.1 l1.2
  have xs : x ≠ s := ins_ne l1.1 s1
  have yr : y ≠ r := ins_ne l2.1 l1.2
  have ys : y ≠ s := ins_ne l2.1 s1
  refine ⟨by rw [updL_ne a3, updL_ne a2]; exact hl, by rw [updL_ne b2, updL_ne b1]; exact hr, ⟨by rw [updL_ne xs, updL_ne xr]; exact l1.1, by rw [updL_ne c1]; exact updL_same⟩, ⟨by rw [updL_ne ys, updL_ne yr]; exact l2.1, by rw [updL_ne e1.symm, updL_ne c2.symm]; exact l2.2⟩, updL_same, by rw [updL_ne e2.symm, updL_ne c3.symm]; exact s2, ⟨a1, a2, a3, a4, a5⟩, ⟨b1, b2, b3, b4⟩, ⟨c1, c2, c3⟩, ⟨e1, e2⟩, d5⟩
theorem LS.copy {A : Ad} {L L1 : Lc} {i : Int} {lg rw x r s y u v y' u' v' : Addr} {R S : List D} (h : LS A L i lg rw x r s y u v R S) (hy : L y' = none) (hu : L u' = none) (nyu : y' ≠ u') (hl1 : LogAt A L1 y' u' R) (e : ∀ a d, L a = some d → L1 a = some d) (hv : L1 v' = none) :
    LS A (updL (updL (updL L1 v' (.lst R)) lg (.lst (pairL i (.ref x) (.ref y')))) rw (.lst (pairL i (.ref s) (.ref v')))) i lg rw x r s y' u' v' R R := by
  have k : ∀ {a c}, L a = some c → a ≠ u' := fun h e => by rw [e, hu] at h; cases h
  have ky : ∀ {a c}, L a = some c → a ≠ y' := fun h e => by rw [e, hy] at h; cases h
  have kv : ∀ {a c}, L a = some c → a ≠ v' := fun h e' => by rw [e', ] at h; rw [e _ _ h] at hv; cases hv
  have uv : u' ≠ v' := fun e' => by rw [← e', hl1.2] at hv; cases hv
  have yv : y' ≠ v' := fun e' => by rw [← e', hl1.1] at hv; cases hv
  obtain ⟨hl, hr, l1, l2, s1, s2, d1, d2, d3, d4, d5⟩ := h
  obtain ⟨a1, a2, a3, a4, a5⟩ := d1
  obtain ⟨b1, b2, b3, b4⟩ := d2
  obtain ⟨c1, c2, c3⟩ := d3
  have xlg : x ≠ lg := ins_ne l1.1 hl
  have xrw : x ≠ rw := ins_ne l1.1 hr
  have go : ∀ {a c}, L a = some c → a ≠ lg → a ≠ rw → updL (updL (updL L1 v' (.lst R)) lg (.lst (pairL i (.ref x) (.ref y')))) rw (.lst (pairL i (.ref s) (.ref v'))) a = some c := fun h n1 n2 => by
    rw [updL_ne n2, updL_ne n1, updL_ne (kv h)]; exact e _ _ h
  refine ⟨by rw [updL_ne a1]; exact updL_same, updL_same, ⟨go l1.1 xlg xrw, go l1.2 a2.symm b1.symm⟩, ⟨?_, ?_⟩, go s1 a3.symm b2.symm, ?_, ⟨a1, a2, a3, k hl, kv hl⟩, ⟨b1, b2, k hr, kv hr⟩, ⟨c1, k l1.2, kv l1.2⟩, ⟨k s1, kv s1⟩, uv⟩
  · rw [updL_ne (ky hr).symm, updL_ne (ky hl).symm, updL_ne yv]; exact hl1.1
  · rw [updL_ne (k hr).symm, updL_ne (k hl).symm, updL_ne uv]; exact hl1.2
  · rw [updL_ne (kv hr).symm, updL_ne (kv hl).symm]; exact updL_same
theorem v_izip {a : DTA} {w : EW} {ρ : Dv} {L : Lc} {k : List D → (Lc → Prop) → Lc → Prop} (h : a w ρ L fun xs L1 => ∃ x y ds es, xs = [x, y] ∧ vRd L1 x = some ds ∧ vRd L1 y = some es ∧ k (List.zipWith (fun d e => .tup [d, e]) ds es) (fun L' => vRd L' x = some ds ∧ vRd L' y = some es) L1) : diZip a w ρ L k := h
/-- a new log -/
theorem new_log {A : Ad} {L : Lc} {y : Addr} {q : DQ} {e : DE_} (hy : L y = none) (h : ∀ b L', L b = none → y ≠ b → LogAt A L' y b [] → (∀ a d, L a = some d → L' a = some d) → q (.ref y) L') :
    sp_Log_init A [.ref y] (updL L y (.ins A.C_Log [])) (fun d L3 => d = .non ∧ ∃ d' L4, Gh (.ref y) L3 d' L4 ∧ q d' L4) e := by
  refine ⟨y, rfl, updL_same, fun b hb => ?_⟩
  have nby : y ≠ b := fun e => by rw [← e, updL_same] at hb; cases hb
  have hb0 : L b = none := by rw [updL_ne (fun e => nby e.symm)] at hb; exact hb
  refine ⟨rfl, .ref y, _, .refl, h b _ hb0 nby ⟨updL_same, ?_⟩ fun a d ha => ?_⟩
  · rw [updL_ne (fun e => nby e.symm)]; exact updL_same
  · have n1 : a ≠ y := fun e => by rw [e, hy] at ha; cases ha
    have n2 : a ≠ b := fun e => by rw [e, hb0] at ha; cases ha
    rw [updL_ne n1, updL_ne n2, updL_ne n1]; exact ha

abbrev sp_law (A : Ad) : DSp := spLaw
def b_law_c0 (A : Ad) : DTS :=
  (dFor (diRng1 (dCons (dOp addD (dC (.int 1)) (dCall (sp__law_take A) 2 (dCons (dVar 4) (dCons (dC (.int 4)) dNil)))) dNil)) (dgName 8)
    (dSeq (dSet 9 (dCall (sp__law_words A) 2 (dCons (dVar 4) (dCons (dVar 7) dNil))))
    (dSeq (dSet 10 (dOp addD (dIfE (dTest (dOp (emD true) (dOp ixD (dVar 2) (dVar 6)) (dLst dNil))) (dOp ixD (dOp ixD (dOp ixD (dVar 2) (dVar 6)) (dUn negD (dC (.int 1)))) (dC (.int 0))) (dC (.int 0))) (dOp ixD (dLst (dCons (dC (.int 0)) (dCons (dC (.int 1)) (dCons (dCall (sp__law_take A) 2 (dCons (dVar 4) (dCons (dC (.int 90)) dNil))) dNil)))) (dCall (sp__law_take A) 2 (dCons (dVar 4) (dCons (dC (.int 3)) dNil))))))
    (dSeq (dIfS (dTest (dOp neD (dCB reprQD (dCons (dCall (sp__law_told A) 3 (dCons (dOp ixD (dVar 1) (dVar 6)) (dCons (dVar 10) (dCons (dVar 9) dNil)))) dNil)) (dCB reprQD (dCons (dLst (dCons (dC (.str "told")) (dCons (dC .non) dNil))) dNil))))
    (dRet (dC (.bl false))) dNext)
    (dDrop (dBML "list" appendD (dOp ixD (dVar 2) (dVar 6)) (dCons (dOp addD (dTup (dCons (dVar 10) dNil)) (dVar 9)) dNil)))))))
def b_law_c1 (A : Ad) : DTS :=
  (dIfS (dtNot (dTest (dCall (sp__law_refused A) 4 (dCons (dVar 4) (dCons (dOp ixD (dVar 1) (dVar 6)) (dCons (dOp ixD (dVar 2) (dVar 6)) (dCons (dCall (sp__law_words A) 2 (dCons (dVar 4) (dCons (dVar 7) dNil))) dNil)))))))
    (dRet (dC (.bl false))) dNext)
def b_law_c2 (A : Ad) : DTS :=
  (dIfS (dTest (dVar 5))
    (dAsg (dTup (dCons (dMth A.C_Log "copied" (sp_Log_copied A) 1 [] (dOp ixD (dVar 1) (dVar 6)) dNil) (dCons (dCB listCD (dCons (dOp ixD (dVar 2) (dVar 6)) dNil)) dNil))) (dgTup 2 (dgCons (dgSub setD (dVar 1) (dOp subD (dC (.int 1)) (dVar 6))) (dgCons (dgSub setD (dVar 2) (dOp subD (dC (.int 1)) (dVar 6))) dgNil)))) dNext)
def b_law_c3 (A : Ad) : DTS :=
  (dFor (diZip (dCons (dVar 1) (dCons (dVar 2) dNil))) (dgTup 2 (dgCons (dgName 11) (dgCons (dgName 12) dgNil)))
    (dIfS (dtNot (dTest (dCall (sp__law_stands A) 3 (dCons (dVar 4) (dCons (dVar 11) (dCons (dVar 12) dNil))))))
    (dRet (dC (.bl false))) dNext))
def b_law (A : Ad) : DTS :=
  (dSeq (dPar 1 2 (dCons (dLstC (dCons (dNew A.C_Log (sp_Log_init A) 0 0 (gPerm [0] []) 1 dNil dNil) (dCons (dNew A.C_Log (sp_Log_init A) 0 0 (gPerm [0] []) 1 dNil dNil) dNil))) (dCons (dLstC (dCons (dLstC dNil) (dCons (dLstC dNil) dNil))) dNil)))
    (dSeq (dFor (diRng1 (dCons (dCB max2D (dCons (dC (.int 12)) (dCons (dCB min2D (dCons (dC (.int 40)) (dCons (dCB lenD (dCons (dVar 0) dNil)) dNil))) dNil))) dNil)) (dgName 3)
    (dSeq (dSet 4 (dCall (sp__law_box A) 1 (dCons (dCall (sp__law_cell A) 2 (dCons (dVar 0) (dCons (dVar 3) dNil))) dNil)))
    (dSeq (dPar 5 6 (dCons (dOp eqD (dCall (sp__law_take A) 2 (dCons (dVar 4) (dCons (dC (.int 8)) dNil))) (dC (.int 0))) (dCons (dCall (sp__law_take A) 2 (dCons (dVar 4) (dCons (dC (.int 2)) dNil))) dNil)))
    (dSeq (dSet 7 (dCall (sp__law_names A) 2 (dCons (dVar 4) (dCons (dOp addD (dC (.int 2)) (dCall (sp__law_take A) 2 (dCons (dVar 4) (dCons (dC (.int 5)) dNil)))) dNil))))
    (dSeq (b_law_c0 A)
    (dSeq (b_law_c1 A)
    (dSeq (b_law_c2 A)
    (b_law_c3 A))))))))
    (dRet (dC (.bl true)))))
theorem rd_law (A : Ad) : Keeps ["_law_script", "_law_logs", "_law_rows", "_law_k", "_law_box_here", "_law_copies", "_law_at", "_law_names_here", "_law_turn", "_law_words_here", "_law_clock", "_law_log", "_law_some"] (b_law A) 1 (sp_law A) := by
  rintro ds L q e hl ⟨ns, rfl, hl', hq⟩
  unfold bodyD b_law
  walk_at "w"
  refine ⟨rfl, rfl, fun x0 hx0 => ⟨rfl, ?_⟩⟩
  refine new_log hx0 fun r0 L1 hr0 nx0 lg0 m0 => ?_
  walk_at "w"
  refine ⟨rfl, rfl, fun y0 hy0 => ⟨rfl, ?_⟩⟩
  refine new_log hy0 fun u0 L2 hu0 ny0 lg1 m1 => ?_
  walk_at "w"
  refine fun g0 hg0 => ?_
  have mg : ∀ a c, L2 a = some c → updL L2 g0 (.lst [.ref x0, .ref y0]) a = some c := fun a c h => by rw [updL_ne (fun e => by rw [e, hg0] at h; cases h)]; exact h
  have hg1 : updL L2 g0 (.lst [.ref x0, .ref y0]) g0 = some (.lst [.ref x0, .ref y0]) := updL_same
  generalize updL L2 g0 (.lst [.ref x0, .ref y0]) = L3 at mg hg1
  walk_at "w"
  refine fun s0 hs0 => ?_
  have ms : ∀ a c, L3 a = some c → updL L3 s0 (.lst []) a = some c := fun a c h => by rw [updL_ne (fun e => by rw [e, hs0] at h; cases h)]; exact h
  have hs1 : updL L3 s0 (.lst []) s0 = some (.lst []) := updL_same
  generalize updL L3 s0 (.lst []) = L4 at ms hs1
  walk_at "w"
  refine fun v0 hv0 => ?_
  have mv : ∀ a c, L4 a = some c → updL L4 v0 (.lst []) a = some c := fun a c h => by rw [updL_ne (fun e => by rw [e, hv0] at h; cases h)]; exact h
  have hv1 : updL L4 v0 (.lst []) v0 = some (.lst []) := updL_same
  generalize updL L4 v0 (.lst []) = L5 at mv hv1
  walk_at "w"
  refine fun w0 hw0 => ?_
  have mw : ∀ a c, L5 a = some c → updL L5 w0 (.lst [.ref s0, .ref v0]) a = some c := fun a c h => by rw [updL_ne (fun e => by rw [e, hw0] at h; cases h)]; exact h
  have hw1 : updL L5 w0 (.lst [.ref s0, .ref v0]) w0 = some (.lst [.ref s0, .ref v0]) := updL_same
  have st0 : LS A (updL L5 w0 (.lst [.ref s0, .ref v0])) 0 g0 w0 x0 r0 s0 y0 u0 v0 [] [] := by
    have ne : ∀ {M : Lc} {a b : Addr} {c : Cell}, M a = some c → M b = none → a ≠ b := fun h g e => by rw [e, g] at h; cases h
    have q1 : ∀ a c, L2 a = some c → L5 a = some c := fun a c h => mv _ _ (ms _ _ (mg _ _ h))
    have a1 := q1 _ _ (m1 _ _ lg0.1)
    have a2 := q1 _ _ (m1 _ _ lg0.2)
    have a3 := q1 _ _ lg1.1
    have a4 := q1 _ _ lg1.2
    have a5 := mv _ _ (ms _ _ hg1)
    have a6 := mv _ _ hs1
    exact ⟨mw _ _ a5, hw1, ⟨mw _ _ a1, mw _ _ a2⟩, ⟨mw _ _ a3, mw _ _ a4⟩, mw _ _ a6, mw _ _ hv1,
      ⟨ne a5 hw0, (ne (m1 _ _ lg0.2) hg0).symm, ne hg1 hs0, (ne lg1.2 hg0).symm, ne (ms _ _ hg1) hv0⟩,
      ⟨(ne a2 hw0).symm, (ne a6 hw0).symm, (ne a4 hw0).symm, (ne hv1 hw0).symm⟩,
      ⟨ne (mg _ _ (m1 _ _ lg0.2)) hs0, ne lg0.2 hu0, ne (ms _ _ (mg _ _ (m1 _ _ lg0.2))) hv0⟩,
      ⟨(ne (mg _ _ lg1.2) hs0).symm, ne hs1 hv0⟩, ne (ms _ _ (mg _ _ lg1.2)) hv0⟩
  generalize updL L5 w0 (.lst [.ref s0, .ref v0]) = L6 at st0
  clear mw hw1 mv hv1 ms hs1 mg hg1 hw0 hv0 hs0 hg0 lg0 lg1 m0 m1 hr0 hu0 nx0 ny0 hx0 hy0
  walk_at "w"
  refine ⟨40, _, rfl, ?_⟩
  walk_at "w"
  refine ⟨12, _, rfl, ?_⟩
  walk_at "w"
  refine ⟨_, rfl, by split <;> omega, by split <;> (try split) <;> omega, ?_⟩
  generalize hN : Int.toNat _ = N
  have hN40 : N ≤ 40 := by rw [← hN]; split <;> (try split) <;> omega
  refine for_go (fun i ρ' L' => ∃ o3 o4 o5 o6 o7 o8 o9 o10 o11 o12, ∃ x r s y u v R S, ρ' = [some (.scr ns), some (.ref g0), some (.ref w0), o3, o4, o5, o6, o7, o8, o9, o10, o11, o12] ∧ LS A L' 0 g0 w0 x r s y u v R S ∧ RR R (4 * i) ∧ RR S (4 * i)) ⟨none, none, none, none, none, none, none, none, none, none, _, _, _, _, _, _, _, _, rfl, st0, .nil, .nil⟩ (fun _ _ _ _ => trivial) ?_ ?_
  rotate_left
  · rintro ρ' L' ⟨o3, o4, o5, o6, o7, o8, o9, o10, o11, o12, x, r, s, y, u, v, R, S, rfl, _⟩
    walk_at "w"
    exact v_rt (hq L')
  rintro i d ρ' L0 R' hd ⟨o3, o4, o5, o6, o7, o8, o9, o10, o11, o12, x, r, s, y, u, v, R, S, rfl, st, rr, rs⟩ hR'
  obtain ⟨rfl, hi⟩ := rng_get hd
  walk_at "w"
  refine ⟨rfl, ns, (i : Nat), rfl, by omega, by omega, fun z => ?_⟩
  walk_at "w"
  refine ⟨rfl, z, rfl, fun p xb hpb hxb => ?_⟩
  have np := st.np hpb
  have b0 : Bag (updL L0 p xb) (updL L0 p xb) p ((0 : Nat) : Int) := .self ⟨xb, updL_same, hxb⟩
  have st1 := st.ext np (L' := updL L0 p xb) fun a d n h => by rw [updL_ne n]; exact h
  generalize updL L0 p xb = M at b0 st1
  clear st
  walk_at "w"
  refine ⟨rfl, take_d b0 (by omega) (by decide) (by decide) fun cp L1 cp0 cp1 b1 => ?_⟩
  walk_at "w"
  refine ⟨rfl, take_d b1 (by omega) (by decide) (by decide) fun at_ L2 at_0 at_1 b2 => ?_⟩
  walk_at "w"
  refine ⟨rfl, take_d b2 (by omega) (by decide) (by decide) fun nn L3 nn0 nn1 b3 => ?_⟩
  walk_at "w"
  refine ⟨rfl, p, _, _, rfl, .self b3.bag, by omega, by omega, by omega, fun zs L4 hzl hnm hnd b4 => ?_⟩
  have st2 := st1.ext np fun a d n h => (b3.trans b4).at_ (.inr n) h
  have bag4 := b4.bag
  have hn : Nms zs := ⟨by omega, by omega, hnm, hnd⟩
  clear st1 b0 b1 b2 b3 b4
  -- the at-th one first
  obtain ⟨x, r, s, y, u, v, R, S, st3, np, rr, rs, fin⟩ : ∃ x' r' s' y' u' v' R2 S2, LS A L4 at_ g0 w0 x' r' s' y' u' v' R2 S2 ∧ NP p g0 w0 x' r' s' y' u' v' ∧ RR R2 (4 * i) ∧ RR S2 (4 * i) ∧ ∀ {L' x r s y u v R S}, LS A L' at_ g0 w0 x r s y u v R S → RR R (4 * (i + 1)) → RR S (4 * (i + 1)) → ∀ o3 o4 o5 o6 o7 o8 o9 o10 o11 o12, R' [some (.scr ns), some (.ref g0), some (.ref w0), o3, o4, o5, o6, o7, o8, o9, o10, o11, o12] L' := by
    obtain rfl | rfl : at_ = 0 ∨ at_ = 1 := by omega
    · exact ⟨x, r, s, y, u, v, R, S, st2, np, rr, rs, fun h1 h2 h3 o3 o4 o5 o6 o7 o8 o9 o10 o11 o12 => hR' _ _ ⟨_, _, _, _, _, _, _, _, _, _, _, _, _, _, _, _, _, _, rfl, h1, h2, h3⟩⟩
    · exact ⟨y, u, v, x, r, s, S, R, st2.swap, ⟨np.n1, np.n2, np.n6, np.n7, np.n8, np.n3, np.n4, np.n5⟩, rs, rr, fun h1 h2 h3 o3 o4 o5 o6 o7 o8 o9 o10 o11 o12 => hR' _ _ ⟨_, _, _, _, _, _, _, _, _, _, _, _, _, _, _, _, _, _, rfl, h1.back, h3, h2⟩⟩
  clear st2 hR'
  walk_at "w"
  unfold b_law_c0
  walk_at "w"
  have bs4 : Bag L4 L4 p ((23 : Nat) : Int) := .self (bag4.elim fun xb h => ⟨xb, h.1, h.2.more (by omega)⟩)
  refine ⟨rfl, take_d bs4 (by omega) (by decide) (by decide) fun mt_ L5 mt_0 mt_1 b5 => ?_⟩
  have st4 := st3.ext np fun a d n h => b5.at_ (.inr n) h
  have bag5 := b5.bag
  clear bs4 b5 bag4 st3
  walk_at "w"
  refine ⟨1 + mt_, rfl, by omega, by omega, ?_⟩
  refine for_go (fun j ρ' L' => ∃ o8 o9 o10, ∃ R2, ρ' = [some (.scr ns), some (.ref g0), some (.ref w0), some (D.int (i : Nat)), some (.ref p), some (.bl (decide (cp = 0))), some (.int at_), some (.lst (zs.map .str)), o8, o9, o10, o11, o12] ∧ LS A L' at_ g0 w0 x r s y u v R2 S ∧ RR R2 (4 * i + j) ∧ ∃ xb, L' p = some xb ∧ BagC ((24 + 110 * j : Nat) : Int) xb) ⟨_, _, _, _, rfl, st4, rr, bag5⟩ (fun _ _ _ _ => trivial) ?_ ?_
  · rintro j d ρ' L6 R'' hd ⟨o8, o9, o10, R2, rfl, st, rr2, bag⟩ hR''
    obtain ⟨rfl, hj⟩ := rng_get (n := (1 + mt_).toNat) hd
    have hj4 : j < 4 := by omega
    walk_at "w"
    refine ⟨rfl, p, _, zs, rfl, .self bag, by omega, hn, fun ts L7 wok b6 => ?_⟩
    have st5 := st.ext np fun a d n h => b6.at_ (.inr n) h
    walk_at "w"
    refine v_ix (vs_ref st5.hr) (pair_at at_0 at_1) ?_
    walk_at "w"
    refine v_emN (.inl ⟨vl_ref st5.s1, rfl⟩) ?_
    refine good_of (fun k h => ?_) st5.s1 rr2.rs fun gd gd0 gd1 hgd => ?_
    · walk_at "w"
      exact v_ix (vs_ref st5.hr) (pair_at at_0 at_1) h
    have gl : gd ≤ 90 * (R2.length : Int) := by
      rcases hgd with h | ⟨_, h⟩
      · exact rr2.lt gd h
      · omega
    have bs6 : Bag L7 L7 p _ := .self b6.bag
    walk_at "w"
    refine ⟨rfl, take_d bs6 (by omega) (by decide) (by decide) fun e1 L8 e10 e11 b7 => ?_⟩
    walk_at "w"
    refine ⟨rfl, take_d b7 (by omega) (by decide) (by decide) fun e2 L9 e20 e21 b8 => ?_⟩
    refine v_ixI (ns := [0, 1, e1]) rfl e20 e21 fun add hadd => ?_
    have add9 : 0 ≤ add ∧ add ≤ 90 := by
      simp only [List.mem_cons, List.not_mem_nil, or_false] at hadd
      omega
    have st6 := st5.ext np fun a d n h => b8.at_ (.inr n) h
    have bag8 := b8.bag
    clear b6 bs6 b7 b8 st5 st bag
    walk_at "w"
    refine v_ix (vs_ref st6.hl) (pair_at at_0 at_1) ?_
    walk_at "w"
    have hclk : okD (.int (gd + add)) = true := (Th.small (i := gd + add) (by omega)).ok
    have rln := rr2.ln
    refine ⟨rfl, x, r, .int (gd + add), .tup ts, R2, rfl, st6.l1, fun d hd => (rr2.rs.all d hd).t, by omega, .inl hclk, .inl wok.th.tup.ok, (fun ws e => by cases e; have := wok.ln; omega), fun tag v' h => ?_, fun i' ws e1 e2 h1 h2 h3 => ?_⟩
    · refine (exp_no h rfl (by omega) (wok.w _ (by omega)) fun j' hj' => ?_).elim
      rcases hgd with h | ⟨h, _⟩
      · rw [h] at hj'; cases hj'; omega
      · rw [h] at hj'; cases hj'
    cases e1
    cases e2
    have tht : Th (.lst [.str "told", .non]) 300 3 := (Ths.cons (Th.lit (x := "told") (n := 100) (by decide +kernel) (by decide +kernel)) (Ths.cons Th.non .nil)).lst.more (by omega) (by omega)
    walk_at "w"
    refine v_reprT tht ?_
    walk_at "w"
    refine v_reprT tht ?_
    generalize (pyOf (.lst [.str "told", .non])).shown = S1
    have hS1 : (!decide (S1 = S1)) = false := by simp
    obtain ⟨rg, rs', ru, rv⟩ : g0 ≠ r ∧ w0 ≠ r ∧ s ≠ r ∧ True := ⟨st6.d1.2.1, st6.d2.1, st6.d3.1.symm, trivial⟩
    have hw7 : updL L9 r (.lst (R2 ++ [.tup (.int (gd + add) :: ts)])) w0 = some (.lst (pairL at_ (.ref s) (.ref v))) := by rw [updL_ne rs']; exact st6.hr
    have hs7 : updL L9 r (.lst (R2 ++ [.tup (.int (gd + add) :: ts)])) s = some (.lst R2) := by rw [updL_ne ru]; exact st6.s1
    walk_at "w"
    refine v_ix (vs_ref hw7) (pair_at at_0 at_1) ?_
    refine ⟨⟨rfl, _, hs7⟩, ?_⟩
    walk_at "w"
    have wl := wok.ln
    refine v_addT (sz_lt (by simp; omega)) ?_
    walk_at "w"
    refine v_app hs7 (by omega) ?_
    refine hR'' _ _ ⟨_, _, _, _, rfl, st6.app, (rr2.app (by omega) (by omega) (by omega) wok).more (by omega), ?_⟩
    obtain ⟨xb, g1, g2⟩ := bag8
    exact ⟨xb, by rw [updL_ne np.n5.symm, updL_ne np.n4.symm]; exact g1, g2.more (by omega)⟩
  rintro ρ' L6 ⟨o8, o9, o10, R2, rfl, st, rr2, bag⟩
  rw [List.length_map, List.length_range] at rr2 bag
  have rr3 : RR R2 (4 * i + 4) := rr2.more (by omega)
  have bag6 : ∃ xb, L6 p = some xb ∧ BagC ((500 : Nat) : Int) xb := bag.elim fun xb h => ⟨xb, h.1, h.2.more (by omega)⟩
  clear bag rr2 st4 bag5
  walk_at "w"
  unfold b_law_c1
  walk_at "w"
  refine v_ix (vs_ref st.hl) (pair_at at_0 at_1) ?_
  walk_at "w"
  refine v_ix (vs_ref st.hr) (pair_at at_0 at_1) ?_
  walk_at "w"
  refine ⟨rfl, p, _, zs, rfl, .self bag6, by omega, hn, fun ts L7 wok b6 => ?_⟩
  have st5 := st.ext np fun a d n h => b6.at_ (.inr n) h
  walk_at "w"
  refine ⟨rfl, p, _, x, r, s, R2, ts, rfl, .self b6.bag, by omega, st5.l1, st5.s1, np.n3, np.n4, np.n5, rr3.rs, wok, fun L8 bag8 ext8 => ?_⟩
  have st6 := st5.ext np ext8
  clear b6 st5 st bag6
  have tail : ∀ {L9 : Lc} {y u v : Addr} {S : List D}, LS A L9 at_ g0 w0 x r s y u v R2 S → NP p g0 w0 x r s y u v → RR S (4 * i + 4) → (∃ xb, L9 p = some xb ∧ BagC ((610 : Nat) : Int) xb) → ∀ (w : EW) (D0 : DEnds) (o8 o9 o10 o11 o12 : Option D),
      (∀ L' o11 o12, LS A L' at_ g0 w0 x r s y u v R2 S → D0.nx [some (.scr ns), some (.ref g0), some (.ref w0), some (D.int (i : Nat)), some (.ref p), some (.bl (decide (cp = 0))), some (.int at_), some (.lst (zs.map .str)), o8, o9, o10, o11, o12] L') → b_law_c3 A w D0 [some (.scr ns), some (.ref g0), some (.ref w0), some (D.int (i : Nat)), some (.ref p), some (.bl (decide (cp = 0))), some (.int at_), some (.lst (zs.map .str)), o8, o9, o10, o11, o12] L9 := by
    intro L9 y u v S st np rs bag w D0 o8 o9 o10 o11 o12 hn
    unfold b_law_c3
    walk_at "w"
    refine v_izip ?_
    walk_at "w"
    refine ⟨_, _, _, _, rfl, vr_ref st.hl, vr_ref st.hr, ?_⟩
    refine for_go (fun j ρ' L' => ∃ o11 o12, ρ' = [some (.scr ns), some (.ref g0), some (.ref w0), some (D.int (i : Nat)), some (.ref p), some (.bl (decide (cp = 0))), some (.int at_), some (.lst (zs.map .str)), o8, o9, o10, o11, o12] ∧ LS A L' at_ g0 w0 x r s y u v R2 S ∧ ∃ xb, L' p = some xb ∧ BagC ((610 + 10 * j : Nat) : Int) xb) ⟨_, _, rfl, st, bag⟩ ?_ ?_ ?_
    · rintro j ρ' L' ⟨_, _, _, h, _⟩
      exact ⟨vr_ref h.hl, vr_ref h.hr⟩
    · rintro j d ρ' L' R3 hd ⟨o11, o12, rfl, st, bag⟩ hR3
      have hj : j < 2 := by
        have := (List.getElem?_eq_some_iff.mp hd).1
        rw [List.length_zipWith, pair_len, pair_len] at this
        exact this
      obtain ⟨x1, r1, s1, R1, rfl, h1, h2, n1, n2, n3, h3⟩ : ∃ x1 r1 s1 R1, d = .tup [.ref x1, .ref s1] ∧ LogAt A L' x1 r1 R1 ∧ L' s1 = some (.lst R1) ∧ x1 ≠ p ∧ r1 ≠ p ∧ s1 ≠ p ∧ Rows R1 := by
        have hm := List.mem_of_getElem? hd
        unfold pairL at hm
        obtain rfl | rfl : at_ = 0 ∨ at_ = 1 := by omega
        · simp only [if_true, List.zipWith, List.mem_cons, List.not_mem_nil, or_false] at hm
          rcases hm with rfl | rfl
          · exact ⟨x, r, s, R2, rfl, st.l1, st.s1, np.n3, np.n4, np.n5, rr3.rs⟩
          · exact ⟨y, u, v, S, rfl, st.l2, st.s2, np.n6, np.n7, np.n8, rs.rs⟩
        · rw [if_neg (by decide), if_neg (by decide)] at hm
          simp only [List.zipWith, List.mem_cons, List.not_mem_nil, or_false] at hm
          rcases hm with rfl | rfl
          · exact ⟨y, u, v, S, rfl, st.l2, st.s2, np.n6, np.n7, np.n8, rs.rs⟩
          · exact ⟨x, r, s, R2, rfl, st.l1, st.s1, np.n3, np.n4, np.n5, rr3.rs⟩
      walk_at "w"
      refine ⟨rfl, p, _, x1, r1, s1, R1, rfl, .self bag, by omega, h1, h2, n1, n2, n3, h3, fun L2 bag2 ext2 => ?_⟩
      walk_at "w"
      exact hR3 _ _ ⟨_, _, rfl, st.ext np ext2, bag2.elim fun xb h => ⟨xb, h.1, h.2.more (by omega)⟩⟩
    · rintro ρ' L' ⟨o11, o12, rfl, st, _⟩
      exact hn L' o11 o12 st
  walk_at "w"
  unfold b_law_c2
  walk_at "w"
  refine v_ite (fun c0 => ?_) (fun c0 => ?_)
  rotate_left
  · walk_at "w"
    exact tail st6 np (rs.more (by omega)) (bag8.elim fun xb h => ⟨xb, h.1, h.2.more (by omega)⟩) _ _ _ _ _ _ _ fun L' o11 o12 h => fin h (rr3.more (by omega)) (rs.more (by omega)) _ _ _ _ _ _ _ _ _ _
  walk_at "w"
  refine v_ix (vs_ref st6.hl) (pair_at at_0 at_1) ?_
  refine ⟨_, vIns_of st6.l1.1, rfl, ?_⟩
  walk_at "w"
  refine ⟨rfl, x, r, R2, rfl, st6.l1, fun y' u' L9 hy hu nyu hl1 hm => ?_⟩
  walk_at "w"
  refine v_ix (vs_ref (hm _ _ st6.hr)) (pair_at at_0 at_1) ?_
  walk_at "w"
  refine ⟨_, R2, rfl, vs_ref (hm _ _ st6.s1), fun v' hv => ?_⟩
  have st7 := st6.copy hy hu nyu hl1 hm hv
  have kv : ∀ {a c}, L8 a = some c → a ≠ v' := fun h e => by rw [← e, hm _ _ h] at hv; cases hv
  walk_at "w"
  refine v_setL (j := (1 - at_).toNat) (by rw [updL_ne (kv st6.hl)]; exact hm _ _ st6.hl) (pair_ix at_0 at_1) ?_
  rw [pair_set at_0 at_1]
  walk_at "w"
  refine v_setL (j := (1 - at_).toNat) (by rw [updL_ne st6.d1.1.symm, updL_ne (kv st6.hr)]; exact hm _ _ st6.hr) (pair_ix at_0 at_1) ?_
  rw [pair_set at_0 at_1]
  walk_at "w"
  obtain ⟨xb, hb1, hb2⟩ := bag8
  have np2 : NP p g0 w0 x r s y' u' v' := ⟨np.n1, np.n2, np.n3, np.n4, np.n5, (fun e => by rw [e, hb1] at hy; cases hy), (fun e => by rw [e, hb1] at hu; cases hu), (fun e => by rw [e, hm _ _ hb1] at hv; cases hv)⟩
  refine tail st7 np2 rr3 ⟨xb, ?_, hb2.more (by omega)⟩ _ _ _ _ _ _ _ fun L' o11 o12 h => fin h (rr3.more (by omega)) (rr3.more (by omega)) _ _ _ _ _ _ _ _ _ _
  rw [updL_ne np.n2.symm, updL_ne np.n1.symm, updL_ne np2.n8.symm]
  exact hm _ _ hb1
end K16
set_option Elab.async false
set_option linter.all false
set_option maxRecDepth 100000
set_option maxHeartbeats 2000000
local macro_rules | `(tactic| walk_at "vc1") => `(tactic| first
  | with_reducible refine Dz.w_seq ?_
  | with_reducible refine Dz.w_asg ?_
  | with_reducible refine Dz.w_gn ?_
  | with_reducible refine Dz.w_gsub ?_
  | with_reducible refine Dz.w_ret ?_
  | with_reducible refine Dz.w_drop ?_
  | with_reducible refine Dz.w_ifS ?_
  | with_reducible refine Dz.w_next ?_
  | ((with_reducible refine Dz.w_varE ?_); (refine ⟨_, rfl, ?_⟩))
  | with_reducible refine Dz.w_c ?_
  | with_reducible refine Dz.w_op ?_
  | with_reducible refine Dz.w_un ?_
  | with_reducible refine Dz.w_rI0 ?_
  | with_reducible refine Dz.w_rU ?_
  | with_reducible refine Dz.w_nil ?_
  | with_reducible refine Dz.w_cons ?_
  | with_reducible refine Dz.w_lst ?_
  | with_reducible refine Dz.w_tup ?_
  | with_reducible refine Dz.w_cb ?_
  | with_reducible refine Dz.w_test ?_
  | with_reducible refine Dz.w_B ?_
  | with_reducible refine Dz.w_bl ?_
  | with_reducible refine Dz.w_notV ?_
  | with_reducible refine Dz.w_andV ?_
  | with_reducible refine Dz.w_orV ?_
  | with_reducible refine Dz.w_not ?_
  | with_reducible refine Dz.w_and ?_
  | with_reducible refine Dz.w_or ?_
  | with_reducible refine Dz.w_ifE ?_
  | with_reducible refine Dz.w_lc ?_
  | with_reducible refine Dz.w_for ?_
  | with_reducible refine Dz.w_iR1 ?_
  | with_reducible refine Dz.w_iL ?_
  | with_reducible refine Dz.w_iT ?_
  | with_reducible refine Dz.w_iS ?_
  | with_reducible refine Dz.w_gcons ?_
  | with_reducible refine Dz.w_gnil ?_
  | with_reducible refine Dz.w_tyes ?_
  | with_reducible refine Dz.w_sl ?_
  | with_reducible refine Dz.w_nopart ?_
  | with_reducible refine Dz.w_part ?_
  | with_reducible refine Dz.w_int ?_
  | with_reducible refine Dz.w_m1 ?_
  | with_reducible refine Dz.w_strA ?_
  | with_reducible refine Dz.w_chain ?_
  | with_reducible refine Dz.w_vei ?_
  | with_reducible refine Dz.w_revL ?_
  | with_reducible refine Dz.w_dnew ?_
  | with_reducible refine Dz.w_ost ?_
  | with_reducible refine Dz.w_ck ?_
  | with_reducible refine Dz.w_par ?_
  | with_reducible refine Dz.w_pair ?_
  | with_reducible refine Dz.w_bm ?_
  | with_reducible refine Dz.w_bm0 ?_
  | with_reducible refine Dz.w_rz ?_
  | with_reducible refine Dz.w_mke ?_
  | with_reducible refine Dz.w_try ?_
  | with_reducible refine Dz.w_cbs ?_
  | with_reducible refine Dz.w_cks ?_
  | with_reducible refine Dz.w_sfld ?_
  | with_reducible refine Dz.w_fld ?_
  | with_reducible refine Dz.w_mth ?_
  | with_reducible refine Dz.w_xf ?_
  | with_reducible refine Dz.w_lst4 ?_
  | with_reducible refine Dz.w_nn ?_
  | ((with_reducible refine Dz.w_rEq ?_ ?_); (exact rfl))
  | ((with_reducible refine Dz.w_rNe ?_ ?_); (exact rfl)))
local macro_rules | `(tactic| walk_at "vc") => `(tactic| ((try dsimp only); repeat (walk_at "vc1"; (try dsimp only))))
namespace K16
open PySem PySem.Spec PyProof.Rows L2 Dz Ed
def top (i : Nat) : Stmt := PySem.Challenge.pw_drowsetree_k16_logs_kept.main.body.getD i (.Pass ⟨0, 0, 0, 0⟩)
abbrev s_NoName_init : Stmt := inClass (top 3) 0
theorem sc_NoName_init : FnScope ["self", "found"] ["self", "found"] (defScope s_NoName_init) := ⟨rfl, rfl, rfl, by decide +kernel, rfl, by decide +kernel, by decide +kernel⟩
abbrev s_NoNumber_init : Stmt := inClass (top 4) 0
theorem sc_NoNumber_init : FnScope ["self", "found"] ["self", "found"] (defScope s_NoNumber_init) := ⟨rfl, rfl, rfl, by decide +kernel, rfl, by decide +kernel, by decide +kernel⟩
abbrev s_NoLog_init : Stmt := inClass (top 5) 0
theorem sc_NoLog_init : FnScope ["self", "found"] ["self", "found"] (defScope s_NoLog_init) := ⟨rfl, rfl, rfl, by decide +kernel, rfl, by decide +kernel, by decide +kernel⟩
abbrev s_is_truth : Stmt := top 9
theorem sc_is_truth : FnScope ["thing"] ["thing"] (defScope s_is_truth) := ⟨rfl, rfl, rfl, by decide +kernel, rfl, by decide +kernel, by decide +kernel⟩
abbrev s_is_number : Stmt := top 10
theorem sc_is_number : FnScope ["thing"] ["thing"] (defScope s_is_number) := ⟨rfl, rfl, rfl, by decide +kernel, rfl, by decide +kernel, by decide +kernel⟩
abbrev s_is_at_least : Stmt := top 11
theorem sc_is_at_least : FnScope ["thing", "low"] ["thing", "low"] (defScope s_is_at_least) := ⟨rfl, rfl, rfl, by decide +kernel, rfl, by decide +kernel, by decide +kernel⟩
abbrev s_is_whole : Stmt := top 12
theorem sc_is_whole : FnScope ["thing", "low", "high"] ["thing", "low", "high"] (defScope s_is_whole) := ⟨rfl, rfl, rfl, by decide +kernel, rfl, by decide +kernel, by decide +kernel⟩
abbrev s_is_name : Stmt := top 13
theorem sc_is_name : FnScope ["thing"] ["thing"] (defScope s_is_name) := ⟨rfl, rfl, rfl, by decide +kernel, rfl, by decide +kernel, by decide +kernel⟩
abbrev s__is_made_of : Stmt := top 14
theorem sc__is_made_of : FnScope ["text", "signs", "sign"] ["text", "signs"] (defScope s__is_made_of) := ⟨rfl, rfl, rfl, by decide +kernel, rfl, by decide +kernel, by decide +kernel⟩
abbrev s_Device_init : Stmt := inClass (top 25) 0
theorem sc_Device_init : FnScope ["self", "name", "parent", "burn", "sip", "wake", "fall", "rest"] ["self", "name", "parent", "burn", "sip", "wake", "fall", "rest"] (defScope s_Device_init) := ⟨rfl, rfl, rfl, by decide +kernel, rfl, by decide +kernel, by decide +kernel⟩
abbrev s_device_of : Stmt := top 26
theorem sc_device_of : FnScope ["told", "name", "parent", "burn", "sip", "wake", "fall", "rest"] ["told"] (defScope s_device_of) := ⟨rfl, rfl, rfl, by decide +kernel, rfl, by decide +kernel, by decide +kernel⟩
abbrev s_is_told : Stmt := top 27
theorem sc_is_told : FnScope ["thing"] ["thing"] (defScope s_is_told) := ⟨rfl, rfl, rfl, by decide +kernel, rfl, by decide +kernel, by decide +kernel⟩
abbrev s__need_whole : Stmt := top 28
theorem sc__need_whole : FnScope ["thing", "high"] ["thing", "high"] (defScope s__need_whole) := ⟨rfl, rfl, rfl, by decide +kernel, rfl, by decide +kernel, by decide +kernel⟩
abbrev s_is_link : Stmt := top 31
theorem sc_is_link : FnScope ["thing"] ["thing"] (defScope s_is_link) := ⟨rfl, rfl, rfl, by decide +kernel, rfl, by decide +kernel, by decide +kernel⟩
abbrev s_is_row : Stmt := top 41
theorem sc_is_row : FnScope ["thing"] ["thing"] (defScope s_is_row) := ⟨rfl, rfl, rfl, by decide +kernel, rfl, by decide +kernel, by decide +kernel⟩
abbrev s_Log_init : Stmt := inClass (top 42) 0
theorem sc_Log_init : FnScope ["self"] ["self"] (defScope s_Log_init) := ⟨rfl, rfl, rfl, by decide +kernel, rfl, by decide +kernel, by decide +kernel⟩
abbrev s_Log_add : Stmt := inClass (top 42) 1
theorem sc_Log_add : FnScope ["self", "turn", "words"] ["self", "turn", "words"] (defScope s_Log_add) := ⟨rfl, rfl, rfl, by decide +kernel, rfl, by decide +kernel, by decide +kernel⟩
abbrev s_Log_rows : Stmt := inClass (top 42) 2
theorem sc_Log_rows : FnScope ["self"] ["self"] (defScope s_Log_rows) := ⟨rfl, rfl, rfl, by decide +kernel, rfl, by decide +kernel, by decide +kernel⟩
abbrev s_Log_last : Stmt := inClass (top 42) 3
theorem sc_Log_last : FnScope ["self", "many"] ["self", "many"] (defScope s_Log_last) := ⟨rfl, rfl, rfl, by decide +kernel, rfl, by decide +kernel, by decide +kernel⟩
abbrev s_Log_copied : Stmt := inClass (top 42) 4
theorem sc_Log_copied : FnScope ["self", "other"] ["self"] (defScope s_Log_copied) := ⟨rfl, rfl, rfl, by decide +kernel, rfl, by decide +kernel, by decide +kernel⟩
abbrev s_Log_len : Stmt := inClass (top 42) 5
theorem sc_Log_len : FnScope ["self"] ["self"] (defScope s_Log_len) := ⟨rfl, rfl, rfl, by decide +kernel, rfl, by decide +kernel, by decide +kernel⟩
abbrev s__are_words : Stmt := top 43
theorem sc__are_words : FnScope ["words", "first"] ["words"] (defScope s__are_words) := ⟨rfl, rfl, rfl, by decide +kernel, rfl, by decide +kernel, by decide +kernel⟩
abbrev s__is_deed : Stmt := top 44
theorem sc__is_deed : FnScope ["deed", "name"] ["deed", "name"] (defScope s__is_deed) := ⟨rfl, rfl, rfl, by decide +kernel, rfl, by decide +kernel, by decide +kernel⟩
abbrev s__is_end : Stmt := top 45
theorem sc__is_end : FnScope ["deed", "word"] ["deed", "word"] (defScope s__is_end) := ⟨rfl, rfl, rfl, by decide +kernel, rfl, by decide +kernel, by decide +kernel⟩
abbrev s__is_device_word : Stmt := top 46
theorem sc__is_device_word : FnScope ["word"] ["word"] (defScope s__is_device_word) := ⟨rfl, rfl, rfl, by decide +kernel, rfl, by decide +kernel, by decide +kernel⟩
abbrev s__are_links : Stmt := top 47
theorem sc__are_links : FnScope ["thing", "link"] ["thing"] (defScope s__are_links) := ⟨rfl, rfl, rfl, by decide +kernel, rfl, by decide +kernel, by decide +kernel⟩
abbrev s__law_cell : Stmt := top 49
theorem sc__law_cell : FnScope ["_law_script", "_law_k"] ["_law_script", "_law_k"] (defScope s__law_cell) := ⟨rfl, rfl, rfl, by decide +kernel, rfl, by decide +kernel, by decide +kernel⟩
abbrev s__law_box : Stmt := top 50
theorem sc__law_box : FnScope ["_law_cell_here"] ["_law_cell_here"] (defScope s__law_box) := ⟨rfl, rfl, rfl, by decide +kernel, rfl, by decide +kernel, by decide +kernel⟩
abbrev s__law_take : Stmt := top 51
theorem sc__law_take : FnScope ["_law_box_here", "_law_wide", "_law_digit", "_law_number"] ["_law_box_here", "_law_wide"] (defScope s__law_take) := ⟨rfl, rfl, rfl, by decide +kernel, rfl, by decide +kernel, by decide +kernel⟩
abbrev s__law_names : Stmt := top 52
theorem sc__law_names : FnScope ["_law_box_here", "_law_wide", "_law_letters", "_law_way", "_law_first", "_law_stem", "_law_k", "_law_words_here", "_law_at"] ["_law_box_here", "_law_wide"] (defScope s__law_names) := ⟨rfl, rfl, rfl, by decide +kernel, rfl, by decide +kernel, by decide +kernel⟩
abbrev s__law_links : Stmt := top 53
theorem sc__law_links : FnScope ["_law_box_here", "_law_names_here", "_law_found", "_law_k", "_law_at"] ["_law_box_here", "_law_names_here"] (defScope s__law_links) := ⟨rfl, rfl, rfl, by decide +kernel, rfl, by decide +kernel, by decide +kernel⟩
abbrev s__law_told_device : Stmt := top 54
theorem sc__law_told_device : FnScope ["_law_box_here", "_law_names_here", "_law_parent", "_law_burn", "_law_sip"] ["_law_box_here", "_law_names_here"] (defScope s__law_told_device) := ⟨rfl, rfl, rfl, by decide +kernel, rfl, by decide +kernel, by decide +kernel⟩
abbrev s__law_words : Stmt := top 55
theorem sc__law_words : FnScope ["_law_box_here", "_law_names_here", "_law_states", "_law_name", "_law_other", "_law_way", "_law_own", "_law_whole", "_law_ends"] ["_law_box_here", "_law_names_here"] (defScope s__law_words) := ⟨rfl, rfl, rfl, by decide +kernel, rfl, by decide +kernel, by decide +kernel⟩
abbrev s__law_told : Stmt := top 56
theorem sc__law_told : FnScope ["_law_log", "_law_turn", "_law_words_here", "_law_found", "e"] ["_law_log", "_law_turn", "_law_words_here"] (defScope s__law_told) := ⟨rfl, rfl, rfl, by decide +kernel, rfl, by decide +kernel, by decide +kernel⟩
abbrev s__law_last : Stmt := top 57
theorem sc__law_last : FnScope ["_law_log", "_law_wide", "_law_found", "e"] ["_law_log", "_law_wide"] (defScope s__law_last) := ⟨rfl, rfl, rfl, by decide +kernel, rfl, by decide +kernel, by decide +kernel⟩
abbrev s__law_refused : Stmt := top 58
theorem sc__law_refused : FnScope ["_law_box_here", "_law_log", "_law_rows", "_law_words_here", "_law_turns", "_law_strange", "_law_good", "_law_asks", "_law_turn", "_law_some", "_law_due", "_law_found"] ["_law_box_here", "_law_log", "_law_rows", "_law_words_here"] (defScope s__law_refused) := ⟨rfl, rfl, rfl, by decide +kernel, rfl, by decide +kernel, by decide +kernel⟩
abbrev s__law_stands : Stmt := top 59
theorem sc__law_stands : FnScope ["_law_box_here", "_law_log", "_law_rows", "_law_wide", "_law_odd", "_law_found", "_law_told_here"] ["_law_box_here", "_law_log", "_law_rows"] (defScope s__law_stands) := ⟨rfl, rfl, rfl, by decide +kernel, rfl, by decide +kernel, by decide +kernel⟩
abbrev s_law : Stmt := top 60
theorem sc_law : FnScope ["_law_script", "_law_logs", "_law_rows", "_law_k", "_law_box_here", "_law_copies", "_law_at", "_law_names_here", "_law_turn", "_law_words_here", "_law_clock", "_law_log", "_law_some"] ["_law_script"] (defScope s_law) := ⟨rfl, rfl, rfl, by decide +kernel, rfl, by decide +kernel, by decide +kernel⟩
/-- what the top has written -/
structure Txt (K : PySem.W.Frag) (mg : Str → Option Value) (A : Ad) : Prop where
  z_all : mg "all" = none
  z_bool : mg "bool" = none
  z_int : mg "int" = none
  z_isinstance : mg "isinstance" = none
  z_len : mg "len" = none
  z_list : mg "list" = none
  z_max : mg "max" = none
  z_min : mg "min" = none
  z_range : mg "range" = none
  z_repr : mg "repr" = none
  z_str : mg "str" = none
  z_tuple : mg "tuple" = none
  z_zip : mg "zip" = none
  c__LETTERS : Gv mg "_LETTERS" (.str "abcdefghijklmnopqrstuvwxyz")
  c__NAME_SIGNS : Gv mg "_NAME_SIGNS" (.int 8)
  c_BURN : Gv mg "BURN" (.int 5)
  c_SIP : Gv mg "SIP" (.int 1)
  c_WAKE : Gv mg "WAKE" (.int 1)
  c_FALL : Gv mg "FALL" (.int 1)
  c_REST : Gv mg "REST" (.int 0)
  c__MOST_BURN : Gv mg "_MOST_BURN" (.int 100)
  c__MOST_TURNS : Gv mg "_MOST_TURNS" (.int 5)
  c__MOST_REST : Gv mg "_MOST_REST" (.int 9)
  c__MANY_TOLD : Gv mg "_MANY_TOLD" (.int 7)
  c_MOST_LINKS : Gv mg "MOST_LINKS" (.int 16)
  c__MOST_LAST : Gv mg "_MOST_LAST" (.int 1000)
  d_is_truth : Df K mg "is_truth" s_is_truth A.f_is_truth
  d_is_number : Df K mg "is_number" s_is_number A.f_is_number
  d_is_at_least : Df K mg "is_at_least" s_is_at_least A.f_is_at_least
  d_is_whole : Df K mg "is_whole" s_is_whole A.f_is_whole
  d_is_name : Df K mg "is_name" s_is_name A.f_is_name
  d__is_made_of : Df K mg "_is_made_of" s__is_made_of A.f__is_made_of
  d_device_of : Df K mg "device_of" s_device_of A.f_device_of
  d_is_told : Df K mg "is_told" s_is_told A.f_is_told
  d__need_whole : Df K mg "_need_whole" s__need_whole A.f__need_whole
  d_is_link : Df K mg "is_link" s_is_link A.f_is_link
  d_is_row : Df K mg "is_row" s_is_row A.f_is_row
  d__are_words : Df K mg "_are_words" s__are_words A.f__are_words
  d__is_deed : Df K mg "_is_deed" s__is_deed A.f__is_deed
  d__is_end : Df K mg "_is_end" s__is_end A.f__is_end
  d__is_device_word : Df K mg "_is_device_word" s__is_device_word A.f__is_device_word
  d__are_links : Df K mg "_are_links" s__are_links A.f__are_links
  d__law_cell : Df K mg "_law_cell" s__law_cell A.f__law_cell
  d__law_box : Df K mg "_law_box" s__law_box A.f__law_box
  d__law_take : Df K mg "_law_take" s__law_take A.f__law_take
  d__law_names : Df K mg "_law_names" s__law_names A.f__law_names
  d__law_links : Df K mg "_law_links" s__law_links A.f__law_links
  d__law_told_device : Df K mg "_law_told_device" s__law_told_device A.f__law_told_device
  d__law_words : Df K mg "_law_words" s__law_words A.f__law_words
  d__law_told : Df K mg "_law_told" s__law_told A.f__law_told
  d__law_last : Df K mg "_law_last" s__law_last A.f__law_last
  d__law_refused : Df K mg "_law_refused" s__law_refused A.f__law_refused
  d__law_stands : Df K mg "_law_stands" s__law_stands A.f__law_stands
  d_law : Df K mg "law" s_law A.f_law
  m_WakeError : mg "WakeError" = some (.ref A.C_WakeError)
  up_WakeError : ∃ mc, UpC K A.C_WakeError mc
  e_NoName : Er K mg "NoName" "found" A.C_NoName A.f_NoName_init
  n_NoName_init : ∃ fd, Fun K "__init__" "NoName.__init__" s_NoName_init A.f_NoName_init fd
  e_NoNumber : Er K mg "NoNumber" "found" A.C_NoNumber A.f_NoNumber_init
  n_NoNumber_init : ∃ fd, Fun K "__init__" "NoNumber.__init__" s_NoNumber_init A.f_NoNumber_init fd
  e_NoLog : Er K mg "NoLog" "found" A.C_NoLog A.f_NoLog_init
  n_NoLog_init : ∃ fd, Fun K "__init__" "NoLog.__init__" s_NoLog_init A.f_NoLog_init fd
  x_NoName_NoName : PySem.W.subIn K (.ref A.C_NoName) (.ref A.C_NoName) = some true
  x_NoName_NoNumber : PySem.W.subIn K (.ref A.C_NoName) (.ref A.C_NoNumber) = some false
  x_NoName_NoLog : PySem.W.subIn K (.ref A.C_NoName) (.ref A.C_NoLog) = some false
  x_NoNumber_NoName : PySem.W.subIn K (.ref A.C_NoNumber) (.ref A.C_NoName) = some false
  x_NoNumber_NoNumber : PySem.W.subIn K (.ref A.C_NoNumber) (.ref A.C_NoNumber) = some true
  x_NoNumber_NoLog : PySem.W.subIn K (.ref A.C_NoNumber) (.ref A.C_NoLog) = some false
  x_NoLog_NoName : PySem.W.subIn K (.ref A.C_NoLog) (.ref A.C_NoName) = some false
  x_NoLog_NoNumber : PySem.W.subIn K (.ref A.C_NoLog) (.ref A.C_NoNumber) = some false
  x_NoLog_NoLog : PySem.W.subIn K (.ref A.C_NoLog) (.ref A.C_NoLog) = some true
  m_Device : mg "Device" = some (.ref A.C_Device)
  cls_Device : Cls K A.C_Device
  mk_Device : Mk K A.C_Device A.f_Device_init
  nf_Device__told : NoAttr K A.C_Device "_told"
  n_Device_init : ∃ fd, FunD K "__init__" "Device.__init__" (defArgs s_Device_init) (defBody s_Device_init) (defScope s_Device_init) [] ([("parent", .non), ("burn", .int 5), ("sip", .int 1), ("wake", .int 1), ("fall", .int 1), ("rest", .int 0)] : List (Str × V)) A.f_Device_init fd
  m_Log : mg "Log" = some (.ref A.C_Log)
  cls_Log : Cls K A.C_Log
  mk_Log : Mk K A.C_Log A.f_Log_init
  nf_Log__rows : NoAttr K A.C_Log "_rows"
  n_Log_init : ∃ fd, FunD K "__init__" "Log.__init__" (defArgs s_Log_init) (defBody s_Log_init) (defScope s_Log_init) [] ([] : List (Str × V)) A.f_Log_init fd
  me_Log_add : Meth K A.C_Log "add" A.f_Log_add
  n_Log_add : ∃ fd, Fun K "add" "Log.add" s_Log_add A.f_Log_add fd
  me_Log_rows : Meth K A.C_Log "rows" A.f_Log_rows
  n_Log_rows : ∃ fd, Fun K "rows" "Log.rows" s_Log_rows A.f_Log_rows fd
  me_Log_last : Meth K A.C_Log "last" A.f_Log_last
  n_Log_last : ∃ fd, FunD K "last" "Log.last" (defArgs s_Log_last) (defBody s_Log_last) (defScope s_Log_last) [.int 1] ([] : List (Str × V)) A.f_Log_last fd
  me_Log_len : Meth K A.C_Log "__len__" A.f_Log_len
  n_Log_len : ∃ fd, Fun K "__len__" "Log.__len__" s_Log_len A.f_Log_len fd
  me_Log_copied : Meth K A.C_Log "copied" A.f_Log_copied
  n_Log_copied : ∃ fd, Fun K "copied" "Log.copied" s_Log_copied A.f_Log_copied fd
  m_PHASES : mg "PHASES" = some (.ref A.t_PHASES)
  kt_PHASES : Ed.KTup K A.t_PHASES ((["ready", "sleep", "late", "still"] : List Str).map V.str)
  m_BELLS : mg "BELLS" = some (.ref A.t_BELLS)
  kt_BELLS : Ed.KTup K A.t_BELLS ((["unheard", "noted", "broke", "woke"] : List Str).map V.str)
  m_STATES : mg "STATES" = some (.ref A.t_STATES)
  kt_STATES : Ed.KTup K A.t_STATES ((["waking", "wake", "falling", "doze", "stays", "off", "use", "reset", "unplug"] : List Str).map V.str)
  m__UNDONE : mg "_UNDONE" = some (.ref A.t__UNDONE)
  kt__UNDONE : Ed.KTup K A.t__UNDONE ((["unready", "unsleep", "unlate", "unstill"] : List Str).map V.str)
  m__DEVICE_DEEDS : mg "_DEVICE_DEEDS" = some (.ref A.t__DEVICE_DEEDS)
  kt__DEVICE_DEEDS : Ed.KTup K A.t__DEVICE_DEEDS ((["gain", "release"] : List Str).map V.str)
  m__MACHINE_DEEDS : mg "_MACHINE_DEEDS" = some (.ref A.t__MACHINE_DEEDS)
  kt__MACHINE_DEEDS : Ed.KTup K A.t__MACHINE_DEEDS ((["tick", "sleep", "rise"] : List Str).map V.str)
  m__ANSWERS : mg "_ANSWERS" = some (.ref A.t__ANSWERS)
  kt__ANSWERS : Ed.KTup K A.t__ANSWERS ((["done", "busy", "broken"] : List Str).map V.str)
section
variable {P : Program} {w : World} {K : PySem.W.Frag} {mg : Str → Option Value} {base : Heap} {A : Ad}
theorem kb_Device_init_2_parent_burn_sip_wake_fall_rest {K : PySem.W.Frag} {f : Addr} {fd : FuncData} (F : FunD K "__init__" "Device.__init__" (defArgs s_Device_init) (defBody s_Device_init) (defScope s_Device_init) [] ([("parent", .non), ("burn", .int 5), ("sip", .int 1), ("wake", .int 1), ("fall", .int 1), ("rest", .int 0)] : List (Str × V)) f fd) : ∃ g, KBn K fd ["self", "name", "parent", "burn", "sip", "wake", "fall", "rest"] 2 ["parent", "burn", "sip", "wake", "fall", "rest"] g (fun vs zs => perm [0, 1, 2, 3, 4, 5, 6, 7] (vs ++ ([] : List (Str × V)).map (·.2) ++ zs)) := by
  obtain ⟨mv, h⟩ := kb_k F (ps := ["self", "name", "parent", "burn", "sip", "wake", "fall", "rest"]) 2 ["parent", "burn", "sip", "wake", "fall", "rest"] ([] : List (Str × V)) (fun us mv ws => perm [0, 1, 2, 3, 4, 5, 6, 7] (us ++ mv ++ ws)) (by decide) (by decide) (fun r1 r2 r3 => vals_perm ((r1.append r2).append r3) _) (fun D doc pm an cdv ct us mv ws h1 h2 h3 => match us, h1, mv, h2, ws, h3 with | [a0, a1], _, [], _, [c0, c1, c2, c3, c4, c5], _ => (show _ = _ from rfl))
  exact ⟨_, h⟩
theorem kb_Log_init_1_K0 {K : PySem.W.Frag} {f : Addr} {fd : FuncData} (F : FunD K "__init__" "Log.__init__" (defArgs s_Log_init) (defBody s_Log_init) (defScope s_Log_init) [] ([] : List (Str × V)) f fd) : ∃ g, KBn K fd ["self"] 1 [] g (fun vs zs => perm [0] (vs ++ [] ++ zs)) :=
  ⟨_, Ed.kb_0 F (ps := ["self"]) 1 [] (fun us ws => perm [0] (us ++ [] ++ ws)) (fun r1 r2 => vals_perm ((r1.append .nil).append r2) _) (fun kV doc pm an cdv ct us ws h1 h2 => match us, h1, ws, h2 with | [a0], _, [], _ => rfl)⟩
theorem kb_Log_last_2 {K : PySem.W.Frag} {f : Addr} {fd : FuncData} (F : FunD K "last" "Log.last" (defArgs s_Log_last) (defBody s_Log_last) (defScope s_Log_last) [.int 1] ([] : List (Str × V)) f fd) : ∃ ds, Vals [] ds ∧ Binds K fd ["self", "many"] ds :=
  F.binds1 2 1 (by decide) (by decide) (fun T kV doc pm an cdv ct us its h1 h2 => match us, h1, its, h2 with | [a0, a1], _, [b0], _ => ⟨_, rfl, rfl⟩)
theorem kb_Log_last_1_many {K : PySem.W.Frag} {f : Addr} {fd : FuncData} (F : FunD K "last" "Log.last" (defArgs s_Log_last) (defBody s_Log_last) (defScope s_Log_last) [.int 1] ([] : List (Str × V)) f fd) : ∃ g, KBn K fd ["self", "many"] 1 ["many"] g (fun vs zs => perm [0, 2] (vs ++ [.int 1] ++ zs)) := by
  obtain ⟨its, h⟩ := kb_d F (ps := ["self", "many"]) 1 ["many"] (fun us its ws => perm [0, 2] (us ++ its ++ ws)) (by simp) (fun r1 r2 r3 => vals_perm ((r1.append r2).append r3) _) (fun T kV doc pm an cdv ct us its ws h1 h2 h3 => match us, h1, its, h2, ws, h3 with | [a0], _, [b0], _, [c0], _ => ⟨_, rfl, rfl⟩)
  exact ⟨_, h⟩
theorem kb_Log_last_1 {K : PySem.W.Frag} {f : Addr} {fd : FuncData} (F : FunD K "last" "Log.last" (defArgs s_Log_last) (defBody s_Log_last) (defScope s_Log_last) [.int 1] ([] : List (Str × V)) f fd) : ∃ ds, Vals [.int 1] ds ∧ Binds K fd ["self", "many"] ds :=
  F.binds1 1 0 (by decide) (by decide) (fun T kV doc pm an cdv ct us its h1 h2 => match us, h1, its, h2 with | [a0], _, [b0], _ => ⟨_, rfl, rfl⟩)
/-- the error's own __init__ -/
theorem ok_NoName_init (T : Txt K mg A) : Kp P w K mg base CX0 1 A.f_NoName_init ["self", "found"] [] (spErr "found" A.C_NoName) := by
  obtain ⟨fd, F⟩ := T.n_NoName_init
  obtain ⟨mc, up⟩ := T.up_WakeError
  refine ⟨fd, fnG_nx (k := 0) F sc_NoName_init (fun vs H Q E h => ?_) (fun cdv Ar outer s H vs Q E hcl hr h => ?_), F.binds (fun _ _ _ _ _ _ us hl => match us, hl with | [_, _], _ => rfl)⟩
  · obtain ⟨a, y, rfl, ha, q⟩ := h
    rfl
  · obtain ⟨a, y, rfl, ha, q⟩ := h
    refine ⟨_, (pss_cons (ps_expr (pe_upinit (by rfl) T.m_WakeError up (pa_cons (pv 0) (pa_cons pe_str pa_nil))))
      (pss_one (ps_ost (pv 0) (pv 1)))), ?_⟩
    walk_at "vc"
    refine ⟨a, _, _, rfl, (by show 1 ≤ 1000; decide), T.e_NoName.oex, ha, ?_⟩
    walk_at "vc"
    exact ⟨a, _, rfl, T.e_NoName.oex, T.e_NoName.nof, .inl ⟨ha, q⟩⟩
/-- the error's own __init__ -/
theorem ok_NoNumber_init (T : Txt K mg A) : Kp P w K mg base CX0 1 A.f_NoNumber_init ["self", "found"] [] (spErr "found" A.C_NoNumber) := by
  obtain ⟨fd, F⟩ := T.n_NoNumber_init
  obtain ⟨mc, up⟩ := T.up_WakeError
  refine ⟨fd, fnG_nx (k := 0) F sc_NoNumber_init (fun vs H Q E h => ?_) (fun cdv Ar outer s H vs Q E hcl hr h => ?_), F.binds (fun _ _ _ _ _ _ us hl => match us, hl with | [_, _], _ => rfl)⟩
  · obtain ⟨a, y, rfl, ha, q⟩ := h
    rfl
  · obtain ⟨a, y, rfl, ha, q⟩ := h
    refine ⟨_, (pss_cons (ps_expr (pe_upinit (by rfl) T.m_WakeError up (pa_cons (pv 0) (pa_cons pe_str pa_nil))))
      (pss_one (ps_ost (pv 0) (pv 1)))), ?_⟩
    walk_at "vc"
    refine ⟨a, _, _, rfl, (by show 1 ≤ 1000; decide), T.e_NoNumber.oex, ha, ?_⟩
    walk_at "vc"
    exact ⟨a, _, rfl, T.e_NoNumber.oex, T.e_NoNumber.nof, .inl ⟨ha, q⟩⟩
/-- the error's own __init__ -/
theorem ok_NoLog_init (T : Txt K mg A) : Kp P w K mg base CX0 1 A.f_NoLog_init ["self", "found"] [] (spErr "found" A.C_NoLog) := by
  obtain ⟨fd, F⟩ := T.n_NoLog_init
  obtain ⟨mc, up⟩ := T.up_WakeError
  refine ⟨fd, fnG_nx (k := 0) F sc_NoLog_init (fun vs H Q E h => ?_) (fun cdv Ar outer s H vs Q E hcl hr h => ?_), F.binds (fun _ _ _ _ _ _ us hl => match us, hl with | [_, _], _ => rfl)⟩
  · obtain ⟨a, y, rfl, ha, q⟩ := h
    rfl
  · obtain ⟨a, y, rfl, ha, q⟩ := h
    refine ⟨_, (pss_cons (ps_expr (pe_upinit (by rfl) T.m_WakeError up (pa_cons (pv 0) (pa_cons pe_str pa_nil))))
      (pss_one (ps_ost (pv 0) (pv 1)))), ?_⟩
    walk_at "vc"
    refine ⟨a, _, _, rfl, (by show 1 ≤ 1000; decide), T.e_NoLog.oex, ha, ?_⟩
    walk_at "vc"
    exact ⟨a, _, rfl, T.e_NoLog.oex, T.e_NoLog.nof, .inl ⟨ha, q⟩⟩
def spLawK (K : PySem.W.Frag) : Sp := fun vs H Q _ => spD K 1 Ed.spLaw vs H Q E0
theorem mt_ok (T : Txt K mg A) : ∀ C c b, mt A C c b → PySem.W.exmOne K (.ref C) (.ref c) = some b := by
  intro C c b h
  unfold mt at h
  rcases h with ⟨rfl, rfl, rfl⟩ | ⟨rfl, rfl, rfl⟩ | ⟨rfl, rfl, rfl⟩ | ⟨rfl, rfl, rfl⟩ | ⟨rfl, rfl, rfl⟩ | ⟨rfl, rfl, rfl⟩ | ⟨rfl, rfl, rfl⟩ | ⟨rfl, rfl, rfl⟩ | ⟨rfl, rfl, rfl⟩
  · exact T.e_NoName.exm T.x_NoName_NoName
  · exact T.e_NoNumber.exm T.x_NoName_NoNumber
  · exact T.e_NoLog.exm T.x_NoName_NoLog
  · exact T.e_NoName.exm T.x_NoNumber_NoName
  · exact T.e_NoNumber.exm T.x_NoNumber_NoNumber
  · exact T.e_NoLog.exm T.x_NoNumber_NoLog
  · exact T.e_NoName.exm T.x_NoLog_NoName
  · exact T.e_NoNumber.exm T.x_NoLog_NoNumber
  · exact T.e_NoLog.exm T.x_NoLog_NoLog
theorem ok_is_truth (T : Txt K mg A) (B1 : ∃ o, base.get? sysModules = some o)  : Kp P w K mg base (L2.CX P w) 1 A.f_is_truth ["thing"] [] (spD K 1 (sp_is_truth A)) := by
  obtain ⟨fd, F⟩ := T.d_is_truth.ex
  exact kd_mk F sc_is_truth (F.binds (fun _ _ _ _ _ _ us hl => match us, hl with | [_], _ => rfl)) (fun cdv Ar outer s H E hcl hr => by
    have hu65 : _ + 65 < cLine := Nat.lt_of_le_of_lt (Nat.add_le_add_left (by omega : 65 ≤ 16 * 0 + 200) _) (by have := hr.un; rw [Nat.add_assoc] at this; exact this)
    have hu := hu_of hr
    exact (dss_one (ds_ret (d_callB (call_isiA rfl) sim_isi (by rfl) T.z_isinstance (by decide +kernel) (da_cons (dv 0) (da_cons (d_c (pe_bltn (v := .ty "bool") rfl T.z_bool (by decide +kernel) rfl) (fun _ _ => .ty _)) da_nil)))))) (fun cdv Ar outer s H E => takes_of rfl rfl rfl rfl) (rd_is_truth A)
theorem ok_is_number (T : Txt K mg A) (B1 : ∃ o, base.get? sysModules = some o) (G_is_truth : Kp P w K mg base (L2.CX P w) 1 A.f_is_truth ["thing"] [] (spD K 1 (sp_is_truth A))) : Kp P w K mg base (L2.CX P w) 2 A.f_is_number ["thing"] [] (spD K 1 (sp_is_number A)) := by
  obtain ⟨fd, F⟩ := T.d_is_number.ex
  exact kd_mk F sc_is_number (F.binds (fun _ _ _ _ _ _ us hl => match us, hl with | [_], _ => rfl)) (fun cdv Ar outer s H E hcl hr => by
    have hu65 : _ + 65 < cLine := Nat.lt_of_le_of_lt (Nat.add_le_add_left (by omega : 65 ≤ 16 * 1 + 200) _) (by have := hr.un; rw [Nat.add_assoc] at this; exact this)
    have hu := hu_of hr
    exact (dss_one (ds_ret (d_and (d_callB (call_isiA rfl) sim_isi (by rfl) T.z_isinstance (by decide +kernel) (da_cons (dv 0) (da_cons (d_c (pe_bltn (v := .ty "int") rfl T.z_int (by decide +kernel) rfl) (fun _ _ => .ty _)) da_nil))) (d_one (d_not (d_fn G_is_truth hcl (hr.mono (by decide)) (by rfl) T.d_is_truth.mg T.d_is_truth.kp (da_cons (dv 0) da_nil)))))))) (fun cdv Ar outer s H E => takes_of rfl rfl rfl rfl) (rd_is_number A)
theorem ok_is_at_least (T : Txt K mg A) (B1 : ∃ o, base.get? sysModules = some o) (G_is_number : Kp P w K mg base (L2.CX P w) 2 A.f_is_number ["thing"] [] (spD K 1 (sp_is_number A))) : Kp P w K mg base (L2.CX P w) 3 A.f_is_at_least ["thing", "low"] [] (spD K 2 (sp_is_at_least A)) := by
  obtain ⟨fd, F⟩ := T.d_is_at_least.ex
  exact kd_mk F sc_is_at_least (F.binds (fun _ _ _ _ _ _ us hl => match us, hl with | [_, _], _ => rfl)) (fun cdv Ar outer s H E hcl hr => by
    have hu65 : _ + 65 < cLine := Nat.lt_of_le_of_lt (Nat.add_le_add_left (by omega : 65 ≤ 16 * 2 + 200) _) (by have := hr.un; rw [Nat.add_assoc] at this; exact this)
    have hu := hu_of hr
    exact (dss_one (ds_ret (d_and (d_fn G_is_number hcl (hr.mono (by decide)) (by rfl) T.d_is_number.mg T.d_is_number.kp (da_cons (dv 0) da_nil)) (d_one (d_cmp op_le sim_le (dv 1) (dv 0) (nomark _))))))) (fun cdv Ar outer s H E => takes_of rfl rfl rfl rfl) (rd_is_at_least A)
theorem ok_is_whole (T : Txt K mg A) (B1 : ∃ o, base.get? sysModules = some o) (G_is_at_least : Kp P w K mg base (L2.CX P w) 3 A.f_is_at_least ["thing", "low"] [] (spD K 2 (sp_is_at_least A))) : Kp P w K mg base (L2.CX P w) 4 A.f_is_whole ["thing", "low", "high"] [] (spD K 3 (sp_is_whole A)) := by
  obtain ⟨fd, F⟩ := T.d_is_whole.ex
  exact kd_mk F sc_is_whole (F.binds (fun _ _ _ _ _ _ us hl => match us, hl with | [_, _, _], _ => rfl)) (fun cdv Ar outer s H E hcl hr => by
    have hu65 : _ + 65 < cLine := Nat.lt_of_le_of_lt (Nat.add_le_add_left (by omega : 65 ≤ 16 * 3 + 200) _) (by have := hr.un; rw [Nat.add_assoc] at this; exact this)
    have hu := hu_of hr
    exact (dss_one (ds_ret (d_and (d_fn G_is_at_least hcl (hr.mono (by decide)) (by rfl) T.d_is_at_least.mg T.d_is_at_least.kp (da_cons (dv 0) (da_cons (dv 1) da_nil))) (d_one (d_cmp op_le sim_le (dv 0) (dv 2) (nomark _))))))) (fun cdv Ar outer s H E => takes_of rfl rfl rfl rfl) (rd_is_whole A)
theorem ok__is_made_of (T : Txt K mg A) (B1 : ∃ o, base.get? sysModules = some o)  : Kp P w K mg base (L2.CX P w) 1 A.f__is_made_of ["text", "signs"] [] (spD K 2 (sp__is_made_of A)) := by
  obtain ⟨fd, F⟩ := T.d__is_made_of.ex
  exact kd_mk F sc__is_made_of (F.binds (fun _ _ _ _ _ _ us hl => match us, hl with | [_, _], _ => rfl)) (fun cdv Ar outer s H E hcl hr => by
    have hu65 : _ + 65 < cLine := Nat.lt_of_le_of_lt (Nat.add_le_add_left (by omega : 65 ≤ 16 * 0 + 200) _) (by have := hr.un; rw [Nat.add_assoc] at this; exact this)
    have hu := hu_of hr
    exact (dss_one (ds_ret (d_and (d_cmp (op_neA rfl hr.units) sim_ne (dv 0) d_str (nomark _)) (d_one (d_callB (cr_all rfl) sim_all (by rfl) T.z_all (by decide +kernel) (da_cons (d_lc (own := [("sign", 2)]) (by rfl) sc__is_made_of.nd (di_str (dv 0)) (blkOk_by (own := [("sign", 2)]) (N := ["text", "signs", "sign"]) (sc := defScope s__is_made_of) (by decide +kernel)) (fun _ _ _ _ _ => (dg_name (i := 2) sc__is_made_of.nd rfl (Or.inl rfl))) gw1 (fun _ _ _ _ _ => dps_nil) (fun _ _ _ _ _ => (d_cmp (op_inA rfl hu65) sim_in (dv 2) (dv 1) rfl))) da_nil))))))) (fun cdv Ar outer s H E => takes_of rfl rfl rfl rfl) (rd__is_made_of A)
theorem ok_is_name (T : Txt K mg A) (B1 : ∃ o, base.get? sysModules = some o) (G__is_made_of : Kp P w K mg base (L2.CX P w) 1 A.f__is_made_of ["text", "signs"] [] (spD K 2 (sp__is_made_of A))) : Kp P w K mg base (L2.CX P w) 2 A.f_is_name ["thing"] [] (spD K 1 (sp_is_name A)) := by
  obtain ⟨fd, F⟩ := T.d_is_name.ex
  exact kd_mk F sc_is_name (F.binds (fun _ _ _ _ _ _ us hl => match us, hl with | [_], _ => rfl)) (fun cdv Ar outer s H E hcl hr => by
    have hu65 : _ + 65 < cLine := Nat.lt_of_le_of_lt (Nat.add_le_add_left (by omega : 65 ≤ 16 * 1 + 200) _) (by have := hr.un; rw [Nat.add_assoc] at this; exact this)
    have hu := hu_of hr
    exact (dss_one (ds_ret (d_and (d_callB (call_isiA rfl) sim_isi (by rfl) T.z_isinstance (by decide +kernel) (da_cons (dv 0) (da_cons (d_c (pe_bltn (v := .ty "str") rfl T.z_str (by decide +kernel) rfl) (fun _ _ => .ty _)) da_nil))) (d_and (d_cmp op_le sim_le (d_callB (call_lenA rfl) sim_len (by rfl) T.z_len (by decide +kernel) (da_cons (dv 0) da_nil)) (d_c (pe_gv (by rfl) T.c__NAME_SIGNS) (fun _ _ => .int _)) (nomark _)) (d_one (d_fn G__is_made_of hcl (hr.mono (by decide)) (by rfl) T.d__is_made_of.mg T.d__is_made_of.kp (da_cons (dv 0) (da_cons (d_c (pe_gv (by rfl) T.c__LETTERS) (fun _ _ => .str _)) da_nil))))))))) (fun cdv Ar outer s H E => takes_of rfl rfl rfl rfl) (rd_is_name A)
theorem ok__need_whole (T : Txt K mg A) (B1 : ∃ o, base.get? sysModules = some o) (G_is_whole : Kp P w K mg base (L2.CX P w) 4 A.f_is_whole ["thing", "low", "high"] [] (spD K 3 (sp_is_whole A))) (G_NoNumber_init : Kp P w K mg base CX0 1 A.f_NoNumber_init ["self", "found"] [] (spErr "found" A.C_NoNumber)) : Kp P w K mg base (L2.CX P w) 5 A.f__need_whole ["thing", "high"] [] (spD K 2 (sp__need_whole A)) := by
  obtain ⟨fd, F⟩ := T.d__need_whole.ex
  exact kd_mk F sc__need_whole (F.binds (fun _ _ _ _ _ _ us hl => match us, hl with | [_, _], _ => rfl)) (fun cdv Ar outer s H E hcl hr => by
    have hu65 : _ + 65 < cLine := Nat.lt_of_le_of_lt (Nat.add_le_add_left (by omega : 65 ≤ 16 * 4 + 200) _) (by have := hr.un; rw [Nat.add_assoc] at this; exact this)
    have hu := hu_of hr
    exact (dss_one (ds_if (d_tnot (d_test (d_fn G_is_whole hcl (hr.mono (by decide)) (by rfl) T.d_is_whole.mg T.d_is_whole.kp (da_cons (dv 0) (da_cons d_int (da_cons (dv 1) da_nil)))))) (dss_one (ds_raise T.e_NoNumber G_NoNumber_init rfl hcl (hr.mono (by decide)) (by rfl) (da_cons (dv 0) da_nil))) dss_nil))) (fun cdv Ar outer s H E => takes_of rfl rfl rfl rfl) (rd__need_whole A)
theorem ok_Device_init (T : Txt K mg A) (B1 : ∃ o, base.get? sysModules = some o) (G_is_name : Kp P w K mg base (L2.CX P w) 2 A.f_is_name ["thing"] [] (spD K 1 (sp_is_name A))) (G__need_whole : Kp P w K mg base (L2.CX P w) 5 A.f__need_whole ["thing", "high"] [] (spD K 2 (sp__need_whole A))) (G_NoName_init : Kp P w K mg base CX0 1 A.f_NoName_init ["self", "found"] [] (spErr "found" A.C_NoName)) : Kx P w K mg base (L2.CX P w) 6 "__init__" "Device.__init__" s_Device_init [] ([("parent", .non), ("burn", .int 5), ("sip", .int 1), ("wake", .int 1), ("fall", .int 1), ("rest", .int 0)] : List (Str × V)) A.f_Device_init ["self", "name", "parent", "burn", "sip", "wake", "fall", "rest"] (spD K 8 (sp_Device_init A)) := by
  obtain ⟨fd, F⟩ := T.n_Device_init
  exact kx_mk F sc_Device_init (fun cdv Ar outer s H E hcl hr => by
    have hu65 : _ + 65 < cLine := Nat.lt_of_le_of_lt (Nat.add_le_add_left (by omega : 65 ≤ 16 * 5 + 200) _) (by have := hr.un; rw [Nat.add_assoc] at this; exact this)
    have hu := hu_of hr
    exact (dss_cons (ds_if (d_tnot (d_test (d_fn G_is_name hcl (hr.mono (by decide)) (by rfl) T.d_is_name.mg T.d_is_name.kp (da_cons (dv 1) da_nil)))) (dss_one (ds_raise T.e_NoName G_NoName_init rfl hcl (hr.mono (by decide)) (by rfl) (da_cons (dv 1) da_nil))) dss_nil)
      (dss_cons (ds_if (DW.dt (dw_and (d_tcmp op_notN sim_notN (dv 2) d_non (nomark _)) (dw_and1 (d_tnot (d_test (d_fn G_is_name hcl (hr.mono (by decide)) (by rfl) T.d_is_name.mg T.d_is_name.kp (da_cons (dv 2) da_nil))))))) (dss_one (ds_raise T.e_NoName G_NoName_init rfl hcl (hr.mono (by decide)) (by rfl) (da_cons (dv 2) da_nil))) dss_nil)
      (dss_cons (ds_expr (d_fn G__need_whole hcl (hr.mono (by decide)) (by rfl) T.d__need_whole.mg T.d__need_whole.kp (da_cons (dv 3) (da_cons (d_c (pe_gv (by rfl) T.c__MOST_BURN) (fun _ _ => .int _)) da_nil))))
      (dss_cons (ds_expr (d_fn G__need_whole hcl (hr.mono (by decide)) (by rfl) T.d__need_whole.mg T.d__need_whole.kp (da_cons (dv 4) (da_cons (dv 3) da_nil))))
      (dss_cons (ds_expr (d_fn G__need_whole hcl (hr.mono (by decide)) (by rfl) T.d__need_whole.mg T.d__need_whole.kp (da_cons (dv 5) (da_cons (d_c (pe_gv (by rfl) T.c__MOST_TURNS) (fun _ _ => .int _)) da_nil))))
      (dss_cons (ds_expr (d_fn G__need_whole hcl (hr.mono (by decide)) (by rfl) T.d__need_whole.mg T.d__need_whole.kp (da_cons (dv 6) (da_cons (d_c (pe_gv (by rfl) T.c__MOST_TURNS) (fun _ _ => .int _)) da_nil))))
      (dss_cons (ds_expr (d_fn G__need_whole hcl (hr.mono (by decide)) (by rfl) T.d__need_whole.mg T.d__need_whole.kp (da_cons (dv 7) (da_cons (d_c (pe_gv (by rfl) T.c__MOST_REST) (fun _ _ => .int _)) da_nil))))
      (dss_one (ds_fld rfl T.cls_Device T.nf_Device__told (dv 0) (d_tup (da_cons (dv 1) (da_cons (dv 2) (da_cons (dv 3) (da_cons (dv 4) (da_cons (dv 5) (da_cons (dv 6) (da_cons (dv 7) da_nil)))))))) rfl)))))))))) (fun cdv Ar outer s H E => takes_of rfl rfl rfl rfl) (rd_Device_init A)
theorem ok_device_of (T : Txt K mg A) (B1 : ∃ o, base.get? sysModules = some o) (G_Device_init : Kx P w K mg base (L2.CX P w) 6 "__init__" "Device.__init__" s_Device_init [] ([("parent", .non), ("burn", .int 5), ("sip", .int 1), ("wake", .int 1), ("fall", .int 1), ("rest", .int 0)] : List (Str × V)) A.f_Device_init ["self", "name", "parent", "burn", "sip", "wake", "fall", "rest"] (spD K 8 (sp_Device_init A))) : Kp P w K mg base (L2.CX P w) 8 A.f_device_of ["told"] [] (spD K 1 (sp_device_of A)) := by
  obtain ⟨fd, F⟩ := T.d_device_of.ex
  exact kd_mk F sc_device_of (F.binds (fun _ _ _ _ _ _ us hl => match us, hl with | [_], _ => rfl)) (fun cdv Ar outer s H E hcl hr => by
    have hu65 : _ + 65 < cLine := Nat.lt_of_le_of_lt (Nat.add_le_add_left (by omega : 65 ≤ 16 * 7 + 200) _) (by have := hr.un; rw [Nat.add_assoc] at this; exact this)
    have hu := hu_of hr
    exact (dss_cons (ds_asg (dv 0) (dg_tup (m := 7) rfl rfl (dgs_cons (dg_name (i := 1) sc_device_of.nd rfl (Or.inl rfl)) (dgs_cons (dg_name (i := 2) sc_device_of.nd rfl (Or.inl rfl)) (dgs_cons (dg_name (i := 3) sc_device_of.nd rfl (Or.inl rfl)) (dgs_cons (dg_name (i := 4) sc_device_of.nd rfl (Or.inl rfl)) (dgs_cons (dg_name (i := 5) sc_device_of.nd rfl (Or.inl rfl)) (dgs_cons (dg_name (i := 6) sc_device_of.nd rfl (Or.inl rfl)) (dgs_cons (dg_name (i := 7) sc_device_of.nd rfl (Or.inl rfl)) dgs_nil)))))))))
      (dss_one (ds_ret (d_new (md := []) CRL.nil G_Device_init T.mk_Device hcl (hr.mono (by decide)) (fun _ F => kb_Device_init_2_parent_burn_sip_wake_fall_rest F) (by rfl) T.m_Device (da_cons (dv 1) da_nil) (dk_one (dv 2) (dk_one (dv 3) (dk_one (dv 4) (dk_one (dv 5) (dk_one (dv 6) (dk_one (dv 7) dk_nil))))))))))) (fun cdv Ar outer s H E => takes_of rfl rfl rfl rfl) (rd_device_of A)
theorem ok_is_told (T : Txt K mg A) (B1 : ∃ o, base.get? sysModules = some o) (G_device_of : Kp P w K mg base (L2.CX P w) 8 A.f_device_of ["told"] [] (spD K 1 (sp_device_of A))) : Kp P w K mg base (L2.CX P w) 9 A.f_is_told ["thing"] [] (spD K 1 (sp_is_told A)) := by
  obtain ⟨fd, F⟩ := T.d_is_told.ex
  exact kd_mk F sc_is_told (F.binds (fun _ _ _ _ _ _ us hl => match us, hl with | [_], _ => rfl)) (fun cdv Ar outer s H E hcl hr => by
    have hu65 : _ + 65 < cLine := Nat.lt_of_le_of_lt (Nat.add_le_add_left (by omega : 65 ≤ 16 * 8 + 200) _) (by have := hr.un; rw [Nat.add_assoc] at this; exact this)
    have hu := hu_of hr
    exact (dss_cons (ds_if (DW.dt (dw_or (d_tnot (d_test (d_callB (call_isiA rfl) sim_isi (by rfl) T.z_isinstance (by decide +kernel) (da_cons (dv 0) (da_cons (d_c (pe_bltn (v := .ty "tuple") rfl T.z_tuple (by decide +kernel) rfl) (fun _ _ => .ty _)) da_nil))))) (dw_or1 (d_tcmp (op_neA rfl hr.units) sim_ne (d_callB (call_lenA rfl) sim_len (by rfl) T.z_len (by decide +kernel) (da_cons (dv 0) da_nil)) (d_c (pe_gv (by rfl) T.c__MANY_TOLD) (fun _ _ => .int _)) (nomark _))))) (dss_one (ds_ret d_bl)) dss_nil)
      (dss_cons (ds_tryT (mt_ok T) rfl rfl rfl sc_is_told.nd (fun pn xe po => (dss_one (ds_expr (d_fn G_device_of hcl (hr.mono (by decide)) (by rfl) T.d_device_of.mg T.d_device_of.kp (da_cons (dv 0) da_nil))))) (h_tup2 ⟨by rfl, by decide, Or.inl T.e_NoName.mg⟩ ⟨by rfl, by decide, Or.inl T.e_NoNumber.mg⟩ (fun a C dd oe pn hz hf => (dss_one (ds_ret d_bl)))))
      (dss_one (ds_ret d_bl))))) (fun cdv Ar outer s H E => takes_of rfl rfl rfl rfl) (rd_is_told A)
theorem ok_is_link (T : Txt K mg A) (B1 : ∃ o, base.get? sysModules = some o) (G_is_name : Kp P w K mg base (L2.CX P w) 2 A.f_is_name ["thing"] [] (spD K 1 (sp_is_name A))) : Kp P w K mg base (L2.CX P w) 3 A.f_is_link ["thing"] [] (spD K 1 (sp_is_link A)) := by
  obtain ⟨fd, F⟩ := T.d_is_link.ex
  exact kd_mk F sc_is_link (F.binds (fun _ _ _ _ _ _ us hl => match us, hl with | [_], _ => rfl)) (fun cdv Ar outer s H E hcl hr => by
    have hu65 : _ + 65 < cLine := Nat.lt_of_le_of_lt (Nat.add_le_add_left (by omega : 65 ≤ 16 * 2 + 200) _) (by have := hr.un; rw [Nat.add_assoc] at this; exact this)
    have hu := hu_of hr
    exact (dss_cons (ds_if (DW.dt (dw_or (d_tnot (d_test (d_callB (call_isiA rfl) sim_isi (by rfl) T.z_isinstance (by decide +kernel) (da_cons (dv 0) (da_cons (d_c (pe_bltn (v := .ty "tuple") rfl T.z_tuple (by decide +kernel) rfl) (fun _ _ => .ty _)) da_nil))))) (dw_or1 (d_tcmp (op_neA rfl hr.units) sim_ne (d_callB (call_lenA rfl) sim_len (by rfl) T.z_len (by decide +kernel) (da_cons (dv 0) da_nil)) d_int (nomark _))))) (dss_one (ds_ret d_bl)) dss_nil)
      (dss_one (ds_ret (d_and (d_fn G_is_name hcl (hr.mono (by decide)) (by rfl) T.d_is_name.mg T.d_is_name.kp (da_cons (d_ix (ix_all rfl hu) sim_ix (dv 0) d_int (fun _ _ => rfl)) da_nil)) (d_and (d_fn G_is_name hcl (hr.mono (by decide)) (by rfl) T.d_is_name.mg T.d_is_name.kp (da_cons (d_ix (ix_all rfl hu) sim_ix (dv 0) d_int (fun _ _ => rfl)) da_nil)) (d_one (d_cmp (op_neA rfl hr.units) sim_ne (d_ix (ix_all rfl hu) sim_ix (dv 0) d_int (fun _ _ => rfl)) (d_ix (ix_all rfl hu) sim_ix (dv 0) d_int (fun _ _ => rfl)) (nomark _))))))))) (fun cdv Ar outer s H E => takes_of rfl rfl rfl rfl) (rd_is_link A)
theorem ok__is_deed (T : Txt K mg A) (B1 : ∃ o, base.get? sysModules = some o) (G_is_name : Kp P w K mg base (L2.CX P w) 2 A.f_is_name ["thing"] [] (spD K 1 (sp_is_name A))) : Kp P w K mg base (L2.CX P w) 3 A.f__is_deed ["deed", "name"] [] (spD K 2 (sp__is_deed A)) := by
  obtain ⟨fd, F⟩ := T.d__is_deed.ex
  exact kd_mk F sc__is_deed (F.binds (fun _ _ _ _ _ _ us hl => match us, hl with | [_, _], _ => rfl)) (fun cdv Ar outer s H E hcl hr => by
    have hu65 : _ + 65 < cLine := Nat.lt_of_le_of_lt (Nat.add_le_add_left (by omega : 65 ≤ 16 * 2 + 200) _) (by have := hr.un; rw [Nat.add_assoc] at this; exact this)
    have hu := hu_of hr
    exact (dss_cons (ds_if (d_tcmp (op_inW rfl hu65) sim_inW (dv 0) (d_ct T.kt__DEVICE_DEEDS rfl T.m__DEVICE_DEEDS) rfl) (dss_one (ds_ret (d_fn G_is_name hcl (hr.mono (by decide)) (by rfl) T.d_is_name.mg T.d_is_name.kp (da_cons (dv 1) da_nil)))) dss_nil)
      (dss_one (ds_ret (d_and (d_cmp (op_inW rfl hu65) sim_inW (dv 0) (d_ct T.kt__MACHINE_DEEDS rfl T.m__MACHINE_DEEDS) rfl) (d_one (d_cmp op_isN sim_isN (dv 1) d_non (nomark _)))))))) (fun cdv Ar outer s H E => takes_of rfl rfl rfl rfl) (rd__is_deed A)
theorem ok__is_end (T : Txt K mg A) (B1 : ∃ o, base.get? sysModules = some o)  : Kp P w K mg base (L2.CX P w) 1 A.f__is_end ["deed", "word"] [] (spD K 2 (sp__is_end A)) := by
  obtain ⟨fd, F⟩ := T.d__is_end.ex
  exact kd_mk F sc__is_end (F.binds (fun _ _ _ _ _ _ us hl => match us, hl with | [_, _], _ => rfl)) (fun cdv Ar outer s H E hcl hr => by
    have hu65 : _ + 65 < cLine := Nat.lt_of_le_of_lt (Nat.add_le_add_left (by omega : 65 ≤ 16 * 0 + 200) _) (by have := hr.un; rw [Nat.add_assoc] at this; exact this)
    have hu := hu_of hr
    exact (dss_one (ds_ret (d_or (d_cmp (op_inW rfl hu65) sim_inW (dv 1) (d_ct T.kt__ANSWERS rfl T.m__ANSWERS) rfl) (d_one (d_and (d_cmp (op_eqW rfl hu65) sim_eqW (dv 0) d_str (nomark _)) (d_one (d_cmp (op_eqW rfl hu65) sim_eqW (dv 1) d_str (nomark _))))))))) (fun cdv Ar outer s H E => takes_of rfl rfl rfl rfl) (rd__is_end A)
theorem ok__are_links (T : Txt K mg A) (B1 : ∃ o, base.get? sysModules = some o) (G_is_link : Kp P w K mg base (L2.CX P w) 3 A.f_is_link ["thing"] [] (spD K 1 (sp_is_link A))) : Kp P w K mg base (L2.CX P w) 4 A.f__are_links ["thing"] [] (spD K 1 (sp__are_links A)) := by
  obtain ⟨fd, F⟩ := T.d__are_links.ex
  exact kd_mk F sc__are_links (F.binds (fun _ _ _ _ _ _ us hl => match us, hl with | [_], _ => rfl)) (fun cdv Ar outer s H E hcl hr => by
    have hu65 : _ + 65 < cLine := Nat.lt_of_le_of_lt (Nat.add_le_add_left (by omega : 65 ≤ 16 * 3 + 200) _) (by have := hr.un; rw [Nat.add_assoc] at this; exact this)
    have hu := hu_of hr
    exact (dss_cons (ds_if (DW.dt (dw_or (d_tnot (d_test (d_callB (call_isiA rfl) sim_isi (by rfl) T.z_isinstance (by decide +kernel) (da_cons (dv 0) (da_cons (d_c (pe_bltn (v := .ty "tuple") rfl T.z_tuple (by decide +kernel) rfl) (fun _ _ => .ty _)) da_nil))))) (dw_or1 (d_tcmp op_gt sim_gt (d_callB (call_lenA rfl) sim_len (by rfl) T.z_len (by decide +kernel) (da_cons (dv 0) da_nil)) (d_c (pe_gv (by rfl) T.c_MOST_LINKS) (fun _ _ => .int _)) (nomark _))))) (dss_one (ds_ret d_bl)) dss_nil)
      (dss_one (ds_ret (d_callB (cr_all rfl) sim_all (by rfl) T.z_all (by decide +kernel) (da_cons (d_lc (own := [("link", 1)]) (by rfl) sc__are_links.nd (di_tup rfl (dv 0)) (blkOk_by (own := [("link", 1)]) (N := ["thing", "link"]) (sc := defScope s__are_links) (by decide +kernel)) (fun _ _ _ _ _ => (dg_name (i := 1) sc__are_links.nd rfl (Or.inl rfl))) gw1 (fun _ _ _ _ _ => dps_nil) (fun _ _ _ _ _ => (d_fn G_is_link hcl (hr.mono (by decide)) (by rfl) T.d_is_link.mg T.d_is_link.kp (da_cons (dv 1) da_nil)))) da_nil)))))) (fun cdv Ar outer s H E => takes_of rfl rfl rfl rfl) (rd__are_links A)
theorem ok__is_device_word (T : Txt K mg A) (B1 : ∃ o, base.get? sysModules = some o)  : Kp P w K mg base (L2.CX P w) 1 A.f__is_device_word ["word"] [] (spD K 1 (sp__is_device_word A)) := by
  obtain ⟨fd, F⟩ := T.d__is_device_word.ex
  exact kd_mk F sc__is_device_word (F.binds (fun _ _ _ _ _ _ us hl => match us, hl with | [_], _ => rfl)) (fun cdv Ar outer s H E hcl hr => by
    have hu65 : _ + 65 < cLine := Nat.lt_of_le_of_lt (Nat.add_le_add_left (by omega : 65 ≤ 16 * 0 + 200) _) (by have := hr.un; rw [Nat.add_assoc] at this; exact this)
    have hu := hu_of hr
    exact (dss_one (ds_ret (d_or (d_cmp (op_inW rfl hu65) sim_inW (dv 0) (d_ct T.kt_STATES rfl T.m_STATES) rfl) (d_or (d_cmp (op_inW rfl hu65) sim_inW (dv 0) (d_ct T.kt_PHASES rfl T.m_PHASES) rfl) (d_one (d_cmp (op_inW rfl hu65) sim_inW (dv 0) (d_ct T.kt__UNDONE rfl T.m__UNDONE) rfl))))))) (fun cdv Ar outer s H E => takes_of rfl rfl rfl rfl) (rd__is_device_word A)
theorem ok__are_words (T : Txt K mg A) (B1 : ∃ o, base.get? sysModules = some o) (G__is_deed : Kp P w K mg base (L2.CX P w) 3 A.f__is_deed ["deed", "name"] [] (spD K 2 (sp__is_deed A))) (G__is_end : Kp P w K mg base (L2.CX P w) 1 A.f__is_end ["deed", "word"] [] (spD K 2 (sp__is_end A))) (G_is_name : Kp P w K mg base (L2.CX P w) 2 A.f_is_name ["thing"] [] (spD K 1 (sp_is_name A))) (G_is_told : Kp P w K mg base (L2.CX P w) 9 A.f_is_told ["thing"] [] (spD K 1 (sp_is_told A))) (G__are_links : Kp P w K mg base (L2.CX P w) 4 A.f__are_links ["thing"] [] (spD K 1 (sp__are_links A))) (G__is_device_word : Kp P w K mg base (L2.CX P w) 1 A.f__is_device_word ["word"] [] (spD K 1 (sp__is_device_word A))) : Kp P w K mg base (L2.CX P w) 10 A.f__are_words ["words"] [] (spD K 1 (sp__are_words A)) := by
  obtain ⟨fd, F⟩ := T.d__are_words.ex
  exact kd_mk F sc__are_words (F.binds (fun _ _ _ _ _ _ us hl => match us, hl with | [_], _ => rfl)) (fun cdv Ar outer s H E hcl hr => by
    have hu65 : _ + 65 < cLine := Nat.lt_of_le_of_lt (Nat.add_le_add_left (by omega : 65 ≤ 16 * 9 + 200) _) (by have := hr.un; rw [Nat.add_assoc] at this; exact this)
    have hu := hu_of hr
    exact (dss_cons (ds_set (i := 1) sc__are_words.nd rfl (Or.inl rfl) (d_ix (ix_all rfl hu) sim_ix (dv 0) d_int (fun _ _ => rfl)))
      (dss_cons (ds_if (d_tcmp (op_eqW rfl hu65) sim_eqW (dv 1) d_str (nomark _)) (dss_one (ds_ret (d_and (d_cmp (op_eqA rfl hr.units) sim_eq (d_callB (call_lenA rfl) sim_len (by rfl) T.z_len (by decide +kernel) (da_cons (dv 0) da_nil)) d_int (nomark _)) (d_one (d_fn G__is_deed hcl (hr.mono (by decide)) (by rfl) T.d__is_deed.mg T.d__is_deed.kp (da_cons (d_ix (ix_all rfl hu) sim_ix (dv 0) d_int (fun _ _ => rfl)) (da_cons (d_ix (ix_all rfl hu) sim_ix (dv 0) d_int (fun _ _ => rfl)) da_nil))))))) dss_nil)
      (dss_cons (ds_if (d_tcmp (op_eqW rfl hu65) sim_eqW (dv 1) d_str (nomark _)) (dss_one (ds_ret (d_and (d_cmp (op_eqA rfl hr.units) sim_eq (d_callB (call_lenA rfl) sim_len (by rfl) T.z_len (by decide +kernel) (da_cons (dv 0) da_nil)) d_int (nomark _)) (d_and (d_fn G__is_deed hcl (hr.mono (by decide)) (by rfl) T.d__is_deed.mg T.d__is_deed.kp (da_cons (d_ix (ix_all rfl hu) sim_ix (dv 0) d_int (fun _ _ => rfl)) (da_cons (d_ix (ix_all rfl hu) sim_ix (dv 0) d_int (fun _ _ => rfl)) da_nil))) (d_one (d_fn G__is_end hcl (hr.mono (by decide)) (by rfl) T.d__is_end.mg T.d__is_end.kp (da_cons (d_ix (ix_all rfl hu) sim_ix (dv 0) d_int (fun _ _ => rfl)) (da_cons (d_ix (ix_all rfl hu) sim_ix (dv 0) d_int (fun _ _ => rfl)) da_nil)))))))) dss_nil)
      (dss_cons (ds_if (d_tcmp (op_eqW rfl hu65) sim_eqW (dv 1) d_str (nomark _)) (dss_one (ds_ret (d_and (d_cmp (op_eqA rfl hr.units) sim_eq (d_callB (call_lenA rfl) sim_len (by rfl) T.z_len (by decide +kernel) (da_cons (dv 0) da_nil)) d_int (nomark _)) (d_and (d_fn G_is_name hcl (hr.mono (by decide)) (by rfl) T.d_is_name.mg T.d_is_name.kp (da_cons (d_ix (ix_all rfl hu) sim_ix (dv 0) d_int (fun _ _ => rfl)) da_nil)) (d_one (d_fn G_is_name hcl (hr.mono (by decide)) (by rfl) T.d_is_name.mg T.d_is_name.kp (da_cons (d_ix (ix_all rfl hu) sim_ix (dv 0) d_int (fun _ _ => rfl)) da_nil))))))) dss_nil)
      (dss_cons (ds_if (d_tcmp (op_eqW rfl hu65) sim_eqW (dv 1) d_str (nomark _)) (dss_one (ds_ret (d_and (d_cmp (op_eqA rfl hr.units) sim_eq (d_callB (call_lenA rfl) sim_len (by rfl) T.z_len (by decide +kernel) (da_cons (dv 0) da_nil)) d_int (nomark _)) (d_and (d_fn G_is_name hcl (hr.mono (by decide)) (by rfl) T.d_is_name.mg T.d_is_name.kp (da_cons (d_ix (ix_all rfl hu) sim_ix (dv 0) d_int (fun _ _ => rfl)) da_nil)) (d_one (d_cmp (op_inW rfl hu65) sim_inW (d_ix (ix_all rfl hu) sim_ix (dv 0) d_int (fun _ _ => rfl)) (d_ct T.kt_BELLS rfl T.m_BELLS) rfl)))))) dss_nil)
      (dss_cons (ds_if (d_tcmp (op_eqW rfl hu65) sim_eqW (dv 1) d_str (nomark _)) (dss_one (ds_ret (d_and (d_cmp (op_eqA rfl hr.units) sim_eq (d_callB (call_lenA rfl) sim_len (by rfl) T.z_len (by decide +kernel) (da_cons (dv 0) da_nil)) d_int (nomark _)) (d_and (d_fn G_is_told hcl (hr.mono (by decide)) (by rfl) T.d_is_told.mg T.d_is_told.kp (da_cons (d_ix (ix_all rfl hu) sim_ix (dv 0) d_int (fun _ _ => rfl)) da_nil)) (d_one (d_fn G__are_links hcl (hr.mono (by decide)) (by rfl) T.d__are_links.mg T.d__are_links.kp (da_cons (d_ix (ix_all rfl hu) sim_ix (dv 0) d_int (fun _ _ => rfl)) da_nil))))))) dss_nil)
      (dss_one (ds_ret (d_and (d_cmp (op_eqA rfl hr.units) sim_eq (d_callB (call_lenA rfl) sim_len (by rfl) T.z_len (by decide +kernel) (da_cons (dv 0) da_nil)) d_int (nomark _)) (d_and (d_fn G__is_device_word hcl (hr.mono (by decide)) (by rfl) T.d__is_device_word.mg T.d__is_device_word.kp (da_cons (dv 1) da_nil)) (d_one (d_fn G_is_name hcl (hr.mono (by decide)) (by rfl) T.d_is_name.mg T.d_is_name.kp (da_cons (d_ix (ix_all rfl hu) sim_ix (dv 0) d_int (fun _ _ => rfl)) da_nil)))))))))))))) (fun cdv Ar outer s H E => takes_of rfl rfl rfl rfl) (rd__are_words A)
theorem ok_is_row (T : Txt K mg A) (B1 : ∃ o, base.get? sysModules = some o) (G_is_at_least : Kp P w K mg base (L2.CX P w) 3 A.f_is_at_least ["thing", "low"] [] (spD K 2 (sp_is_at_least A))) (G__are_words : Kp P w K mg base (L2.CX P w) 10 A.f__are_words ["words"] [] (spD K 1 (sp__are_words A))) : Kp P w K mg base (L2.CX P w) 11 A.f_is_row ["thing"] [] (spD K 1 (sp_is_row A)) := by
  obtain ⟨fd, F⟩ := T.d_is_row.ex
  exact kd_mk F sc_is_row (F.binds (fun _ _ _ _ _ _ us hl => match us, hl with | [_], _ => rfl)) (fun cdv Ar outer s H E hcl hr => by
    have hu65 : _ + 65 < cLine := Nat.lt_of_le_of_lt (Nat.add_le_add_left (by omega : 65 ≤ 16 * 10 + 200) _) (by have := hr.un; rw [Nat.add_assoc] at this; exact this)
    have hu := hu_of hr
    exact (dss_cons (ds_if (DW.dt (dw_or (d_tnot (d_test (d_callB (call_isiA rfl) sim_isi (by rfl) T.z_isinstance (by decide +kernel) (da_cons (dv 0) (da_cons (d_c (pe_bltn (v := .ty "tuple") rfl T.z_tuple (by decide +kernel) rfl) (fun _ _ => .ty _)) da_nil))))) (dw_or1 (d_tcmp op_lt sim_lt (d_callB (call_lenA rfl) sim_len (by rfl) T.z_len (by decide +kernel) (da_cons (dv 0) da_nil)) d_int (nomark _))))) (dss_one (ds_ret d_bl)) dss_nil)
      (dss_one (ds_ret (d_and (d_fn G_is_at_least hcl (hr.mono (by decide)) (by rfl) T.d_is_at_least.mg T.d_is_at_least.kp (da_cons (d_ix (ix_all rfl hu) sim_ix (dv 0) d_int (fun _ _ => rfl)) (da_cons d_int da_nil))) (d_one (d_fn G__are_words hcl (hr.mono (by decide)) (by rfl) T.d__are_words.mg T.d__are_words.kp (da_cons (d_slice rfl (dv 0) (do_some d_int) do_none) da_nil)))))))) (fun cdv Ar outer s H E => takes_of rfl rfl rfl rfl) (rd_is_row A)
theorem ok_Log_init (T : Txt K mg A) (B1 : ∃ o, base.get? sysModules = some o)  : Kx P w K mg base (L2.CX P w) 1 "__init__" "Log.__init__" s_Log_init [] ([] : List (Str × V)) A.f_Log_init ["self"] (spD K 1 (sp_Log_init A)) := by
  obtain ⟨fd, F⟩ := T.n_Log_init
  exact kx_mk F sc_Log_init (fun cdv Ar outer s H E hcl hr => by
    have hu65 : _ + 65 < cLine := Nat.lt_of_le_of_lt (Nat.add_le_add_left (by omega : 65 ≤ 16 * 0 + 200) _) (by have := hr.un; rw [Nat.add_assoc] at this; exact this)
    have hu := hu_of hr
    exact (dss_one (ds_fld rfl T.cls_Log T.nf_Log__rows (dv 0) (d_lstC da_nil) rfl))) (fun cdv Ar outer s H E => takes_of rfl rfl rfl rfl) (rd_Log_init A)
theorem ok_Log_add (T : Txt K mg A) (B1 : ∃ o, base.get? sysModules = some o) (G_is_at_least : Kp P w K mg base (L2.CX P w) 3 A.f_is_at_least ["thing", "low"] [] (spD K 2 (sp_is_at_least A))) (G_is_row : Kp P w K mg base (L2.CX P w) 11 A.f_is_row ["thing"] [] (spD K 1 (sp_is_row A))) (G_NoNumber_init : Kp P w K mg base CX0 1 A.f_NoNumber_init ["self", "found"] [] (spErr "found" A.C_NoNumber)) (G_NoLog_init : Kp P w K mg base CX0 1 A.f_NoLog_init ["self", "found"] [] (spErr "found" A.C_NoLog)) : Kp P w K mg base (L2.CX P w) 12 A.f_Log_add ["self", "turn", "words"] [] (spD K 3 (sp_Log_add A)) := by
  obtain ⟨fd, F⟩ := T.n_Log_add
  exact kd_mk F sc_Log_add (F.binds (fun _ _ _ _ _ _ us hl => match us, hl with | [_, _, _], _ => rfl)) (fun cdv Ar outer s H E hcl hr => by
    have hu65 : _ + 65 < cLine := Nat.lt_of_le_of_lt (Nat.add_le_add_left (by omega : 65 ≤ 16 * 11 + 200) _) (by have := hr.un; rw [Nat.add_assoc] at this; exact this)
    have hu := hu_of hr
    exact (dss_cons (ds_if (d_tnot (d_test (d_fn G_is_at_least hcl (hr.mono (by decide)) (by rfl) T.d_is_at_least.mg T.d_is_at_least.kp (da_cons (dv 1) (da_cons d_int da_nil))))) (dss_one (ds_raise T.e_NoNumber G_NoNumber_init rfl hcl (hr.mono (by decide)) (by rfl) (da_cons (dv 1) da_nil))) dss_nil)
      (dss_cons (ds_if (DW.dt (dw_or (d_tnot (d_test (d_callB (call_isiA rfl) sim_isi (by rfl) T.z_isinstance (by decide +kernel) (da_cons (dv 2) (da_cons (d_c (pe_bltn (v := .ty "tuple") rfl T.z_tuple (by decide +kernel) rfl) (fun _ _ => .ty _)) da_nil))))) (dw_or1 (d_tnot (d_test (d_fn G_is_row hcl (hr.mono (by decide)) (by rfl) T.d_is_row.mg T.d_is_row.kp (da_cons (d_tup (da_cons (dv 1) (da_star rfl (dv 2) da_nil))) da_nil))))))) (dss_one (ds_raise T.e_NoLog G_NoLog_init rfl hcl (hr.mono (by decide)) (by rfl) (da_cons (dv 2) da_nil))) dss_nil)
      (dss_cons (ds_if (DW.dt (dw_and (d_tcmp (op_emN rfl (Nat.lt_of_le_of_lt (Nat.le_add_right _ 65) hu65)) sim_of (d_fld rfl T.cls_Log T.nf_Log__rows (dv 0) rfl) (d_lst da_nil) (nomark _)) (dw_and1 (d_tcmp op_lt sim_lt (dv 1) (d_ix (ix_all rfl hu) sim_ix (d_ix (ix_all rfl hu) sim_ix (d_fld rfl T.cls_Log T.nf_Log__rows (dv 0) rfl) (d_un un_neg sim_neg d_int) (fun _ _ => rfl)) d_int (fun _ _ => rfl)) (nomark _))))) (dss_one (ds_raise T.e_NoNumber G_NoNumber_init rfl hcl (hr.mono (by decide)) (by rfl) (da_cons (dv 1) da_nil))) dss_nil)
      (dss_one (ds_expr (d_bm rfl PySem.F.plainAttrs_list PySem.F.slot_list_append PySem.F.type_list_append mt_append sim_append (d_fld rfl T.cls_Log T.nf_Log__rows (dv 0) rfl) (da_cons (d_tup (da_cons (dv 1) (da_star rfl (dv 2) da_nil))) da_nil)))))))) (fun cdv Ar outer s H E => takes_of rfl rfl rfl rfl) (rd_Log_add A)
theorem ok_Log_rows (T : Txt K mg A) (B1 : ∃ o, base.get? sysModules = some o)  : Kp P w K mg base (L2.CX P w) 1 A.f_Log_rows ["self"] [] (spD K 1 (sp_Log_rows A)) := by
  obtain ⟨fd, F⟩ := T.n_Log_rows
  exact kd_mk F sc_Log_rows (F.binds (fun _ _ _ _ _ _ us hl => match us, hl with | [_], _ => rfl)) (fun cdv Ar outer s H E hcl hr => by
    have hu65 : _ + 65 < cLine := Nat.lt_of_le_of_lt (Nat.add_le_add_left (by omega : 65 ≤ 16 * 0 + 200) _) (by have := hr.un; rw [Nat.add_assoc] at this; exact this)
    have hu := hu_of hr
    exact (dss_one (ds_ret (d_callTy (call_listA rfl) sim_listC (by rfl) T.z_list (by decide +kernel) (da_cons (d_fld rfl T.cls_Log T.nf_Log__rows (dv 0) rfl) da_nil))))) (fun cdv Ar outer s H E => takes_of rfl rfl rfl rfl) (rd_Log_rows A)
theorem ok_Log_last (T : Txt K mg A) (B1 : ∃ o, base.get? sysModules = some o) (G_is_whole : Kp P w K mg base (L2.CX P w) 4 A.f_is_whole ["thing", "low", "high"] [] (spD K 3 (sp_is_whole A))) (G_NoNumber_init : Kp P w K mg base CX0 1 A.f_NoNumber_init ["self", "found"] [] (spErr "found" A.C_NoNumber)) : Kx P w K mg base (L2.CX P w) 5 "last" "Log.last" s_Log_last [.int 1] ([] : List (Str × V)) A.f_Log_last ["self", "many"] (spD K 2 (sp_Log_last A)) := by
  obtain ⟨fd, F⟩ := T.n_Log_last
  exact kx_mk F sc_Log_last (fun cdv Ar outer s H E hcl hr => by
    have hu65 : _ + 65 < cLine := Nat.lt_of_le_of_lt (Nat.add_le_add_left (by omega : 65 ≤ 16 * 4 + 200) _) (by have := hr.un; rw [Nat.add_assoc] at this; exact this)
    have hu := hu_of hr
    exact (dss_cons (ds_if (d_tnot (d_test (d_fn G_is_whole hcl (hr.mono (by decide)) (by rfl) T.d_is_whole.mg T.d_is_whole.kp (da_cons (dv 1) (da_cons d_int (da_cons (d_c (pe_gv (by rfl) T.c__MOST_LAST) (fun _ _ => .int _)) da_nil)))))) (dss_one (ds_raise T.e_NoNumber G_NoNumber_init rfl hcl (hr.mono (by decide)) (by rfl) (da_cons (dv 1) da_nil))) dss_nil)
      (dss_one (ds_ret (d_sliceC rfl (d_fld rfl T.cls_Log T.nf_Log__rows (dv 0) rfl) (do_some (d_un un_neg sim_neg (dv 1))) do_none))))) (fun cdv Ar outer s H E => takes_of rfl rfl rfl rfl) (rd_Log_last A)
theorem ok_Log_copied (T : Txt K mg A) (B1 : ∃ o, base.get? sysModules = some o) (G_Log_init : Kx P w K mg base (L2.CX P w) 1 "__init__" "Log.__init__" s_Log_init [] ([] : List (Str × V)) A.f_Log_init ["self"] (spD K 1 (sp_Log_init A))) (G_Log_rows : Kp P w K mg base (L2.CX P w) 1 A.f_Log_rows ["self"] [] (spD K 1 (sp_Log_rows A))) : Kp P w K mg base (L2.CX P w) 3 A.f_Log_copied ["self"] [] (spD K 1 (sp_Log_copied A)) := by
  obtain ⟨fd, F⟩ := T.n_Log_copied
  exact kd_mk F sc_Log_copied (F.binds (fun _ _ _ _ _ _ us hl => match us, hl with | [_], _ => rfl)) (fun cdv Ar outer s H E hcl hr => by
    have hu65 : _ + 65 < cLine := Nat.lt_of_le_of_lt (Nat.add_le_add_left (by omega : 65 ≤ 16 * 2 + 200) _) (by have := hr.un; rw [Nat.add_assoc] at this; exact this)
    have hu := hu_of hr
    exact (dss_cons (ds_set (i := 1) sc_Log_copied.nd rfl (Or.inl rfl) (d_new0 (md := []) CRL.nil G_Log_init T.mk_Log hcl (hr.mono (by decide)) (fun _ F => kb_Log_init_1_K0 F) (by rfl) T.m_Log dk_nil))
      (dss_cons (ds_fld rfl T.cls_Log T.nf_Log__rows (dv 1) (d_mth0 T.cls_Log T.me_Log_rows G_Log_rows hcl (hr.mono (by decide)) (dv 0)) rfl)
      (dss_one (ds_ret (dv 1)))))) (fun cdv Ar outer s H E => takes_of rfl rfl rfl rfl) (rd_Log_copied A)
theorem ok_Log_len (T : Txt K mg A) (B1 : ∃ o, base.get? sysModules = some o)  : Kp P w K mg base (L2.CX P w) 1 A.f_Log_len ["self"] [] (spD K 1 (sp_Log_len A)) := by
  obtain ⟨fd, F⟩ := T.n_Log_len
  exact kd_mk F sc_Log_len (F.binds (fun _ _ _ _ _ _ us hl => match us, hl with | [_], _ => rfl)) (fun cdv Ar outer s H E hcl hr => by
    have hu65 : _ + 65 < cLine := Nat.lt_of_le_of_lt (Nat.add_le_add_left (by omega : 65 ≤ 16 * 0 + 200) _) (by have := hr.un; rw [Nat.add_assoc] at this; exact this)
    have hu := hu_of hr
    exact (dss_one (ds_ret (d_callB (call_lenA rfl) sim_len (by rfl) T.z_len (by decide +kernel) (da_cons (d_fld rfl T.cls_Log T.nf_Log__rows (dv 0) rfl) da_nil))))) (fun cdv Ar outer s H E => takes_of rfl rfl rfl rfl) (rd_Log_len A)
theorem ok__law_cell (T : Txt K mg A) (B1 : ∃ o, base.get? sysModules = some o)  : Kp P w K mg base (L2.CX P w) 1 A.f__law_cell ["_law_script", "_law_k"] [] (spD K 2 (sp__law_cell A)) := by
  obtain ⟨fd, F⟩ := T.d__law_cell.ex
  exact kd_mk F sc__law_cell (F.binds (fun _ _ _ _ _ _ us hl => match us, hl with | [_, _], _ => rfl)) (fun cdv Ar outer s H E hcl hr => by
    have hu65 : _ + 65 < cLine := Nat.lt_of_le_of_lt (Nat.add_le_add_left (by omega : 65 ≤ 16 * 0 + 200) _) (by have := hr.un; rw [Nat.add_assoc] at this; exact this)
    have hu := hu_of hr
    exact (dss_cons (ds_if (d_tcmp op_lt sim_lt (dv 1) (d_callB (call_lenA rfl) sim_len (by rfl) T.z_len (by decide +kernel) (da_cons (dv 0) da_nil)) (nomark _)) (dss_one (ds_ret (d_ix (ix_all rfl hu) sim_ix (dv 0) (dv 1) (fun _ _ => rfl)))) dss_nil)
      (dss_one (ds_ret (d_op (op_addA rfl) sim_add (d_op (op_mulA rfl) sim_mul d_int (dv 1)) d_int))))) (fun cdv Ar outer s H E => takes_of rfl rfl rfl rfl) (rd__law_cell A)
theorem ok__law_box (T : Txt K mg A) (B1 : ∃ o, base.get? sysModules = some o)  : Kp P w K mg base (L2.CX P w) 1 A.f__law_box ["_law_cell_here"] [] (spD K 1 (sp__law_box A)) := by
  obtain ⟨fd, F⟩ := T.d__law_box.ex
  exact kd_mk F sc__law_box (F.binds (fun _ _ _ _ _ _ us hl => match us, hl with | [_], _ => rfl)) (fun cdv Ar outer s H E hcl hr => by
    have hu65 : _ + 65 < cLine := Nat.lt_of_le_of_lt (Nat.add_le_add_left (by omega : 65 ≤ 16 * 0 + 200) _) (by have := hr.un; rw [Nat.add_assoc] at this; exact this)
    have hu := hu_of hr
    exact (dss_one (ds_ret (d_lstC (da_cons (d_callB (call_max2 rfl) sim_max (by rfl) T.z_max (by decide +kernel) (da_cons d_int (da_cons (d_op op_sub sim_sub (dv 0) (d_op op_pow sim_pow d_int d_int)) da_nil))) (da_cons (d_op op_mod sim_mod (dv 0) d_int) (da_cons d_int da_nil))))))) (fun cdv Ar outer s H E => takes_of rfl rfl rfl rfl) (rd__law_box A)
theorem ok__law_take (T : Txt K mg A) (B1 : ∃ o, base.get? sysModules = some o)  : Kp P w K mg base (L2.CX P w) 1 A.f__law_take ["_law_box_here", "_law_wide"] [] (spD K 2 (sp__law_take A)) := by
  obtain ⟨fd, F⟩ := T.d__law_take.ex
  exact kd_mk F sc__law_take (F.binds (fun _ _ _ _ _ _ us hl => match us, hl with | [_, _], _ => rfl)) (fun cdv Ar outer s H E hcl hr => by
    have hu65 : _ + 65 < cLine := Nat.lt_of_le_of_lt (Nat.add_le_add_left (by omega : 65 ≤ 16 * 0 + 200) _) (by have := hr.un; rw [Nat.add_assoc] at this; exact this)
    have hu := hu_of hr
    exact (dss_cons (ds_if (d_tcmp op_gt sim_gt (d_ix (ix_all rfl hu) sim_ix (dv 0) d_int (fun _ _ => rfl)) d_int (nomark _)) (dss_cons (ds_set (i := 2) sc__law_take.nd rfl (Or.inl rfl) (d_op op_mod sim_mod (d_ix (ix_all rfl hu) sim_ix (dv 0) d_int (fun _ _ => rfl)) (dv 1)))
      (dss_cons (ds_asg (d_op op_fdivW sim_fdiv (d_ix (ix_all rfl hu) sim_ix (dv 0) d_int (fun _ _ => rfl)) (dv 1)) (dg_sub hu (dv 0) d_int))
      (dss_one (ds_ret (dv 2))))) dss_nil)
      (dss_cons (ds_asg (d_op (op_addA rfl) sim_add (d_ix (ix_all rfl hu) sim_ix (dv 0) d_int (fun _ _ => rfl)) d_int) (dg_sub hu (dv 0) d_int))
      (dss_cons (ds_set (i := 3) sc__law_take.nd rfl (Or.inl rfl) (d_op op_mod sim_mod (d_op op_pow sim_pow (d_op (op_addA rfl) sim_add (d_op (op_addA rfl) sim_add (d_ix (ix_all rfl hu) sim_ix (dv 0) d_int (fun _ _ => rfl)) (d_op (op_mulA rfl) sim_mul d_int (d_ix (ix_all rfl hu) sim_ix (dv 0) d_int (fun _ _ => rfl)))) d_int) d_int) d_int))
      (dss_cons (ds_set (i := 3) sc__law_take.nd rfl (Or.inl rfl) (d_op op_mod sim_mod (d_op op_pow sim_pow (d_op (op_addA rfl) sim_add (dv 3) (d_op (op_mulA rfl) sim_mul d_int (d_ix (ix_all rfl hu) sim_ix (dv 0) d_int (fun _ _ => rfl)))) d_int) d_int))
      (dss_one (ds_ret (d_op op_mod sim_mod (d_op op_fdivW sim_fdiv (dv 3) d_int) (dv 1))))))))) (fun cdv Ar outer s H E => takes_of rfl rfl rfl rfl) (rd__law_take A)
theorem ok__law_names (T : Txt K mg A) (B1 : ∃ o, base.get? sysModules = some o) (G__law_take : Kp P w K mg base (L2.CX P w) 1 A.f__law_take ["_law_box_here", "_law_wide"] [] (spD K 2 (sp__law_take A))) : Kp P w K mg base (L2.CX P w) 2 A.f__law_names ["_law_box_here", "_law_wide"] [] (spD K 2 (sp__law_names A)) := by
  obtain ⟨fd, F⟩ := T.d__law_names.ex
  exact kd_mk F sc__law_names (F.binds (fun _ _ _ _ _ _ us hl => match us, hl with | [_, _], _ => rfl)) (fun cdv Ar outer s H E hcl hr => by
    have hu65 : _ + 65 < cLine := Nat.lt_of_le_of_lt (Nat.add_le_add_left (by omega : 65 ≤ 16 * 1 + 200) _) (by have := hr.un; rw [Nat.add_assoc] at this; exact this)
    have hu := hu_of hr
    exact (dss_cons (ds_set (i := 2) sc__law_names.nd rfl (Or.inr rfl) d_str)
      (dss_cons (ds_set (i := 3) sc__law_names.nd rfl (Or.inl rfl) (d_fn G__law_take hcl (hr.mono (by decide)) (by rfl) T.d__law_take.mg T.d__law_take.kp (da_cons (dv 0) (da_cons d_int da_nil))))
      (dss_cons (ds_set (i := 4) sc__law_names.nd rfl (Or.inr rfl) (d_fn G__law_take hcl (hr.mono (by decide)) (by rfl) T.d__law_take.mg T.d__law_take.kp (da_cons (dv 0) (da_cons d_int da_nil))))
      (dss_cons (ds_set (i := 5) sc__law_names.nd rfl (Or.inr rfl) (d_bm rfl PySem.F.plainAttrs_str PySem.F.slot_str_join PySem.F.type_str_join (mt_joinA rfl) sim_join d_str (da_cons (d_lc (own := [("_law_k", 6)]) (by rfl) sc__law_names.nd (di_rng1 (by rfl) T.z_range (da_cons d_int da_nil)) (blkOk_by (own := [("_law_k", 6)]) (N := ["_law_box_here", "_law_wide", "_law_letters", "_law_way", "_law_first", "_law_stem", "_law_k", "_law_words_here", "_law_at"]) (sc := defScope s__law_names) (by decide +kernel)) (fun _ _ _ _ _ => (dg_name (i := 6) sc__law_names.nd rfl (Or.inl rfl))) gw1 (fun _ _ _ _ _ => dps_nil) (fun _ _ _ _ _ => (d_ix (ix_all rfl hu) sim_ix (dv 2) (d_fn G__law_take hcl (hr.mono (by decide)) (by rfl) T.d__law_take.mg T.d__law_take.kp (da_cons (dv 0) (da_cons d_int da_nil))) (fun _ _ => rfl)))) da_nil)))
      (dss_cons (ds_if (DW.dt (dw_and (d_tcmp (op_eqA rfl hr.units) sim_eq (dv 3) d_int (nomark _)) (dw_and1 (d_tcmp op_lt sim_lt (dv 1) d_int (nomark _))))) (dss_one (ds_ret (d_lc (own := [("_law_k", 6)]) (by rfl) sc__law_names.nd (di_rng1 (by rfl) T.z_range (da_cons (dv 1) da_nil)) (blkOk_by (own := [("_law_k", 6)]) (N := ["_law_box_here", "_law_wide", "_law_letters", "_law_way", "_law_first", "_law_stem", "_law_k", "_law_words_here", "_law_at"]) (sc := defScope s__law_names) (by decide +kernel)) (fun _ _ _ _ _ => (dg_name (i := 6) sc__law_names.nd rfl (Or.inl rfl))) gw1 (fun _ _ _ _ _ => dps_nil) (fun _ _ _ _ _ => (d_slice rfl (dv 5) do_none (do_some (d_op (op_addA rfl) sim_add d_int (d_op op_mod sim_mod (d_op (op_addA rfl) sim_add (dv 4) (d_op (op_mulA rfl) sim_mul d_int (dv 6))) d_int)))))))) dss_nil)
      (dss_cons (ds_if (DW.dt (dw_and (d_tcmp (op_eqA rfl hr.units) sim_eq (dv 3) d_int (nomark _)) (dw_and1 (d_tcmp op_lt sim_lt (dv 1) d_int (nomark _))))) (dss_cons (ds_set (i := 7) sc__law_names.nd rfl (Or.inr rfl) (d_bm rfl PySem.F.plainAttrs_str PySem.F.slot_str_split PySem.F.type_str_split mt_split sim_split d_str (da_cons d_str da_nil)))
      (dss_one (ds_ret (d_lc (own := [("_law_k", 6)]) (by rfl) sc__law_names.nd (di_rng1 (by rfl) T.z_range (da_cons (dv 1) da_nil)) (blkOk_by (own := [("_law_k", 6)]) (N := ["_law_box_here", "_law_wide", "_law_letters", "_law_way", "_law_first", "_law_stem", "_law_k", "_law_words_here", "_law_at"]) (sc := defScope s__law_names) (by decide +kernel)) (fun _ _ _ _ _ => (dg_name (i := 6) sc__law_names.nd rfl (Or.inl rfl))) gw1 (fun _ _ _ _ _ => dps_nil) (fun _ _ _ _ _ => (d_ix (ix_all rfl hu) sim_ix (dv 7) (d_op op_mod sim_mod (d_op (op_addA rfl) sim_add (dv 4) (d_op (op_mulA rfl) sim_mul d_int (dv 6))) d_int) (fun _ _ => rfl))))))) dss_nil)
      (dss_cons (ds_set (i := 8) sc__law_names.nd rfl (Or.inr rfl) (d_fn G__law_take hcl (hr.mono (by decide)) (by rfl) T.d__law_take.mg T.d__law_take.kp (da_cons (dv 0) (da_cons d_int da_nil))))
      (dss_cons (ds_set (i := 5) sc__law_names.nd rfl (Or.inr rfl) (d_slice rfl (dv 5) do_none (do_some (d_fn G__law_take hcl (hr.mono (by decide)) (by rfl) T.d__law_take.mg T.d__law_take.kp (da_cons (dv 0) (da_cons d_int da_nil))))))
      (dss_one (ds_ret (d_lc (own := [("_law_k", 6)]) (by rfl) sc__law_names.nd (di_rng1 (by rfl) T.z_range (da_cons (dv 1) da_nil)) (blkOk_by (own := [("_law_k", 6)]) (N := ["_law_box_here", "_law_wide", "_law_letters", "_law_way", "_law_first", "_law_stem", "_law_k", "_law_words_here", "_law_at"]) (sc := defScope s__law_names) (by decide +kernel)) (fun _ _ _ _ _ => (dg_name (i := 6) sc__law_names.nd rfl (Or.inl rfl))) gw1 (fun _ _ _ _ _ => dps_nil) (fun _ _ _ _ _ => (d_op (op_addA rfl) sim_add (d_op (op_addA rfl) sim_add (d_slice rfl (dv 5) do_none (do_some (dv 8))) (d_ix (ix_all rfl hu) sim_ix (dv 2) (d_op op_mod sim_mod (d_op (op_addA rfl) sim_add (dv 4) (d_op (op_mulA rfl) sim_mul d_int (dv 6))) d_int) (fun _ _ => rfl))) (d_slice rfl (dv 5) (do_some (dv 8)) do_none))))))))))))))) (fun cdv Ar outer s H E => takes_of rfl rfl rfl rfl) (rd__law_names A)
theorem ok__law_links (T : Txt K mg A) (B1 : ∃ o, base.get? sysModules = some o) (G__law_take : Kp P w K mg base (L2.CX P w) 1 A.f__law_take ["_law_box_here", "_law_wide"] [] (spD K 2 (sp__law_take A))) : Kp P w K mg base (L2.CX P w) 2 A.f__law_links ["_law_box_here", "_law_names_here"] [] (spD K 2 (sp__law_links A)) := by
  obtain ⟨fd, F⟩ := T.d__law_links.ex
  exact kd_mk F sc__law_links (F.binds (fun _ _ _ _ _ _ us hl => match us, hl with | [_, _], _ => rfl)) (fun cdv Ar outer s H E hcl hr => by
    have hu65 : _ + 65 < cLine := Nat.lt_of_le_of_lt (Nat.add_le_add_left (by omega : 65 ≤ 16 * 1 + 200) _) (by have := hr.un; rw [Nat.add_assoc] at this; exact this)
    have hu := hu_of hr
    exact (dss_cons (ds_set (i := 2) sc__law_links.nd rfl (Or.inl rfl) (d_lstC da_nil))
      (dss_cons (ds_for (passes_of rfl) rfl (di_rng1 (by rfl) T.z_range (da_cons (d_ix (ix_all rfl hu) sim_ix (d_lst (da_cons d_int (da_cons d_int (da_cons d_int (da_cons (d_fn G__law_take hcl (hr.mono (by decide)) (by rfl) T.d__law_take.mg T.d__law_take.kp (da_cons (dv 0) (da_cons d_int da_nil))) da_nil))))) (d_fn G__law_take hcl (hr.mono (by decide)) (by rfl) T.d__law_take.mg T.d__law_take.kp (da_cons (dv 0) (da_cons d_int da_nil))) (fun _ _ => rfl)) da_nil)) (dg_name (i := 3) sc__law_links.nd rfl (Or.inl rfl)) (dss_cons (ds_set (i := 4) sc__law_links.nd rfl (Or.inl rfl) (d_fn G__law_take hcl (hr.mono (by decide)) (by rfl) T.d__law_take.mg T.d__law_take.kp (da_cons (dv 0) (da_cons (d_callB (call_lenA rfl) sim_len (by rfl) T.z_len (by decide +kernel) (da_cons (dv 1) da_nil)) da_nil))))
      (dss_one (ds_expr (d_bm rfl PySem.F.plainAttrs_list PySem.F.slot_list_append PySem.F.type_list_append mt_append sim_append (dv 2) (da_cons (d_tup (da_cons (d_ix (ix_all rfl hu) sim_ix (dv 1) (dv 4) (fun _ _ => rfl)) (da_cons (d_ix (ix_all rfl hu) sim_ix (dv 1) (d_op op_sub sim_sub (d_op op_sub sim_sub (dv 4) d_int) (d_fn G__law_take hcl (hr.mono (by decide)) (by rfl) T.d__law_take.mg T.d__law_take.kp (da_cons (dv 0) (da_cons (d_op op_sub sim_sub (d_callB (call_lenA rfl) sim_len (by rfl) T.z_len (by decide +kernel) (da_cons (dv 1) da_nil)) d_int) da_nil)))) (fun _ _ => rfl)) da_nil))) da_nil))))))
      (dss_one (ds_ret (d_callTy (call_tupleA rfl) sim_tuple (by rfl) T.z_tuple (by decide +kernel) (da_cons (dv 2) da_nil))))))) (fun cdv Ar outer s H E => takes_of rfl rfl rfl rfl) (rd__law_links A)
theorem ok__law_told_device (T : Txt K mg A) (B1 : ∃ o, base.get? sysModules = some o) (G__law_take : Kp P w K mg base (L2.CX P w) 1 A.f__law_take ["_law_box_here", "_law_wide"] [] (spD K 2 (sp__law_take A))) : Kp P w K mg base (L2.CX P w) 2 A.f__law_told_device ["_law_box_here", "_law_names_here"] [] (spD K 2 (sp__law_told_device A)) := by
  obtain ⟨fd, F⟩ := T.d__law_told_device.ex
  exact kd_mk F sc__law_told_device (F.binds (fun _ _ _ _ _ _ us hl => match us, hl with | [_, _], _ => rfl)) (fun cdv Ar outer s H E hcl hr => by
    have hu65 : _ + 65 < cLine := Nat.lt_of_le_of_lt (Nat.add_le_add_left (by omega : 65 ≤ 16 * 1 + 200) _) (by have := hr.un; rw [Nat.add_assoc] at this; exact this)
    have hu := hu_of hr
    exact (dss_cons (ds_set (i := 2) sc__law_told_device.nd rfl (Or.inl rfl) (d_ix (ix_all rfl hu) sim_ix (d_lst (da_cons d_non (da_cons (d_ix (ix_all rfl hu) sim_ix (dv 1) (d_fn G__law_take hcl (hr.mono (by decide)) (by rfl) T.d__law_take.mg T.d__law_take.kp (da_cons (dv 0) (da_cons (d_callB (call_lenA rfl) sim_len (by rfl) T.z_len (by decide +kernel) (da_cons (dv 1) da_nil)) da_nil))) (fun _ _ => rfl)) da_nil))) (d_fn G__law_take hcl (hr.mono (by decide)) (by rfl) T.d__law_take.mg T.d__law_take.kp (da_cons (dv 0) (da_cons d_int da_nil))) (fun _ _ => rfl)))
      (dss_cons (ds_set (i := 3) sc__law_told_device.nd rfl (Or.inl rfl) (d_ix (ix_all rfl hu) sim_ix (d_lst (da_cons d_int (da_cons d_int (da_cons (d_fn G__law_take hcl (hr.mono (by decide)) (by rfl) T.d__law_take.mg T.d__law_take.kp (da_cons (dv 0) (da_cons d_int da_nil))) da_nil)))) (d_fn G__law_take hcl (hr.mono (by decide)) (by rfl) T.d__law_take.mg T.d__law_take.kp (da_cons (dv 0) (da_cons d_int da_nil))) (fun _ _ => rfl)))
      (dss_cons (ds_set (i := 4) sc__law_told_device.nd rfl (Or.inl rfl) (d_ix (ix_all rfl hu) sim_ix (d_lst (da_cons d_int (da_cons (dv 3) (da_cons (d_fn G__law_take hcl (hr.mono (by decide)) (by rfl) T.d__law_take.mg T.d__law_take.kp (da_cons (dv 0) (da_cons (d_op (op_addA rfl) sim_add (dv 3) d_int) da_nil))) da_nil)))) (d_fn G__law_take hcl (hr.mono (by decide)) (by rfl) T.d__law_take.mg T.d__law_take.kp (da_cons (dv 0) (da_cons d_int da_nil))) (fun _ _ => rfl)))
      (dss_one (ds_ret (d_tup (da_cons (d_ix (ix_all rfl hu) sim_ix (dv 1) d_int (fun _ _ => rfl)) (da_cons (dv 2) (da_cons (dv 3) (da_cons (dv 4) (da_cons (d_fn G__law_take hcl (hr.mono (by decide)) (by rfl) T.d__law_take.mg T.d__law_take.kp (da_cons (dv 0) (da_cons d_int da_nil))) (da_cons (d_fn G__law_take hcl (hr.mono (by decide)) (by rfl) T.d__law_take.mg T.d__law_take.kp (da_cons (dv 0) (da_cons d_int da_nil))) (da_cons (d_fn G__law_take hcl (hr.mono (by decide)) (by rfl) T.d__law_take.mg T.d__law_take.kp (da_cons (dv 0) (da_cons d_int da_nil))) da_nil)))))))))))))) (fun cdv Ar outer s H E => takes_of rfl rfl rfl rfl) (rd__law_told_device A)
theorem ok__law_words (T : Txt K mg A) (B1 : ∃ o, base.get? sysModules = some o) (G__law_take : Kp P w K mg base (L2.CX P w) 1 A.f__law_take ["_law_box_here", "_law_wide"] [] (spD K 2 (sp__law_take A))) (G__law_told_device : Kp P w K mg base (L2.CX P w) 2 A.f__law_told_device ["_law_box_here", "_law_names_here"] [] (spD K 2 (sp__law_told_device A))) (G__law_links : Kp P w K mg base (L2.CX P w) 2 A.f__law_links ["_law_box_here", "_law_names_here"] [] (spD K 2 (sp__law_links A))) : Kp P w K mg base (L2.CX P w) 3 A.f__law_words ["_law_box_here", "_law_names_here"] [] (spD K 2 (sp__law_words A)) := by
  obtain ⟨fd, F⟩ := T.d__law_words.ex
  exact kd_mk F sc__law_words (F.binds (fun _ _ _ _ _ _ us hl => match us, hl with | [_, _], _ => rfl)) (fun cdv Ar outer s H E hcl hr => by
    have hu65 : _ + 65 < cLine := Nat.lt_of_le_of_lt (Nat.add_le_add_left (by omega : 65 ≤ 16 * 2 + 200) _) (by have := hr.un; rw [Nat.add_assoc] at this; exact this)
    have hu := hu_of hr
    exact (dss_cons (ds_set (i := 2) sc__law_words.nd rfl (Or.inl rfl) (d_bm rfl PySem.F.plainAttrs_str PySem.F.slot_str_split PySem.F.type_str_split mt_split sim_split d_str (da_cons d_str da_nil)))
      (dss_cons (ds_set (i := 2) sc__law_words.nd rfl (Or.inl rfl) (d_op (op_addA rfl) sim_add (dv 2) (d_bm rfl PySem.F.plainAttrs_str PySem.F.slot_str_split PySem.F.type_str_split mt_split sim_split d_str (da_cons d_str da_nil))))
      (dss_cons (ds_par (i := 3) (j := 4) (by rfl) sc__law_words.nd rfl rfl (by decide) rfl rfl (da_cons (d_ix (ix_all rfl hu) sim_ix (dv 1) (d_fn G__law_take hcl (hr.mono (by decide)) (by rfl) T.d__law_take.mg T.d__law_take.kp (da_cons (dv 0) (da_cons (d_callB (call_lenA rfl) sim_len (by rfl) T.z_len (by decide +kernel) (da_cons (dv 1) da_nil)) da_nil))) (fun _ _ => rfl)) (da_cons (d_ix (ix_all rfl hu) sim_ix (dv 1) (d_fn G__law_take hcl (hr.mono (by decide)) (by rfl) T.d__law_take.mg T.d__law_take.kp (da_cons (dv 0) (da_cons (d_callB (call_lenA rfl) sim_len (by rfl) T.z_len (by decide +kernel) (da_cons (dv 1) da_nil)) da_nil))) (fun _ _ => rfl)) da_nil)) (by rfl))
      (dss_cons (ds_set (i := 5) sc__law_words.nd rfl (Or.inl rfl) (d_fn G__law_take hcl (hr.mono (by decide)) (by rfl) T.d__law_take.mg T.d__law_take.kp (da_cons (dv 0) (da_cons d_int da_nil))))
      (dss_cons (ds_par (i := 6) (j := 7) (by rfl) sc__law_words.nd rfl rfl (by decide) rfl rfl (da_cons (d_ix (ix_all rfl hu) sim_ix (d_lst (da_cons d_str (da_cons d_str da_nil))) (d_fn G__law_take hcl (hr.mono (by decide)) (by rfl) T.d__law_take.mg T.d__law_take.kp (da_cons (dv 0) (da_cons d_int da_nil))) (fun _ _ => rfl)) (da_cons (d_ix (ix_all rfl hu) sim_ix (d_lst (da_cons d_str (da_cons d_str (da_cons d_str da_nil)))) (d_fn G__law_take hcl (hr.mono (by decide)) (by rfl) T.d__law_take.mg T.d__law_take.kp (da_cons (dv 0) (da_cons d_int da_nil))) (fun _ _ => rfl)) da_nil)) (by rfl))
      (dss_cons (ds_set (i := 8) sc__law_words.nd rfl (Or.inl rfl) (d_ix (ix_all rfl hu) sim_ix (d_lst (da_cons d_str (da_cons d_str (da_cons d_str (da_cons d_str da_nil))))) (d_fn G__law_take hcl (hr.mono (by decide)) (by rfl) T.d__law_take.mg T.d__law_take.kp (da_cons (dv 0) (da_cons (d_op (op_addA rfl) sim_add d_int (d_callTy call_int1 sim_int1 (by rfl) T.z_int (by decide +kernel) (da_cons (d_cmp (op_eqA rfl hr.units) sim_eq (dv 7) d_str (nomark _)) da_nil))) da_nil))) (fun _ _ => rfl)))
      (dss_cons (ds_if (d_tcmp (op_eqA rfl hr.units) sim_eq (dv 5) d_int (nomark _)) (dss_one (ds_ret (d_ix (ix_all rfl hu) sim_ix (d_lst (da_cons (d_tup (da_cons d_str (da_cons (dv 6) (da_cons (dv 3) da_nil)))) (da_cons (d_tup (da_cons d_str (da_cons (dv 7) (da_cons d_non da_nil)))) da_nil))) (d_fn G__law_take hcl (hr.mono (by decide)) (by rfl) T.d__law_take.mg T.d__law_take.kp (da_cons (dv 0) (da_cons d_int da_nil))) (fun _ _ => rfl)))) dss_nil)
      (dss_cons (ds_if (d_tcmp (op_eqA rfl hr.units) sim_eq (dv 5) d_int (nomark _)) (dss_one (ds_ret (d_ix (ix_all rfl hu) sim_ix (d_lst (da_cons (d_tup (da_cons d_str (da_cons (dv 6) (da_cons (dv 3) (da_cons (d_ifE (d_tcmp (op_neA rfl hr.units) sim_ne (dv 8) d_str (nomark _)) (dv 8) d_str) da_nil))))) (da_cons (d_tup (da_cons d_str (da_cons (dv 7) (da_cons d_non (da_cons (dv 8) da_nil))))) da_nil))) (d_fn G__law_take hcl (hr.mono (by decide)) (by rfl) T.d__law_take.mg T.d__law_take.kp (da_cons (dv 0) (da_cons d_int da_nil))) (fun _ _ => rfl)))) dss_nil)
      (dss_cons (ds_if (d_tcmp (op_eqA rfl hr.units) sim_eq (dv 5) d_int (nomark _)) (dss_one (ds_ret (d_tup (da_cons d_str (da_cons (dv 3) (da_cons (dv 4) da_nil)))))) dss_nil)
      (dss_cons (ds_if (d_tcmp (op_eqA rfl hr.units) sim_eq (dv 5) d_int (nomark _)) (dss_one (ds_ret (d_tup (da_cons d_str (da_cons (dv 3) (da_cons (d_ix (ix_all rfl hu) sim_ix (d_lst (da_cons d_str (da_cons d_str (da_cons d_str (da_cons d_str da_nil))))) (d_fn G__law_take hcl (hr.mono (by decide)) (by rfl) T.d__law_take.mg T.d__law_take.kp (da_cons (dv 0) (da_cons d_int da_nil))) (fun _ _ => rfl)) da_nil)))))) dss_nil)
      (dss_cons (ds_if (d_tcmp (op_eqA rfl hr.units) sim_eq (dv 5) d_int (nomark _)) (dss_one (ds_ret (d_tup (da_cons d_str (da_cons (d_fn G__law_told_device hcl (hr.mono (by decide)) (by rfl) T.d__law_told_device.mg T.d__law_told_device.kp (da_cons (dv 0) (da_cons (dv 1) da_nil))) (da_cons (d_fn G__law_links hcl (hr.mono (by decide)) (by rfl) T.d__law_links.mg T.d__law_links.kp (da_cons (dv 0) (da_cons (dv 1) da_nil))) da_nil)))))) dss_nil)
      (dss_one (ds_ret (d_tup (da_cons (d_ix (ix_all rfl hu) sim_ix (dv 2) (d_fn G__law_take hcl (hr.mono (by decide)) (by rfl) T.d__law_take.mg T.d__law_take.kp (da_cons (dv 0) (da_cons d_int da_nil))) (fun _ _ => rfl)) (da_cons (dv 3) da_nil))))))))))))))))) (fun cdv Ar outer s H E => takes_of rfl rfl rfl rfl) (rd__law_words A)
theorem ok__law_told (T : Txt K mg A) (B1 : ∃ o, base.get? sysModules = some o) (G_Log_add : Kp P w K mg base (L2.CX P w) 12 A.f_Log_add ["self", "turn", "words"] [] (spD K 3 (sp_Log_add A))) : Kp P w K mg base (L2.CX P w) 13 A.f__law_told ["_law_log", "_law_turn", "_law_words_here"] [] (spD K 3 (sp__law_told A)) := by
  obtain ⟨fd, F⟩ := T.d__law_told.ex
  exact kd_mk F sc__law_told (F.binds (fun _ _ _ _ _ _ us hl => match us, hl with | [_, _, _], _ => rfl)) (fun cdv Ar outer s H E hcl hr => by
    have hu65 : _ + 65 < cLine := Nat.lt_of_le_of_lt (Nat.add_le_add_left (by omega : 65 ≤ 16 * 12 + 200) _) (by have := hr.un; rw [Nat.add_assoc] at this; exact this)
    have hu := hu_of hr
    exact (dss_cons (ds_set (i := 3) sc__law_told.nd rfl (Or.inl rfl) d_non)
      (dss_cons (ds_tryT (mt_ok T) rfl rfl rfl sc__law_told.nd (fun pn xe po => (dss_one (ds_set (i := 3) sc__law_told.nd rfl (Or.inl rfl) (d_lst (da_cons d_str (da_cons (d_mth T.cls_Log T.me_Log_add G_Log_add hcl (hr.mono (by decide)) (dv 0) (da_cons (dv 1) (da_cons (dv 2) da_nil))) da_nil)))))) (h_as (i := 4) rfl rfl ⟨by rfl, by decide, Or.inl T.e_NoNumber.mg⟩ (fun a C dd oe pn hz hf => (dss_one (ds_set (i := 3) sc__law_told.nd rfl (Or.inl rfl) (d_lst (da_cons d_str (da_cons (d_xf rfl T.e_NoNumber.xf T.e_NoNumber.nof hz hf (dv 4)) da_nil)))))) (h_as (i := 4) rfl rfl ⟨by rfl, by decide, Or.inl T.e_NoLog.mg⟩ (fun a C dd oe pn hz hf => (dss_one (ds_set (i := 3) sc__law_told.nd rfl (Or.inl rfl) (d_lst (da_cons d_str (da_cons (d_xf rfl T.e_NoLog.xf T.e_NoLog.nof hz hf (dv 4)) da_nil)))))) h_never)))
      (dss_one (ds_ret (dv 3)))))) (fun cdv Ar outer s H E => takes_of rfl rfl rfl rfl) (rd__law_told A)
theorem ok__law_last (T : Txt K mg A) (B1 : ∃ o, base.get? sysModules = some o) (G_Log_last : Kx P w K mg base (L2.CX P w) 5 "last" "Log.last" s_Log_last [.int 1] ([] : List (Str × V)) A.f_Log_last ["self", "many"] (spD K 2 (sp_Log_last A))) : Kp P w K mg base (L2.CX P w) 6 A.f__law_last ["_law_log", "_law_wide"] [] (spD K 2 (sp__law_last A)) := by
  obtain ⟨fd, F⟩ := T.d__law_last.ex
  exact kd_mk F sc__law_last (F.binds (fun _ _ _ _ _ _ us hl => match us, hl with | [_, _], _ => rfl)) (fun cdv Ar outer s H E hcl hr => by
    have hu65 : _ + 65 < cLine := Nat.lt_of_le_of_lt (Nat.add_le_add_left (by omega : 65 ≤ 16 * 5 + 200) _) (by have := hr.un; rw [Nat.add_assoc] at this; exact this)
    have hu := hu_of hr
    exact (dss_cons (ds_set (i := 2) sc__law_last.nd rfl (Or.inl rfl) d_non)
      (dss_cons (ds_tryT (mt_ok T) rfl rfl rfl sc__law_last.nd (fun pn xe po => (dss_one (ds_set (i := 2) sc__law_last.nd rfl (Or.inl rfl) (d_mthD CRL.nil T.cls_Log T.me_Log_last G_Log_last hcl (hr.mono (by decide)) (fun _ F => kb_Log_last_2 F) (dv 0) (da_cons (dv 1) da_nil))))) (h_as (i := 3) rfl rfl ⟨by rfl, by decide, Or.inl T.e_NoNumber.mg⟩ (fun a C dd oe pn hz hf => (dss_one (ds_set (i := 2) sc__law_last.nd rfl (Or.inl rfl) (d_lst (da_cons d_str (da_cons (d_xf rfl T.e_NoNumber.xf T.e_NoNumber.nof hz hf (dv 3)) da_nil)))))) h_never))
      (dss_one (ds_ret (dv 2)))))) (fun cdv Ar outer s H E => takes_of rfl rfl rfl rfl) (rd__law_last A)
theorem ok__law_refused (T : Txt K mg A) (B1 : ∃ o, base.get? sysModules = some o) (G__law_take : Kp P w K mg base (L2.CX P w) 1 A.f__law_take ["_law_box_here", "_law_wide"] [] (spD K 2 (sp__law_take A))) (G__law_told : Kp P w K mg base (L2.CX P w) 13 A.f__law_told ["_law_log", "_law_turn", "_law_words_here"] [] (spD K 3 (sp__law_told A))) (G_Log_rows : Kp P w K mg base (L2.CX P w) 1 A.f_Log_rows ["self"] [] (spD K 1 (sp_Log_rows A))) : Kp P w K mg base (L2.CX P w) 14 A.f__law_refused ["_law_box_here", "_law_log", "_law_rows", "_law_words_here"] [] (spD K 4 (sp__law_refused A)) := by
  obtain ⟨fd, F⟩ := T.d__law_refused.ex
  exact kd_mk F sc__law_refused (F.binds (fun _ _ _ _ _ _ us hl => match us, hl with | [_, _, _, _], _ => rfl)) (fun cdv Ar outer s H E hcl hr => by
    have hu65 : _ + 65 < cLine := Nat.lt_of_le_of_lt (Nat.add_le_add_left (by omega : 65 ≤ 16 * 13 + 200) _) (by have := hr.un; rw [Nat.add_assoc] at this; exact this)
    have hu := hu_of hr
    exact (dss_cons (ds_set (i := 4) sc__law_refused.nd rfl (Or.inl rfl) (d_ix (ix_all rfl hu) sim_ix (d_lst (da_cons d_non (da_cons d_bl (da_cons (d_un un_neg sim_neg d_int) (da_cons d_str (da_cons (d_lstC (da_cons d_int da_nil)) (da_cons (d_tup da_nil) (da_cons d_dK da_nil)))))))) (d_fn G__law_take hcl (hr.mono (by decide)) (by rfl) T.d__law_take.mg T.d__law_take.kp (da_cons (dv 0) (da_cons d_int da_nil))) (fun _ _ => rfl)))
      (dss_cons (ds_set (i := 5) sc__law_refused.nd rfl (Or.inl rfl) (d_ix (ix_all rfl hu) sim_ix (d_lst (da_cons d_non (da_cons (d_callTy (call_listA rfl) sim_listC (by rfl) T.z_list (by decide +kernel) (da_cons (dv 3) da_nil)) (da_cons (d_slice rfl (dv 3) do_none (do_some d_int)) (da_cons (d_op (op_addA rfl) sim_add (dv 3) (d_tup (da_cons d_str da_nil))) (da_cons (d_tup da_nil) (da_cons (d_tup (da_cons d_str (da_cons d_str da_nil))) (da_cons d_int (da_cons d_dK (da_cons (d_lstC (da_cons (dv 3) da_nil)) da_nil)))))))))) (d_fn G__law_take hcl (hr.mono (by decide)) (by rfl) T.d__law_take.mg T.d__law_take.kp (da_cons (dv 0) (da_cons d_int da_nil))) (fun _ _ => rfl)))
      (dss_cons (ds_set (i := 6) sc__law_refused.nd rfl (Or.inl rfl) (d_ifE (d_tcmp (op_emN rfl (Nat.lt_of_le_of_lt (Nat.le_add_right _ 65) hu65)) sim_of (dv 2) (d_lst da_nil) (nomark _)) (d_ix (ix_all rfl hu) sim_ix (d_ix (ix_all rfl hu) sim_ix (dv 2) (d_un un_neg sim_neg d_int) (fun _ _ => rfl)) d_int (fun _ _ => rfl)) d_int))
      (dss_cons (ds_set (i := 7) sc__law_refused.nd rfl (Or.inl rfl) (d_lst (da_cons (d_tup (da_cons (dv 4) (da_cons (dv 3) (da_cons (d_lst (da_cons d_str (da_cons (dv 4) da_nil))) da_nil)))) (da_cons (d_tup (da_cons (dv 4) (da_cons (dv 5) (da_cons (d_lst (da_cons d_str (da_cons (dv 4) da_nil))) da_nil)))) (da_cons (d_tup (da_cons (dv 6) (da_cons (dv 5) (da_cons (d_lst (da_cons d_str (da_cons (dv 5) da_nil))) da_nil)))) da_nil)))))
      (dss_cons (ds_if (d_tcmp op_gt sim_gt (dv 6) d_int (nomark _)) (dss_one (ds_set (i := 7) sc__law_refused.nd rfl (Or.inl rfl) (d_op (op_addA rfl) sim_add (dv 7) (d_lst (da_cons (d_tup (da_cons (d_op op_sub sim_sub (dv 6) d_int) (da_cons (dv 3) (da_cons (d_lst (da_cons d_str (da_cons (d_op op_sub sim_sub (dv 6) d_int) da_nil))) da_nil)))) (da_cons (d_tup (da_cons (d_op op_sub sim_sub (dv 6) d_int) (da_cons (dv 5) (da_cons (d_lst (da_cons d_str (da_cons (dv 5) da_nil))) da_nil)))) da_nil)))))) dss_nil)
      (dss_cons (ds_for (passes_of rfl) rfl (di_seq rfl (dv 7)) (dg_tup (m := 3) rfl rfl (dgs_cons (dg_name (i := 8) sc__law_refused.nd rfl (Or.inl rfl)) (dgs_cons (dg_name (i := 9) sc__law_refused.nd rfl (Or.inl rfl)) (dgs_cons (dg_name (i := 10) sc__law_refused.nd rfl (Or.inl rfl)) dgs_nil)))) (dss_cons (ds_set (i := 11) sc__law_refused.nd rfl (Or.inl rfl) (d_fn G__law_told hcl (hr.mono (by decide)) (by rfl) T.d__law_told.mg T.d__law_told.kp (da_cons (dv 1) (da_cons (dv 8) (da_cons (dv 9) da_nil)))))
      (dss_cons (ds_if (DW.dt (dw_or (d_tcmp (op_neA rfl hr.units) sim_ne (d_callB (call_showW rfl B1 hcl hr) sim_reprQ (by rfl) T.z_repr (by decide +kernel) (da_cons (dv 11) da_nil)) (d_callB (call_showW rfl B1 hcl hr) sim_reprQ (by rfl) T.z_repr (by decide +kernel) (da_cons (dv 10) da_nil)) (nomark _)) (dw_or1 (d_tcmp (op_neA rfl hr.units) sim_ne (d_mth0 T.cls_Log T.me_Log_rows G_Log_rows hcl (hr.mono (by decide)) (dv 1)) (dv 2) (nomark _))))) (dss_one (ds_ret d_bl)) dss_nil)
      (dss_cons (ds_if (d_test (d_callB (call_isiA rfl) sim_isi (by rfl) T.z_isinstance (by decide +kernel) (da_cons (d_ix (ix_all rfl hu) sim_ix (dv 10) d_int (fun _ _ => rfl)) (da_cons (d_c (pe_bltn (v := .ty "list") rfl T.z_list (by decide +kernel) rfl) (fun _ _ => .ty _)) da_nil)))) (dss_one (ds_expr (d_bm rfl PySem.F.plainAttrs_list PySem.F.slot_list_append PySem.F.type_list_append mt_append sim_append (d_ix (ix_all rfl hu) sim_ix (dv 10) d_int (fun _ _ => rfl)) (da_cons d_str da_nil)))) dss_nil)
      (dss_one (ds_if (d_tcmp (op_neA rfl hr.units) sim_ne (d_callB (call_showW rfl B1 hcl hr) sim_reprQ (by rfl) T.z_repr (by decide +kernel) (da_cons (dv 11) da_nil)) (d_callB (call_showW rfl B1 hcl hr) sim_reprQ (by rfl) T.z_repr (by decide +kernel) (da_cons (dv 10) da_nil)) (nomark _)) (dss_one (ds_ret d_bl)) dss_nil))))))
      (dss_one (ds_ret d_bl))))))))) (fun cdv Ar outer s H E => takes_of rfl rfl rfl rfl) (rd__law_refused A)
theorem ok__law_stands (T : Txt K mg A) (B1 : ∃ o, base.get? sysModules = some o) (G__law_take : Kp P w K mg base (L2.CX P w) 1 A.f__law_take ["_law_box_here", "_law_wide"] [] (spD K 2 (sp__law_take A))) (G_Log_rows : Kp P w K mg base (L2.CX P w) 1 A.f_Log_rows ["self"] [] (spD K 1 (sp_Log_rows A))) (G_Log_last : Kx P w K mg base (L2.CX P w) 5 "last" "Log.last" s_Log_last [.int 1] ([] : List (Str × V)) A.f_Log_last ["self", "many"] (spD K 2 (sp_Log_last A))) (G_Log_len : Kp P w K mg base (L2.CX P w) 1 A.f_Log_len ["self"] [] (spD K 1 (sp_Log_len A))) (G__law_last : Kp P w K mg base (L2.CX P w) 6 A.f__law_last ["_law_log", "_law_wide"] [] (spD K 2 (sp__law_last A))) : Kp P w K mg base (L2.CX P w) 7 A.f__law_stands ["_law_box_here", "_law_log", "_law_rows"] [] (spD K 3 (sp__law_stands A)) := by
  obtain ⟨fd, F⟩ := T.d__law_stands.ex
  exact kd_mk F sc__law_stands (F.binds (fun _ _ _ _ _ _ us hl => match us, hl with | [_, _, _], _ => rfl)) (fun cdv Ar outer s H E hcl hr => by
    have hu65 : _ + 65 < cLine := Nat.lt_of_le_of_lt (Nat.add_le_add_left (by omega : 65 ≤ 16 * 6 + 200) _) (by have := hr.un; rw [Nat.add_assoc] at this; exact this)
    have hu := hu_of hr
    exact (dss_cons (ds_set (i := 3) sc__law_stands.nd rfl (Or.inl rfl) (d_ix (ix_all rfl hu) sim_ix (d_lst (da_cons d_int (da_cons d_int (da_cons d_int (da_cons (d_op (op_addA rfl) sim_add d_int (d_fn G__law_take hcl (hr.mono (by decide)) (by rfl) T.d__law_take.mg T.d__law_take.kp (da_cons (dv 0) (da_cons d_int da_nil)))) da_nil))))) (d_fn G__law_take hcl (hr.mono (by decide)) (by rfl) T.d__law_take.mg T.d__law_take.kp (da_cons (dv 0) (da_cons d_int da_nil))) (fun _ _ => rfl)))
      (dss_cons (ds_set (i := 4) sc__law_stands.nd rfl (Or.inl rfl) (d_ix (ix_all rfl hu) sim_ix (d_lst (da_cons d_int (da_cons d_int (da_cons d_non (da_cons d_bl (da_cons d_str (da_cons (d_lst (da_cons d_int da_nil)) (da_cons (d_un un_neg sim_neg d_int) (da_cons (d_op op_pow sim_pow d_int d_int) da_nil))))))))) (d_fn G__law_take hcl (hr.mono (by decide)) (by rfl) T.d__law_take.mg T.d__law_take.kp (da_cons (dv 0) (da_cons d_int da_nil))) (fun _ _ => rfl)))
      (dss_cons (ds_set (i := 5) sc__law_stands.nd rfl (Or.inl rfl) (d_lst (da_cons (d_mth0 T.cls_Log T.me_Log_rows G_Log_rows hcl (hr.mono (by decide)) (dv 1)) (da_cons (d_mthD0 (CRL.cons (fun _ _ => .int _) CRL.nil) T.cls_Log T.me_Log_last G_Log_last hcl (hr.mono (by decide)) (fun _ F => kb_Log_last_1 F) (dv 1)) (da_cons (d_mthD CRL.nil T.cls_Log T.me_Log_last G_Log_last hcl (hr.mono (by decide)) (fun _ F => kb_Log_last_2 F) (dv 1) (da_cons (dv 3) da_nil)) (da_cons (d_callB (call_lenOD rfl T.me_Log_len.at_ T.me_Log_len.fn G_Log_len hcl (hr.mono (by decide))) sim_ofL (by rfl) T.z_len (by decide +kernel) (da_cons (dv 1) da_nil)) (da_cons (d_mthK0 (md := [.int 1]) (CRL.cons (fun _ _ => .int _) CRL.nil) T.cls_Log T.me_Log_last G_Log_last hcl (hr.mono (by decide)) (fun _ F => kb_Log_last_1_many F) (dv 1) (dk_one (dv 3) dk_nil)) da_nil)))))))
      (dss_cons (ds_if (d_tcmp (op_neA rfl hr.units) sim_ne (d_callB (call_showW rfl B1 hcl hr) sim_reprQ (by rfl) T.z_repr (by decide +kernel) (da_cons (dv 5) da_nil)) (d_callB (call_showW rfl B1 hcl hr) sim_reprQ (by rfl) T.z_repr (by decide +kernel) (da_cons (d_lst (da_cons (dv 2) (da_cons (d_slice rfl (dv 2) (do_some (d_un un_neg sim_neg d_int)) do_none) (da_cons (d_slice rfl (dv 2) (do_some (d_un un_neg sim_neg (dv 3))) do_none) (da_cons (d_callB (call_lenA rfl) sim_len (by rfl) T.z_len (by decide +kernel) (da_cons (dv 2) da_nil)) (da_cons (d_slice rfl (dv 2) (do_some (d_un un_neg sim_neg (dv 3))) do_none) da_nil)))))) da_nil)) (nomark _)) (dss_one (ds_ret d_bl)) dss_nil)
      (dss_cons (ds_for (passes_of rfl) rfl (di_seq rfl (d_slice rfl (dv 5) do_none (do_some d_int))) (dg_name (i := 6) sc__law_stands.nd rfl (Or.inl rfl)) (dss_one (ds_expr (d_bm rfl PySem.F.plainAttrs_list PySem.F.slot_list_append PySem.F.type_list_append mt_append sim_append (dv 6) (da_cons d_non da_nil)))))
      (dss_one (ds_ret (d_cmp (op_eqA rfl hr.units) sim_eq (d_callB (call_showW rfl B1 hcl hr) sim_reprQ (by rfl) T.z_repr (by decide +kernel) (da_cons (d_fn G__law_last hcl (hr.mono (by decide)) (by rfl) T.d__law_last.mg T.d__law_last.kp (da_cons (dv 1) (da_cons (dv 4) da_nil))) da_nil)) (d_callB (call_showW rfl B1 hcl hr) sim_reprQ (by rfl) T.z_repr (by decide +kernel) (da_cons (d_lst (da_cons d_str (da_cons (dv 4) da_nil))) da_nil)) (nomark _)))))))))) (fun cdv Ar outer s H E => takes_of rfl rfl rfl rfl) (rd__law_stands A)
theorem ok_law (T : Txt K mg A) (B1 : ∃ o, base.get? sysModules = some o) (G_Log_init : Kx P w K mg base (L2.CX P w) 1 "__init__" "Log.__init__" s_Log_init [] ([] : List (Str × V)) A.f_Log_init ["self"] (spD K 1 (sp_Log_init A))) (G_Log_copied : Kp P w K mg base (L2.CX P w) 3 A.f_Log_copied ["self"] [] (spD K 1 (sp_Log_copied A))) (G__law_cell : Kp P w K mg base (L2.CX P w) 1 A.f__law_cell ["_law_script", "_law_k"] [] (spD K 2 (sp__law_cell A))) (G__law_box : Kp P w K mg base (L2.CX P w) 1 A.f__law_box ["_law_cell_here"] [] (spD K 1 (sp__law_box A))) (G__law_take : Kp P w K mg base (L2.CX P w) 1 A.f__law_take ["_law_box_here", "_law_wide"] [] (spD K 2 (sp__law_take A))) (G__law_names : Kp P w K mg base (L2.CX P w) 2 A.f__law_names ["_law_box_here", "_law_wide"] [] (spD K 2 (sp__law_names A))) (G__law_words : Kp P w K mg base (L2.CX P w) 3 A.f__law_words ["_law_box_here", "_law_names_here"] [] (spD K 2 (sp__law_words A))) (G__law_told : Kp P w K mg base (L2.CX P w) 13 A.f__law_told ["_law_log", "_law_turn", "_law_words_here"] [] (spD K 3 (sp__law_told A))) (G__law_refused : Kp P w K mg base (L2.CX P w) 14 A.f__law_refused ["_law_box_here", "_law_log", "_law_rows", "_law_words_here"] [] (spD K 4 (sp__law_refused A))) (G__law_stands : Kp P w K mg base (L2.CX P w) 7 A.f__law_stands ["_law_box_here", "_law_log", "_law_rows"] [] (spD K 3 (sp__law_stands A))) {fd : FuncData} (F : Fun K "law" "law" s_law A.f_law fd) : FnG P w K mg base CX0 15 A.f_law fd ["_law_script"] (fun vs H Q _ => spD K 1 (sp_law A) vs H Q E0) :=
  kl_mk F sc_law (fun cdv Ar outer s H E hcl hr => by
    have hu65 : _ + 65 < cLine := Nat.lt_of_le_of_lt (Nat.add_le_add_left (by omega : 65 ≤ 16 * 14 + 200) _) (by have := hr.un; rw [Nat.add_assoc] at this; exact this)
    have hu := hu_of hr
    exact (dss_cons (ds_par (i := 1) (j := 2) (by rfl) sc_law.nd rfl rfl (by decide) rfl rfl (da_cons (d_lstC (da_cons (d_new0 (md := []) CRL.nil G_Log_init T.mk_Log hcl (hr.mono (by decide)) (fun _ F => kb_Log_init_1_K0 F) (by rfl) T.m_Log dk_nil) (da_cons (d_new0 (md := []) CRL.nil G_Log_init T.mk_Log hcl (hr.mono (by decide)) (fun _ F => kb_Log_init_1_K0 F) (by rfl) T.m_Log dk_nil) da_nil))) (da_cons (d_lstC (da_cons (d_lstC da_nil) (da_cons (d_lstC da_nil) da_nil))) da_nil)) (by rfl))
      (dss_cons (ds_for (passes_of rfl) rfl (di_rng1 (by rfl) T.z_range (da_cons (d_callB (call_max2 rfl) sim_max (by rfl) T.z_max (by decide +kernel) (da_cons d_int (da_cons (d_callB (call_min2 rfl) sim_min (by rfl) T.z_min (by decide +kernel) (da_cons d_int (da_cons (d_callB (call_lenA rfl) sim_len (by rfl) T.z_len (by decide +kernel) (da_cons (dv 0) da_nil)) da_nil))) da_nil))) da_nil)) (dg_name (i := 3) sc_law.nd rfl (Or.inl rfl)) (dss_cons (ds_set (i := 4) sc_law.nd rfl (Or.inl rfl) (d_fn G__law_box hcl (hr.mono (by decide)) (by rfl) T.d__law_box.mg T.d__law_box.kp (da_cons (d_fn G__law_cell hcl (hr.mono (by decide)) (by rfl) T.d__law_cell.mg T.d__law_cell.kp (da_cons (dv 0) (da_cons (dv 3) da_nil))) da_nil)))
      (dss_cons (ds_par (i := 5) (j := 6) (by rfl) sc_law.nd rfl rfl (by decide) rfl rfl (da_cons (d_cmp (op_eqA rfl hr.units) sim_eq (d_fn G__law_take hcl (hr.mono (by decide)) (by rfl) T.d__law_take.mg T.d__law_take.kp (da_cons (dv 4) (da_cons d_int da_nil))) d_int (nomark _)) (da_cons (d_fn G__law_take hcl (hr.mono (by decide)) (by rfl) T.d__law_take.mg T.d__law_take.kp (da_cons (dv 4) (da_cons d_int da_nil))) da_nil)) (by rfl))
      (dss_cons (ds_set (i := 7) sc_law.nd rfl (Or.inl rfl) (d_fn G__law_names hcl (hr.mono (by decide)) (by rfl) T.d__law_names.mg T.d__law_names.kp (da_cons (dv 4) (da_cons (d_op (op_addA rfl) sim_add d_int (d_fn G__law_take hcl (hr.mono (by decide)) (by rfl) T.d__law_take.mg T.d__law_take.kp (da_cons (dv 4) (da_cons d_int da_nil)))) da_nil))))
      (dss_cons (ds_for (passes_of rfl) rfl (di_rng1 (by rfl) T.z_range (da_cons (d_op (op_addA rfl) sim_add d_int (d_fn G__law_take hcl (hr.mono (by decide)) (by rfl) T.d__law_take.mg T.d__law_take.kp (da_cons (dv 4) (da_cons d_int da_nil)))) da_nil)) (dg_name (i := 8) sc_law.nd rfl (Or.inl rfl)) (dss_cons (ds_set (i := 9) sc_law.nd rfl (Or.inl rfl) (d_fn G__law_words hcl (hr.mono (by decide)) (by rfl) T.d__law_words.mg T.d__law_words.kp (da_cons (dv 4) (da_cons (dv 7) da_nil))))
      (dss_cons (ds_set (i := 10) sc_law.nd rfl (Or.inl rfl) (d_op (op_addA rfl) sim_add (d_ifE (d_tcmp (op_emN rfl (Nat.lt_of_le_of_lt (Nat.le_add_right _ 65) hu65)) sim_of (d_ix (ix_all rfl hu) sim_ix (dv 2) (dv 6) (fun _ _ => rfl)) (d_lst da_nil) (nomark _)) (d_ix (ix_all rfl hu) sim_ix (d_ix (ix_all rfl hu) sim_ix (d_ix (ix_all rfl hu) sim_ix (dv 2) (dv 6) (fun _ _ => rfl)) (d_un un_neg sim_neg d_int) (fun _ _ => rfl)) d_int (fun _ _ => rfl)) d_int) (d_ix (ix_all rfl hu) sim_ix (d_lst (da_cons d_int (da_cons d_int (da_cons (d_fn G__law_take hcl (hr.mono (by decide)) (by rfl) T.d__law_take.mg T.d__law_take.kp (da_cons (dv 4) (da_cons d_int da_nil))) da_nil)))) (d_fn G__law_take hcl (hr.mono (by decide)) (by rfl) T.d__law_take.mg T.d__law_take.kp (da_cons (dv 4) (da_cons d_int da_nil))) (fun _ _ => rfl))))
      (dss_cons (ds_if (d_tcmp (op_neA rfl hr.units) sim_ne (d_callB (call_showW rfl B1 hcl hr) sim_reprQ (by rfl) T.z_repr (by decide +kernel) (da_cons (d_fn G__law_told hcl (hr.mono (by decide)) (by rfl) T.d__law_told.mg T.d__law_told.kp (da_cons (d_ix (ix_all rfl hu) sim_ix (dv 1) (dv 6) (fun _ _ => rfl)) (da_cons (dv 10) (da_cons (dv 9) da_nil)))) da_nil)) (d_callB (call_showW rfl B1 hcl hr) sim_reprQ (by rfl) T.z_repr (by decide +kernel) (da_cons (d_lst (da_cons d_str (da_cons d_non da_nil))) da_nil)) (nomark _)) (dss_one (ds_ret d_bl)) dss_nil)
      (dss_one (ds_expr (d_bm rfl PySem.F.plainAttrs_list PySem.F.slot_list_append PySem.F.type_list_append mt_append sim_append (d_ix (ix_all rfl hu) sim_ix (dv 2) (dv 6) (fun _ _ => rfl)) (da_cons (d_op (op_addA rfl) sim_add (d_tup (da_cons (dv 10) da_nil)) (dv 9)) da_nil))))))))
      (dss_cons (ds_if (d_tnot (d_test (d_fn G__law_refused hcl (hr.mono (by decide)) (by rfl) T.d__law_refused.mg T.d__law_refused.kp (da_cons (dv 4) (da_cons (d_ix (ix_all rfl hu) sim_ix (dv 1) (dv 6) (fun _ _ => rfl)) (da_cons (d_ix (ix_all rfl hu) sim_ix (dv 2) (dv 6) (fun _ _ => rfl)) (da_cons (d_fn G__law_words hcl (hr.mono (by decide)) (by rfl) T.d__law_words.mg T.d__law_words.kp (da_cons (dv 4) (da_cons (dv 7) da_nil))) da_nil))))))) (dss_one (ds_ret d_bl)) dss_nil)
      (dss_cons (ds_if (d_test (dv 5)) (dss_one (ds_asg (d_tup (da_cons (d_mth0 T.cls_Log T.me_Log_copied G_Log_copied hcl (hr.mono (by decide)) (d_ix (ix_all rfl hu) sim_ix (dv 1) (dv 6) (fun _ _ => rfl))) (da_cons (d_callTy (call_listA rfl) sim_listC (by rfl) T.z_list (by decide +kernel) (da_cons (d_ix (ix_all rfl hu) sim_ix (dv 2) (dv 6) (fun _ _ => rfl)) da_nil)) da_nil))) (dg_tup (m := 2) rfl rfl (dgs_cons (dg_sub hu (dv 1) (d_op op_sub sim_sub d_int (dv 6))) (dgs_cons (dg_sub hu (dv 2) (d_op op_sub sim_sub d_int (dv 6))) dgs_nil))))) dss_nil)
      (dss_one (ds_for (passes_of rfl) rfl (di_zip rfl (by rfl) T.z_zip (da_cons (dv 1) (da_cons (dv 2) da_nil))) (dg_tup (m := 2) rfl rfl (dgs_cons (dg_name (i := 11) sc_law.nd rfl (Or.inl rfl)) (dgs_cons (dg_name (i := 12) sc_law.nd rfl (Or.inl rfl)) dgs_nil))) (dss_one (ds_if (d_tnot (d_test (d_fn G__law_stands hcl (hr.mono (by decide)) (by rfl) T.d__law_stands.mg T.d__law_stands.kp (da_cons (dv 4) (da_cons (dv 11) (da_cons (dv 12) da_nil)))))) (dss_one (ds_ret d_bl)) dss_nil)))))))))))
      (dss_one (ds_ret d_bl))))) (fun cdv Ar outer s H E => takes_of rfl rfl rfl rfl) (rd_law A)
end
/-! ### the end -/
theorem all_mk {l : PySem.W.OpenLaw} {w : World} {K : PySem.W.Frag} {h : Heap} {mg : Str → Option Value} {fa : Addr} (X : K.In h) (G : h.Ns mainGlobals mg) (hfa : mg "law" = some (.ref fa))
    {od_is_truth an_is_truth : Option Addr}
    {sl_is_truth : Array (Option Value)}
    {oc_is_truth kV_is_truth dc_is_truth pm_is_truth cd_is_truth ct_is_truth : Value}
    {f_is_truth : Addr}
    {od_is_number an_is_number : Option Addr}
    {sl_is_number : Array (Option Value)}
    {oc_is_number kV_is_number dc_is_number pm_is_number cd_is_number ct_is_number : Value}
    {f_is_number : Addr}
    {od_is_at_least an_is_at_least : Option Addr}
    {sl_is_at_least : Array (Option Value)}
    {oc_is_at_least kV_is_at_least dc_is_at_least pm_is_at_least cd_is_at_least ct_is_at_least : Value}
    {f_is_at_least : Addr}
    {od_is_whole an_is_whole : Option Addr}
    {sl_is_whole : Array (Option Value)}
    {oc_is_whole kV_is_whole dc_is_whole pm_is_whole cd_is_whole ct_is_whole : Value}
    {f_is_whole : Addr}
    {od_is_name an_is_name : Option Addr}
    {sl_is_name : Array (Option Value)}
    {oc_is_name kV_is_name dc_is_name pm_is_name cd_is_name ct_is_name : Value}
    {f_is_name : Addr}
    {od__is_made_of an__is_made_of : Option Addr}
    {sl__is_made_of : Array (Option Value)}
    {oc__is_made_of kV__is_made_of dc__is_made_of pm__is_made_of cd__is_made_of ct__is_made_of : Value}
    {f__is_made_of : Addr}
    {od_device_of an_device_of : Option Addr}
    {sl_device_of : Array (Option Value)}
    {oc_device_of kV_device_of dc_device_of pm_device_of cd_device_of ct_device_of : Value}
    {f_device_of : Addr}
    {od_is_told an_is_told : Option Addr}
    {sl_is_told : Array (Option Value)}
    {oc_is_told kV_is_told dc_is_told pm_is_told cd_is_told ct_is_told : Value}
    {f_is_told : Addr}
    {od__need_whole an__need_whole : Option Addr}
    {sl__need_whole : Array (Option Value)}
    {oc__need_whole kV__need_whole dc__need_whole pm__need_whole cd__need_whole ct__need_whole : Value}
    {f__need_whole : Addr}
    {od_is_link an_is_link : Option Addr}
    {sl_is_link : Array (Option Value)}
    {oc_is_link kV_is_link dc_is_link pm_is_link cd_is_link ct_is_link : Value}
    {f_is_link : Addr}
    {od_is_row an_is_row : Option Addr}
    {sl_is_row : Array (Option Value)}
    {oc_is_row kV_is_row dc_is_row pm_is_row cd_is_row ct_is_row : Value}
    {f_is_row : Addr}
    {od__are_words an__are_words : Option Addr}
    {sl__are_words : Array (Option Value)}
    {oc__are_words kV__are_words dc__are_words pm__are_words cd__are_words ct__are_words : Value}
    {f__are_words : Addr}
    {od__is_deed an__is_deed : Option Addr}
    {sl__is_deed : Array (Option Value)}
    {oc__is_deed kV__is_deed dc__is_deed pm__is_deed cd__is_deed ct__is_deed : Value}
    {f__is_deed : Addr}
    {od__is_end an__is_end : Option Addr}
    {sl__is_end : Array (Option Value)}
    {oc__is_end kV__is_end dc__is_end pm__is_end cd__is_end ct__is_end : Value}
    {f__is_end : Addr}
    {od__is_device_word an__is_device_word : Option Addr}
    {sl__is_device_word : Array (Option Value)}
    {oc__is_device_word kV__is_device_word dc__is_device_word pm__is_device_word cd__is_device_word ct__is_device_word : Value}
    {f__is_device_word : Addr}
    {od__are_links an__are_links : Option Addr}
    {sl__are_links : Array (Option Value)}
    {oc__are_links kV__are_links dc__are_links pm__are_links cd__are_links ct__are_links : Value}
    {f__are_links : Addr}
    {od__law_cell an__law_cell : Option Addr}
    {sl__law_cell : Array (Option Value)}
    {oc__law_cell kV__law_cell dc__law_cell pm__law_cell cd__law_cell ct__law_cell : Value}
    {f__law_cell : Addr}
    {od__law_box an__law_box : Option Addr}
    {sl__law_box : Array (Option Value)}
    {oc__law_box kV__law_box dc__law_box pm__law_box cd__law_box ct__law_box : Value}
    {f__law_box : Addr}
    {od__law_take an__law_take : Option Addr}
    {sl__law_take : Array (Option Value)}
    {oc__law_take kV__law_take dc__law_take pm__law_take cd__law_take ct__law_take : Value}
    {f__law_take : Addr}
    {od__law_names an__law_names : Option Addr}
    {sl__law_names : Array (Option Value)}
    {oc__law_names kV__law_names dc__law_names pm__law_names cd__law_names ct__law_names : Value}
    {f__law_names : Addr}
    {od__law_links an__law_links : Option Addr}
    {sl__law_links : Array (Option Value)}
    {oc__law_links kV__law_links dc__law_links pm__law_links cd__law_links ct__law_links : Value}
    {f__law_links : Addr}
    {od__law_told_device an__law_told_device : Option Addr}
    {sl__law_told_device : Array (Option Value)}
    {oc__law_told_device kV__law_told_device dc__law_told_device pm__law_told_device cd__law_told_device ct__law_told_device : Value}
    {f__law_told_device : Addr}
    {od__law_words an__law_words : Option Addr}
    {sl__law_words : Array (Option Value)}
    {oc__law_words kV__law_words dc__law_words pm__law_words cd__law_words ct__law_words : Value}
    {f__law_words : Addr}
    {od__law_told an__law_told : Option Addr}
    {sl__law_told : Array (Option Value)}
    {oc__law_told kV__law_told dc__law_told pm__law_told cd__law_told ct__law_told : Value}
    {f__law_told : Addr}
    {od__law_last an__law_last : Option Addr}
    {sl__law_last : Array (Option Value)}
    {oc__law_last kV__law_last dc__law_last pm__law_last cd__law_last ct__law_last : Value}
    {f__law_last : Addr}
    {od__law_refused an__law_refused : Option Addr}
    {sl__law_refused : Array (Option Value)}
    {oc__law_refused kV__law_refused dc__law_refused pm__law_refused cd__law_refused ct__law_refused : Value}
    {f__law_refused : Addr}
    {od__law_stands an__law_stands : Option Addr}
    {sl__law_stands : Array (Option Value)}
    {oc__law_stands kV__law_stands dc__law_stands pm__law_stands cd__law_stands ct__law_stands : Value}
    {f__law_stands : Addr}
    {od_law an_law : Option Addr}
    {sl_law : Array (Option Value)}
    {oc_law kV_law dc_law pm_law cd_law ct_law : Value}
    {f_law : Addr}
    {t__LETTERS : Tok}
    {t__NAME_SIGNS : Tok}
    {t_BURN : Tok}
    {t_SIP : Tok}
    {t_WAKE : Tok}
    {t_FALL : Tok}
    {t_REST : Tok}
    {t__MOST_BURN : Tok}
    {t__MOST_TURNS : Tok}
    {t__MOST_REST : Tok}
    {t__MANY_TOLD : Tok}
    {t_MOST_LINKS : Tok}
    {t__MOST_LAST : Tok}
    {U_WakeError : Addr}
    {C_NoName : Addr}
    {N_NoName : Addr}
    {nm_NoName q_NoName : Str}
    {bs_NoName sub_NoName : List Value}
    {sn_NoName : List Str}
    {ab_NoName : Bool}
    {col_NoName : Option Bool}
    {dd_NoName : Option Addr}
    {m0_NoName m1_NoName m2_NoName m3_NoName m5_NoName : Option Value}
    {od_NoName_init an_NoName_init : Option Addr}
    {sl_NoName_init : Array (Option Value)}
    {oc_NoName_init kV_NoName_init dc_NoName_init pm_NoName_init cd_NoName_init ct_NoName_init : Value}
    {f_NoName_init : Addr}
    {C_NoNumber : Addr}
    {N_NoNumber : Addr}
    {nm_NoNumber q_NoNumber : Str}
    {bs_NoNumber sub_NoNumber : List Value}
    {sn_NoNumber : List Str}
    {ab_NoNumber : Bool}
    {col_NoNumber : Option Bool}
    {dd_NoNumber : Option Addr}
    {m0_NoNumber m1_NoNumber m2_NoNumber m3_NoNumber m5_NoNumber : Option Value}
    {od_NoNumber_init an_NoNumber_init : Option Addr}
    {sl_NoNumber_init : Array (Option Value)}
    {oc_NoNumber_init kV_NoNumber_init dc_NoNumber_init pm_NoNumber_init cd_NoNumber_init ct_NoNumber_init : Value}
    {f_NoNumber_init : Addr}
    {C_NoLog : Addr}
    {N_NoLog : Addr}
    {nm_NoLog q_NoLog : Str}
    {bs_NoLog sub_NoLog : List Value}
    {sn_NoLog : List Str}
    {ab_NoLog : Bool}
    {col_NoLog : Option Bool}
    {dd_NoLog : Option Addr}
    {m0_NoLog m1_NoLog m2_NoLog m3_NoLog m5_NoLog : Option Value}
    {od_NoLog_init an_NoLog_init : Option Addr}
    {sl_NoLog_init : Array (Option Value)}
    {oc_NoLog_init kV_NoLog_init dc_NoLog_init pm_NoLog_init cd_NoLog_init ct_NoLog_init : Value}
    {f_NoLog_init : Addr}
    {C_Device : Addr}
    {od_Device_init an_Device_init : Option Addr}
    {sl_Device_init : Array (Option Value)}
    {oc_Device_init dc_Device_init pm_Device_init cd_Device_init ct_Device_init : Value}
    {f_Device_init : Addr}
    {D_Device_init : Addr}
    {kv_Device_init_parent : Value}
    {kv_Device_init_burn : Value}
    {kv_Device_init_sip : Value}
    {kv_Device_init_wake : Value}
    {kv_Device_init_fall : Value}
    {kv_Device_init_rest : Value}
    {C_Log : Addr}
    {od_Log_init an_Log_init : Option Addr}
    {sl_Log_init : Array (Option Value)}
    {oc_Log_init dc_Log_init pm_Log_init cd_Log_init ct_Log_init kV_Log_init : Value}
    {f_Log_init : Addr}
    {od_Log_add an_Log_add : Option Addr}
    {sl_Log_add : Array (Option Value)}
    {oc_Log_add kV_Log_add dc_Log_add pm_Log_add cd_Log_add ct_Log_add : Value}
    {f_Log_add : Addr}
    {od_Log_rows an_Log_rows : Option Addr}
    {sl_Log_rows : Array (Option Value)}
    {oc_Log_rows kV_Log_rows dc_Log_rows pm_Log_rows cd_Log_rows ct_Log_rows : Value}
    {f_Log_rows : Addr}
    {od_Log_last an_Log_last : Option Addr}
    {sl_Log_last : Array (Option Value)}
    {oc_Log_last dc_Log_last pm_Log_last cd_Log_last ct_Log_last kV_Log_last : Value}
    {f_Log_last : Addr}
    {T_Log_last : Addr}
    {td_Log_last : Option Addr}
    {tc_Log_last : Value}
    {tn_Log_last : Nat}
    {ts_Log_last : Array (Option Value)}
    {tv_Log_last_0 : Value}
    {od_Log_len an_Log_len : Option Addr}
    {sl_Log_len : Array (Option Value)}
    {oc_Log_len kV_Log_len dc_Log_len pm_Log_len cd_Log_len ct_Log_len : Value}
    {f_Log_len : Addr}
    {od_Log_copied an_Log_copied : Option Addr}
    {sl_Log_copied : Array (Option Value)}
    {oc_Log_copied kV_Log_copied dc_Log_copied pm_Log_copied cd_Log_copied ct_Log_copied : Value}
    {f_Log_copied : Addr}
    {T_PHASES : Addr}
    {td_PHASES : Option Addr}
    {tn_PHASES : Nat}
    {ts_PHASES : Array (Option Value)}
    {tk_PHASES_0 : Tok}
    {tk_PHASES_1 : Tok}
    {tk_PHASES_2 : Tok}
    {tk_PHASES_3 : Tok}
    {T_BELLS : Addr}
    {td_BELLS : Option Addr}
    {tn_BELLS : Nat}
    {ts_BELLS : Array (Option Value)}
    {tk_BELLS_0 : Tok}
    {tk_BELLS_1 : Tok}
    {tk_BELLS_2 : Tok}
    {tk_BELLS_3 : Tok}
    {T_STATES : Addr}
    {td_STATES : Option Addr}
    {tn_STATES : Nat}
    {ts_STATES : Array (Option Value)}
    {tk_STATES_0 : Tok}
    {tk_STATES_1 : Tok}
    {tk_STATES_2 : Tok}
    {tk_STATES_3 : Tok}
    {tk_STATES_4 : Tok}
    {tk_STATES_5 : Tok}
    {tk_STATES_6 : Tok}
    {tk_STATES_7 : Tok}
    {tk_STATES_8 : Tok}
    {T__UNDONE : Addr}
    {td__UNDONE : Option Addr}
    {tn__UNDONE : Nat}
    {ts__UNDONE : Array (Option Value)}
    {tk__UNDONE_0 : Tok}
    {tk__UNDONE_1 : Tok}
    {tk__UNDONE_2 : Tok}
    {tk__UNDONE_3 : Tok}
    {T__DEVICE_DEEDS : Addr}
    {td__DEVICE_DEEDS : Option Addr}
    {tn__DEVICE_DEEDS : Nat}
    {ts__DEVICE_DEEDS : Array (Option Value)}
    {tk__DEVICE_DEEDS_0 : Tok}
    {tk__DEVICE_DEEDS_1 : Tok}
    {T__MACHINE_DEEDS : Addr}
    {td__MACHINE_DEEDS : Option Addr}
    {tn__MACHINE_DEEDS : Nat}
    {ts__MACHINE_DEEDS : Array (Option Value)}
    {tk__MACHINE_DEEDS_0 : Tok}
    {tk__MACHINE_DEEDS_1 : Tok}
    {tk__MACHINE_DEEDS_2 : Tok}
    {T__ANSWERS : Addr}
    {td__ANSWERS : Option Addr}
    {tn__ANSWERS : Nat}
    {ts__ANSWERS : Array (Option Value)}
    {tk__ANSWERS_0 : Tok}
    {tk__ANSWERS_1 : Tok}
    {tk__ANSWERS_2 : Tok}
    (a_is_truth : PySem.W.nsIn K mainGlobals "is_truth" = some (some (.ref f_is_truth)))
    (l_is_truth : K.lookup f_is_truth = some ⟨oc_is_truth, od_is_truth, .func (PySem.W.fnOf "is_truth" "is_truth" (defArgs s_is_truth) (defBody s_is_truth) (defScope s_is_truth) .none kV_is_truth dc_is_truth pm_is_truth an_is_truth cd_is_truth ct_is_truth), sl_is_truth⟩)
    (c_is_truth : PySem.W.codeIn K cd_is_truth "is_truth" = true)
    (k_is_truth : PySem.W.keepIn K (.ref f_is_truth) = true)
    (a_is_number : PySem.W.nsIn K mainGlobals "is_number" = some (some (.ref f_is_number)))
    (l_is_number : K.lookup f_is_number = some ⟨oc_is_number, od_is_number, .func (PySem.W.fnOf "is_number" "is_number" (defArgs s_is_number) (defBody s_is_number) (defScope s_is_number) .none kV_is_number dc_is_number pm_is_number an_is_number cd_is_number ct_is_number), sl_is_number⟩)
    (c_is_number : PySem.W.codeIn K cd_is_number "is_number" = true)
    (k_is_number : PySem.W.keepIn K (.ref f_is_number) = true)
    (a_is_at_least : PySem.W.nsIn K mainGlobals "is_at_least" = some (some (.ref f_is_at_least)))
    (l_is_at_least : K.lookup f_is_at_least = some ⟨oc_is_at_least, od_is_at_least, .func (PySem.W.fnOf "is_at_least" "is_at_least" (defArgs s_is_at_least) (defBody s_is_at_least) (defScope s_is_at_least) .none kV_is_at_least dc_is_at_least pm_is_at_least an_is_at_least cd_is_at_least ct_is_at_least), sl_is_at_least⟩)
    (c_is_at_least : PySem.W.codeIn K cd_is_at_least "is_at_least" = true)
    (k_is_at_least : PySem.W.keepIn K (.ref f_is_at_least) = true)
    (a_is_whole : PySem.W.nsIn K mainGlobals "is_whole" = some (some (.ref f_is_whole)))
    (l_is_whole : K.lookup f_is_whole = some ⟨oc_is_whole, od_is_whole, .func (PySem.W.fnOf "is_whole" "is_whole" (defArgs s_is_whole) (defBody s_is_whole) (defScope s_is_whole) .none kV_is_whole dc_is_whole pm_is_whole an_is_whole cd_is_whole ct_is_whole), sl_is_whole⟩)
    (c_is_whole : PySem.W.codeIn K cd_is_whole "is_whole" = true)
    (k_is_whole : PySem.W.keepIn K (.ref f_is_whole) = true)
    (a_is_name : PySem.W.nsIn K mainGlobals "is_name" = some (some (.ref f_is_name)))
    (l_is_name : K.lookup f_is_name = some ⟨oc_is_name, od_is_name, .func (PySem.W.fnOf "is_name" "is_name" (defArgs s_is_name) (defBody s_is_name) (defScope s_is_name) .none kV_is_name dc_is_name pm_is_name an_is_name cd_is_name ct_is_name), sl_is_name⟩)
    (c_is_name : PySem.W.codeIn K cd_is_name "is_name" = true)
    (k_is_name : PySem.W.keepIn K (.ref f_is_name) = true)
    (a__is_made_of : PySem.W.nsIn K mainGlobals "_is_made_of" = some (some (.ref f__is_made_of)))
    (l__is_made_of : K.lookup f__is_made_of = some ⟨oc__is_made_of, od__is_made_of, .func (PySem.W.fnOf "_is_made_of" "_is_made_of" (defArgs s__is_made_of) (defBody s__is_made_of) (defScope s__is_made_of) .none kV__is_made_of dc__is_made_of pm__is_made_of an__is_made_of cd__is_made_of ct__is_made_of), sl__is_made_of⟩)
    (c__is_made_of : PySem.W.codeIn K cd__is_made_of "_is_made_of" = true)
    (k__is_made_of : PySem.W.keepIn K (.ref f__is_made_of) = true)
    (a_device_of : PySem.W.nsIn K mainGlobals "device_of" = some (some (.ref f_device_of)))
    (l_device_of : K.lookup f_device_of = some ⟨oc_device_of, od_device_of, .func (PySem.W.fnOf "device_of" "device_of" (defArgs s_device_of) (defBody s_device_of) (defScope s_device_of) .none kV_device_of dc_device_of pm_device_of an_device_of cd_device_of ct_device_of), sl_device_of⟩)
    (c_device_of : PySem.W.codeIn K cd_device_of "device_of" = true)
    (k_device_of : PySem.W.keepIn K (.ref f_device_of) = true)
    (a_is_told : PySem.W.nsIn K mainGlobals "is_told" = some (some (.ref f_is_told)))
    (l_is_told : K.lookup f_is_told = some ⟨oc_is_told, od_is_told, .func (PySem.W.fnOf "is_told" "is_told" (defArgs s_is_told) (defBody s_is_told) (defScope s_is_told) .none kV_is_told dc_is_told pm_is_told an_is_told cd_is_told ct_is_told), sl_is_told⟩)
    (c_is_told : PySem.W.codeIn K cd_is_told "is_told" = true)
    (k_is_told : PySem.W.keepIn K (.ref f_is_told) = true)
    (a__need_whole : PySem.W.nsIn K mainGlobals "_need_whole" = some (some (.ref f__need_whole)))
    (l__need_whole : K.lookup f__need_whole = some ⟨oc__need_whole, od__need_whole, .func (PySem.W.fnOf "_need_whole" "_need_whole" (defArgs s__need_whole) (defBody s__need_whole) (defScope s__need_whole) .none kV__need_whole dc__need_whole pm__need_whole an__need_whole cd__need_whole ct__need_whole), sl__need_whole⟩)
    (c__need_whole : PySem.W.codeIn K cd__need_whole "_need_whole" = true)
    (k__need_whole : PySem.W.keepIn K (.ref f__need_whole) = true)
    (a_is_link : PySem.W.nsIn K mainGlobals "is_link" = some (some (.ref f_is_link)))
    (l_is_link : K.lookup f_is_link = some ⟨oc_is_link, od_is_link, .func (PySem.W.fnOf "is_link" "is_link" (defArgs s_is_link) (defBody s_is_link) (defScope s_is_link) .none kV_is_link dc_is_link pm_is_link an_is_link cd_is_link ct_is_link), sl_is_link⟩)
    (c_is_link : PySem.W.codeIn K cd_is_link "is_link" = true)
    (k_is_link : PySem.W.keepIn K (.ref f_is_link) = true)
    (a_is_row : PySem.W.nsIn K mainGlobals "is_row" = some (some (.ref f_is_row)))
    (l_is_row : K.lookup f_is_row = some ⟨oc_is_row, od_is_row, .func (PySem.W.fnOf "is_row" "is_row" (defArgs s_is_row) (defBody s_is_row) (defScope s_is_row) .none kV_is_row dc_is_row pm_is_row an_is_row cd_is_row ct_is_row), sl_is_row⟩)
    (c_is_row : PySem.W.codeIn K cd_is_row "is_row" = true)
    (k_is_row : PySem.W.keepIn K (.ref f_is_row) = true)
    (a__are_words : PySem.W.nsIn K mainGlobals "_are_words" = some (some (.ref f__are_words)))
    (l__are_words : K.lookup f__are_words = some ⟨oc__are_words, od__are_words, .func (PySem.W.fnOf "_are_words" "_are_words" (defArgs s__are_words) (defBody s__are_words) (defScope s__are_words) .none kV__are_words dc__are_words pm__are_words an__are_words cd__are_words ct__are_words), sl__are_words⟩)
    (c__are_words : PySem.W.codeIn K cd__are_words "_are_words" = true)
    (k__are_words : PySem.W.keepIn K (.ref f__are_words) = true)
    (a__is_deed : PySem.W.nsIn K mainGlobals "_is_deed" = some (some (.ref f__is_deed)))
    (l__is_deed : K.lookup f__is_deed = some ⟨oc__is_deed, od__is_deed, .func (PySem.W.fnOf "_is_deed" "_is_deed" (defArgs s__is_deed) (defBody s__is_deed) (defScope s__is_deed) .none kV__is_deed dc__is_deed pm__is_deed an__is_deed cd__is_deed ct__is_deed), sl__is_deed⟩)
    (c__is_deed : PySem.W.codeIn K cd__is_deed "_is_deed" = true)
    (k__is_deed : PySem.W.keepIn K (.ref f__is_deed) = true)
    (a__is_end : PySem.W.nsIn K mainGlobals "_is_end" = some (some (.ref f__is_end)))
    (l__is_end : K.lookup f__is_end = some ⟨oc__is_end, od__is_end, .func (PySem.W.fnOf "_is_end" "_is_end" (defArgs s__is_end) (defBody s__is_end) (defScope s__is_end) .none kV__is_end dc__is_end pm__is_end an__is_end cd__is_end ct__is_end), sl__is_end⟩)
    (c__is_end : PySem.W.codeIn K cd__is_end "_is_end" = true)
    (k__is_end : PySem.W.keepIn K (.ref f__is_end) = true)
    (a__is_device_word : PySem.W.nsIn K mainGlobals "_is_device_word" = some (some (.ref f__is_device_word)))
    (l__is_device_word : K.lookup f__is_device_word = some ⟨oc__is_device_word, od__is_device_word, .func (PySem.W.fnOf "_is_device_word" "_is_device_word" (defArgs s__is_device_word) (defBody s__is_device_word) (defScope s__is_device_word) .none kV__is_device_word dc__is_device_word pm__is_device_word an__is_device_word cd__is_device_word ct__is_device_word), sl__is_device_word⟩)
    (c__is_device_word : PySem.W.codeIn K cd__is_device_word "_is_device_word" = true)
    (k__is_device_word : PySem.W.keepIn K (.ref f__is_device_word) = true)
    (a__are_links : PySem.W.nsIn K mainGlobals "_are_links" = some (some (.ref f__are_links)))
    (l__are_links : K.lookup f__are_links = some ⟨oc__are_links, od__are_links, .func (PySem.W.fnOf "_are_links" "_are_links" (defArgs s__are_links) (defBody s__are_links) (defScope s__are_links) .none kV__are_links dc__are_links pm__are_links an__are_links cd__are_links ct__are_links), sl__are_links⟩)
    (c__are_links : PySem.W.codeIn K cd__are_links "_are_links" = true)
    (k__are_links : PySem.W.keepIn K (.ref f__are_links) = true)
    (a__law_cell : PySem.W.nsIn K mainGlobals "_law_cell" = some (some (.ref f__law_cell)))
    (l__law_cell : K.lookup f__law_cell = some ⟨oc__law_cell, od__law_cell, .func (PySem.W.fnOf "_law_cell" "_law_cell" (defArgs s__law_cell) (defBody s__law_cell) (defScope s__law_cell) .none kV__law_cell dc__law_cell pm__law_cell an__law_cell cd__law_cell ct__law_cell), sl__law_cell⟩)
    (c__law_cell : PySem.W.codeIn K cd__law_cell "_law_cell" = true)
    (k__law_cell : PySem.W.keepIn K (.ref f__law_cell) = true)
    (a__law_box : PySem.W.nsIn K mainGlobals "_law_box" = some (some (.ref f__law_box)))
    (l__law_box : K.lookup f__law_box = some ⟨oc__law_box, od__law_box, .func (PySem.W.fnOf "_law_box" "_law_box" (defArgs s__law_box) (defBody s__law_box) (defScope s__law_box) .none kV__law_box dc__law_box pm__law_box an__law_box cd__law_box ct__law_box), sl__law_box⟩)
    (c__law_box : PySem.W.codeIn K cd__law_box "_law_box" = true)
    (k__law_box : PySem.W.keepIn K (.ref f__law_box) = true)
    (a__law_take : PySem.W.nsIn K mainGlobals "_law_take" = some (some (.ref f__law_take)))
    (l__law_take : K.lookup f__law_take = some ⟨oc__law_take, od__law_take, .func (PySem.W.fnOf "_law_take" "_law_take" (defArgs s__law_take) (defBody s__law_take) (defScope s__law_take) .none kV__law_take dc__law_take pm__law_take an__law_take cd__law_take ct__law_take), sl__law_take⟩)
    (c__law_take : PySem.W.codeIn K cd__law_take "_law_take" = true)
    (k__law_take : PySem.W.keepIn K (.ref f__law_take) = true)
    (a__law_names : PySem.W.nsIn K mainGlobals "_law_names" = some (some (.ref f__law_names)))
    (l__law_names : K.lookup f__law_names = some ⟨oc__law_names, od__law_names, .func (PySem.W.fnOf "_law_names" "_law_names" (defArgs s__law_names) (defBody s__law_names) (defScope s__law_names) .none kV__law_names dc__law_names pm__law_names an__law_names cd__law_names ct__law_names), sl__law_names⟩)
    (c__law_names : PySem.W.codeIn K cd__law_names "_law_names" = true)
    (k__law_names : PySem.W.keepIn K (.ref f__law_names) = true)
    (a__law_links : PySem.W.nsIn K mainGlobals "_law_links" = some (some (.ref f__law_links)))
    (l__law_links : K.lookup f__law_links = some ⟨oc__law_links, od__law_links, .func (PySem.W.fnOf "_law_links" "_law_links" (defArgs s__law_links) (defBody s__law_links) (defScope s__law_links) .none kV__law_links dc__law_links pm__law_links an__law_links cd__law_links ct__law_links), sl__law_links⟩)
    (c__law_links : PySem.W.codeIn K cd__law_links "_law_links" = true)
    (k__law_links : PySem.W.keepIn K (.ref f__law_links) = true)
    (a__law_told_device : PySem.W.nsIn K mainGlobals "_law_told_device" = some (some (.ref f__law_told_device)))
    (l__law_told_device : K.lookup f__law_told_device = some ⟨oc__law_told_device, od__law_told_device, .func (PySem.W.fnOf "_law_told_device" "_law_told_device" (defArgs s__law_told_device) (defBody s__law_told_device) (defScope s__law_told_device) .none kV__law_told_device dc__law_told_device pm__law_told_device an__law_told_device cd__law_told_device ct__law_told_device), sl__law_told_device⟩)
    (c__law_told_device : PySem.W.codeIn K cd__law_told_device "_law_told_device" = true)
    (k__law_told_device : PySem.W.keepIn K (.ref f__law_told_device) = true)
    (a__law_words : PySem.W.nsIn K mainGlobals "_law_words" = some (some (.ref f__law_words)))
    (l__law_words : K.lookup f__law_words = some ⟨oc__law_words, od__law_words, .func (PySem.W.fnOf "_law_words" "_law_words" (defArgs s__law_words) (defBody s__law_words) (defScope s__law_words) .none kV__law_words dc__law_words pm__law_words an__law_words cd__law_words ct__law_words), sl__law_words⟩)
    (c__law_words : PySem.W.codeIn K cd__law_words "_law_words" = true)
    (k__law_words : PySem.W.keepIn K (.ref f__law_words) = true)
    (a__law_told : PySem.W.nsIn K mainGlobals "_law_told" = some (some (.ref f__law_told)))
    (l__law_told : K.lookup f__law_told = some ⟨oc__law_told, od__law_told, .func (PySem.W.fnOf "_law_told" "_law_told" (defArgs s__law_told) (defBody s__law_told) (defScope s__law_told) .none kV__law_told dc__law_told pm__law_told an__law_told cd__law_told ct__law_told), sl__law_told⟩)
    (c__law_told : PySem.W.codeIn K cd__law_told "_law_told" = true)
    (k__law_told : PySem.W.keepIn K (.ref f__law_told) = true)
    (a__law_last : PySem.W.nsIn K mainGlobals "_law_last" = some (some (.ref f__law_last)))
    (l__law_last : K.lookup f__law_last = some ⟨oc__law_last, od__law_last, .func (PySem.W.fnOf "_law_last" "_law_last" (defArgs s__law_last) (defBody s__law_last) (defScope s__law_last) .none kV__law_last dc__law_last pm__law_last an__law_last cd__law_last ct__law_last), sl__law_last⟩)
    (c__law_last : PySem.W.codeIn K cd__law_last "_law_last" = true)
    (k__law_last : PySem.W.keepIn K (.ref f__law_last) = true)
    (a__law_refused : PySem.W.nsIn K mainGlobals "_law_refused" = some (some (.ref f__law_refused)))
    (l__law_refused : K.lookup f__law_refused = some ⟨oc__law_refused, od__law_refused, .func (PySem.W.fnOf "_law_refused" "_law_refused" (defArgs s__law_refused) (defBody s__law_refused) (defScope s__law_refused) .none kV__law_refused dc__law_refused pm__law_refused an__law_refused cd__law_refused ct__law_refused), sl__law_refused⟩)
    (c__law_refused : PySem.W.codeIn K cd__law_refused "_law_refused" = true)
    (k__law_refused : PySem.W.keepIn K (.ref f__law_refused) = true)
    (a__law_stands : PySem.W.nsIn K mainGlobals "_law_stands" = some (some (.ref f__law_stands)))
    (l__law_stands : K.lookup f__law_stands = some ⟨oc__law_stands, od__law_stands, .func (PySem.W.fnOf "_law_stands" "_law_stands" (defArgs s__law_stands) (defBody s__law_stands) (defScope s__law_stands) .none kV__law_stands dc__law_stands pm__law_stands an__law_stands cd__law_stands ct__law_stands), sl__law_stands⟩)
    (c__law_stands : PySem.W.codeIn K cd__law_stands "_law_stands" = true)
    (k__law_stands : PySem.W.keepIn K (.ref f__law_stands) = true)
    (a_law : PySem.W.nsIn K mainGlobals "law" = some (some (.ref f_law)))
    (l_law : K.lookup f_law = some ⟨oc_law, od_law, .func (PySem.W.fnOf "law" "law" (defArgs s_law) (defBody s_law) (defScope s_law) .none kV_law dc_law pm_law an_law cd_law ct_law), sl_law⟩)
    (c_law : PySem.W.codeIn K cd_law "law" = true)
    (k_law : PySem.W.keepIn K (.ref f_law) = true)
    (z_all : PySem.W.nsIn K mainGlobals "all" = some none)
    (z_bool : PySem.W.nsIn K mainGlobals "bool" = some none)
    (z_int : PySem.W.nsIn K mainGlobals "int" = some none)
    (z_isinstance : PySem.W.nsIn K mainGlobals "isinstance" = some none)
    (z_len : PySem.W.nsIn K mainGlobals "len" = some none)
    (z_list : PySem.W.nsIn K mainGlobals "list" = some none)
    (z_max : PySem.W.nsIn K mainGlobals "max" = some none)
    (z_min : PySem.W.nsIn K mainGlobals "min" = some none)
    (z_range : PySem.W.nsIn K mainGlobals "range" = some none)
    (z_repr : PySem.W.nsIn K mainGlobals "repr" = some none)
    (z_str : PySem.W.nsIn K mainGlobals "str" = some none)
    (z_tuple : PySem.W.nsIn K mainGlobals "tuple" = some none)
    (z_zip : PySem.W.nsIn K mainGlobals "zip" = some none)
    (v__LETTERS : PySem.W.nsIn K mainGlobals "_LETTERS" = some (some (.str "abcdefghijklmnopqrstuvwxyz" t__LETTERS)))
    (v__NAME_SIGNS : PySem.W.nsIn K mainGlobals "_NAME_SIGNS" = some (some (.int 8 t__NAME_SIGNS)))
    (v_BURN : PySem.W.nsIn K mainGlobals "BURN" = some (some (.int 5 t_BURN)))
    (v_SIP : PySem.W.nsIn K mainGlobals "SIP" = some (some (.int 1 t_SIP)))
    (v_WAKE : PySem.W.nsIn K mainGlobals "WAKE" = some (some (.int 1 t_WAKE)))
    (v_FALL : PySem.W.nsIn K mainGlobals "FALL" = some (some (.int 1 t_FALL)))
    (v_REST : PySem.W.nsIn K mainGlobals "REST" = some (some (.int 0 t_REST)))
    (v__MOST_BURN : PySem.W.nsIn K mainGlobals "_MOST_BURN" = some (some (.int 100 t__MOST_BURN)))
    (v__MOST_TURNS : PySem.W.nsIn K mainGlobals "_MOST_TURNS" = some (some (.int 5 t__MOST_TURNS)))
    (v__MOST_REST : PySem.W.nsIn K mainGlobals "_MOST_REST" = some (some (.int 9 t__MOST_REST)))
    (v__MANY_TOLD : PySem.W.nsIn K mainGlobals "_MANY_TOLD" = some (some (.int 7 t__MANY_TOLD)))
    (v_MOST_LINKS : PySem.W.nsIn K mainGlobals "MOST_LINKS" = some (some (.int 16 t_MOST_LINKS)))
    (v__MOST_LAST : PySem.W.nsIn K mainGlobals "_MOST_LAST" = some (some (.int 1000 t__MOST_LAST)))
    (u_WakeError : PySem.W.nsIn K mainGlobals "WakeError" = some (some (.ref U_WakeError)))
    (ur_WakeError : PySem.W.readsIn K U_WakeError (.type "type") = true)
    (ug_WakeError : PySem.W.specialIn K (.ref U_WakeError) "__getattribute__" = some (some (.builtin "type.__getattribute__")))
    (ui_WakeError : PySem.W.findCls K (.ref U_WakeError) (.type "type") "__init__" = some (.val (.builtin "ValueError.__init__")))
    (hn : PySem.W.specialIn K (.builtin "object.__class__") "__get__" = some (some (.builtin "getset_descriptor.__get__")))
    (htk : PySem.W.takesIn K (.builtin "object.__class__") = some true)
    (e_NoName : PySem.W.nsIn K mainGlobals "NoName" = some (some (.ref C_NoName)))
    (ex_NoName : K.lookup C_NoName = some (excClassObj nm_NoName q_NoName C_NoName N_NoName bs_NoName [.ref U_WakeError, .type "ValueError", .type "Exception", .type "BaseException", .type "object"] true sn_NoName sub_NoName ab_NoName col_NoName dd_NoName m0_NoName m1_NoName m2_NoName m3_NoName m5_NoName "ValueError.__new__"))
    (ei_NoName : PySem.W.findIn K (.ref C_NoName) "__init__" = some (some (.ref f_NoName_init)))
    (l_NoName_init : K.lookup f_NoName_init = some ⟨oc_NoName_init, od_NoName_init, .func (PySem.W.fnOf "__init__" "NoName.__init__" (defArgs s_NoName_init) (defBody s_NoName_init) (defScope s_NoName_init) .none kV_NoName_init dc_NoName_init pm_NoName_init an_NoName_init cd_NoName_init ct_NoName_init), sl_NoName_init⟩)
    (c_NoName_init : PySem.W.codeIn K cd_NoName_init "NoName.__init__" = true)
    (k_NoName_init : PySem.W.keepIn K (.ref f_NoName_init) = true)
    (et_NoName : PySem.W.typeIn K (.ref f_NoName_init) = some (.type "function"))
    (esa_NoName : PySem.W.findIn K (.ref C_NoName) "__setattr__" = some (some (.builtin "object.__setattr__")))
    (ega_NoName : PySem.W.findIn K (.ref C_NoName) "__getattribute__" = some (some (.builtin "BaseException.__getattribute__")))
    (egt_NoName : PySem.W.findIn K (.ref C_NoName) "__getattr__" = some none)
    (enf_NoName : PySem.W.findIn K (.ref C_NoName) "found" = some none)
    (ecl_NoName : PySem.W.findIn K (.ref C_NoName) "__class__" = some (some (.builtin "object.__class__")))
    (esb_NoName : PySem.W.subIn K (.ref C_NoName) (.type "BaseException") = some true)
    (ety_NoName : PySem.W.typeIn K (.ref C_NoName) = some (.type "type"))
    (ekp_NoName : PySem.W.keepIn K (.ref C_NoName) = true)
    (eic_NoName : PySem.W.isClsIn K C_NoName = true)
    (emr_NoName : PySem.W.mroIn K C_NoName (.type "object") = some true)
    (ek1_NoName : PySem.W.subIn K (.ref C_NoName) (.type "int") = some false)
    (ek2_NoName : PySem.W.subIn K (.ref C_NoName) (.type "bool") = some false)
    (ek3_NoName : PySem.W.subIn K (.ref C_NoName) (.type "str") = some false)
    (ek4_NoName : PySem.W.subIn K (.ref C_NoName) (.type "list") = some false)
    (ek5_NoName : PySem.W.subIn K (.ref C_NoName) (.type "tuple") = some false)
    (ek6_NoName : PySem.W.subIn K (.ref C_NoName) (.type "dict") = some false)
    (e_NoNumber : PySem.W.nsIn K mainGlobals "NoNumber" = some (some (.ref C_NoNumber)))
    (ex_NoNumber : K.lookup C_NoNumber = some (excClassObj nm_NoNumber q_NoNumber C_NoNumber N_NoNumber bs_NoNumber [.ref U_WakeError, .type "ValueError", .type "Exception", .type "BaseException", .type "object"] true sn_NoNumber sub_NoNumber ab_NoNumber col_NoNumber dd_NoNumber m0_NoNumber m1_NoNumber m2_NoNumber m3_NoNumber m5_NoNumber "ValueError.__new__"))
    (ei_NoNumber : PySem.W.findIn K (.ref C_NoNumber) "__init__" = some (some (.ref f_NoNumber_init)))
    (l_NoNumber_init : K.lookup f_NoNumber_init = some ⟨oc_NoNumber_init, od_NoNumber_init, .func (PySem.W.fnOf "__init__" "NoNumber.__init__" (defArgs s_NoNumber_init) (defBody s_NoNumber_init) (defScope s_NoNumber_init) .none kV_NoNumber_init dc_NoNumber_init pm_NoNumber_init an_NoNumber_init cd_NoNumber_init ct_NoNumber_init), sl_NoNumber_init⟩)
    (c_NoNumber_init : PySem.W.codeIn K cd_NoNumber_init "NoNumber.__init__" = true)
    (k_NoNumber_init : PySem.W.keepIn K (.ref f_NoNumber_init) = true)
    (et_NoNumber : PySem.W.typeIn K (.ref f_NoNumber_init) = some (.type "function"))
    (esa_NoNumber : PySem.W.findIn K (.ref C_NoNumber) "__setattr__" = some (some (.builtin "object.__setattr__")))
    (ega_NoNumber : PySem.W.findIn K (.ref C_NoNumber) "__getattribute__" = some (some (.builtin "BaseException.__getattribute__")))
    (egt_NoNumber : PySem.W.findIn K (.ref C_NoNumber) "__getattr__" = some none)
    (enf_NoNumber : PySem.W.findIn K (.ref C_NoNumber) "found" = some none)
    (ecl_NoNumber : PySem.W.findIn K (.ref C_NoNumber) "__class__" = some (some (.builtin "object.__class__")))
    (esb_NoNumber : PySem.W.subIn K (.ref C_NoNumber) (.type "BaseException") = some true)
    (ety_NoNumber : PySem.W.typeIn K (.ref C_NoNumber) = some (.type "type"))
    (ekp_NoNumber : PySem.W.keepIn K (.ref C_NoNumber) = true)
    (eic_NoNumber : PySem.W.isClsIn K C_NoNumber = true)
    (emr_NoNumber : PySem.W.mroIn K C_NoNumber (.type "object") = some true)
    (ek1_NoNumber : PySem.W.subIn K (.ref C_NoNumber) (.type "int") = some false)
    (ek2_NoNumber : PySem.W.subIn K (.ref C_NoNumber) (.type "bool") = some false)
    (ek3_NoNumber : PySem.W.subIn K (.ref C_NoNumber) (.type "str") = some false)
    (ek4_NoNumber : PySem.W.subIn K (.ref C_NoNumber) (.type "list") = some false)
    (ek5_NoNumber : PySem.W.subIn K (.ref C_NoNumber) (.type "tuple") = some false)
    (ek6_NoNumber : PySem.W.subIn K (.ref C_NoNumber) (.type "dict") = some false)
    (e_NoLog : PySem.W.nsIn K mainGlobals "NoLog" = some (some (.ref C_NoLog)))
    (ex_NoLog : K.lookup C_NoLog = some (excClassObj nm_NoLog q_NoLog C_NoLog N_NoLog bs_NoLog [.ref U_WakeError, .type "ValueError", .type "Exception", .type "BaseException", .type "object"] true sn_NoLog sub_NoLog ab_NoLog col_NoLog dd_NoLog m0_NoLog m1_NoLog m2_NoLog m3_NoLog m5_NoLog "ValueError.__new__"))
    (ei_NoLog : PySem.W.findIn K (.ref C_NoLog) "__init__" = some (some (.ref f_NoLog_init)))
    (l_NoLog_init : K.lookup f_NoLog_init = some ⟨oc_NoLog_init, od_NoLog_init, .func (PySem.W.fnOf "__init__" "NoLog.__init__" (defArgs s_NoLog_init) (defBody s_NoLog_init) (defScope s_NoLog_init) .none kV_NoLog_init dc_NoLog_init pm_NoLog_init an_NoLog_init cd_NoLog_init ct_NoLog_init), sl_NoLog_init⟩)
    (c_NoLog_init : PySem.W.codeIn K cd_NoLog_init "NoLog.__init__" = true)
    (k_NoLog_init : PySem.W.keepIn K (.ref f_NoLog_init) = true)
    (et_NoLog : PySem.W.typeIn K (.ref f_NoLog_init) = some (.type "function"))
    (esa_NoLog : PySem.W.findIn K (.ref C_NoLog) "__setattr__" = some (some (.builtin "object.__setattr__")))
    (ega_NoLog : PySem.W.findIn K (.ref C_NoLog) "__getattribute__" = some (some (.builtin "BaseException.__getattribute__")))
    (egt_NoLog : PySem.W.findIn K (.ref C_NoLog) "__getattr__" = some none)
    (enf_NoLog : PySem.W.findIn K (.ref C_NoLog) "found" = some none)
    (ecl_NoLog : PySem.W.findIn K (.ref C_NoLog) "__class__" = some (some (.builtin "object.__class__")))
    (esb_NoLog : PySem.W.subIn K (.ref C_NoLog) (.type "BaseException") = some true)
    (ety_NoLog : PySem.W.typeIn K (.ref C_NoLog) = some (.type "type"))
    (ekp_NoLog : PySem.W.keepIn K (.ref C_NoLog) = true)
    (eic_NoLog : PySem.W.isClsIn K C_NoLog = true)
    (emr_NoLog : PySem.W.mroIn K C_NoLog (.type "object") = some true)
    (ek1_NoLog : PySem.W.subIn K (.ref C_NoLog) (.type "int") = some false)
    (ek2_NoLog : PySem.W.subIn K (.ref C_NoLog) (.type "bool") = some false)
    (ek3_NoLog : PySem.W.subIn K (.ref C_NoLog) (.type "str") = some false)
    (ek4_NoLog : PySem.W.subIn K (.ref C_NoLog) (.type "list") = some false)
    (ek5_NoLog : PySem.W.subIn K (.ref C_NoLog) (.type "tuple") = some false)
    (ek6_NoLog : PySem.W.subIn K (.ref C_NoLog) (.type "dict") = some false)
    (es_NoName_NoName : PySem.W.subIn K (.ref C_NoName) (.ref C_NoName) = some true)
    (es_NoName_NoNumber : PySem.W.subIn K (.ref C_NoName) (.ref C_NoNumber) = some false)
    (es_NoName_NoLog : PySem.W.subIn K (.ref C_NoName) (.ref C_NoLog) = some false)
    (es_NoNumber_NoName : PySem.W.subIn K (.ref C_NoNumber) (.ref C_NoName) = some false)
    (es_NoNumber_NoNumber : PySem.W.subIn K (.ref C_NoNumber) (.ref C_NoNumber) = some true)
    (es_NoNumber_NoLog : PySem.W.subIn K (.ref C_NoNumber) (.ref C_NoLog) = some false)
    (es_NoLog_NoName : PySem.W.subIn K (.ref C_NoLog) (.ref C_NoName) = some false)
    (es_NoLog_NoNumber : PySem.W.subIn K (.ref C_NoLog) (.ref C_NoNumber) = some false)
    (es_NoLog_NoLog : PySem.W.subIn K (.ref C_NoLog) (.ref C_NoLog) = some true)
    (i1_Device : PySem.W.nsIn K mainGlobals "Device" = some (some (.ref C_Device)))
    (i2_Device : PySem.W.plainGet K C_Device Str.empty = true)
    (i3_Device : PySem.W.hasDictIn K C_Device = true)
    (i4_Device : PySem.W.plainOver K C_Device = true)
    (i5_Device : PySem.W.findIn K (.ref C_Device) "__setattr__" = some (some (.builtin "object.__setattr__")))
    (i6_Device : PySem.W.makesIn K C_Device = true)
    (i7_Device : PySem.W.findIn K (.ref C_Device) "__init__" = some (some (.ref f_Device_init)))
    (l_Device_init : K.lookup f_Device_init = some ⟨oc_Device_init, od_Device_init, .func (PySem.W.fnOf "__init__" "Device.__init__" (defArgs s_Device_init) (defBody s_Device_init) (defScope s_Device_init) .none (.ref D_Device_init) dc_Device_init pm_Device_init an_Device_init cd_Device_init ct_Device_init), sl_Device_init⟩)
    (c_Device_init : PySem.W.codeIn K cd_Device_init "Device.__init__" = true)
    (k_Device_init : PySem.W.keepIn K (.ref f_Device_init) = true)
    (w_Device_init_parent : PySem.W.nsIn K D_Device_init "parent" = some (some kv_Device_init_parent))
    (w_Device_init_burn : PySem.W.nsIn K D_Device_init "burn" = some (some kv_Device_init_burn))
    (w_Device_init_sip : PySem.W.nsIn K D_Device_init "sip" = some (some kv_Device_init_sip))
    (w_Device_init_wake : PySem.W.nsIn K D_Device_init "wake" = some (some kv_Device_init_wake))
    (w_Device_init_fall : PySem.W.nsIn K D_Device_init "fall" = some (some kv_Device_init_fall))
    (w_Device_init_rest : PySem.W.nsIn K D_Device_init "rest" = some (some kv_Device_init_rest))
    (i8_Device : PySem.W.isFn K (.ref f_Device_init) = true)
    (i9_Device : PySem.W.keepIn K (.ref C_Device) = true)
    (if_Device__told : PySem.W.findIn K (.ref C_Device) "_told" = some none)
    (i1_Log : PySem.W.nsIn K mainGlobals "Log" = some (some (.ref C_Log)))
    (i2_Log : PySem.W.plainGet K C_Log Str.empty = true)
    (i3_Log : PySem.W.hasDictIn K C_Log = true)
    (i4_Log : PySem.W.plainOver K C_Log = true)
    (i5_Log : PySem.W.findIn K (.ref C_Log) "__setattr__" = some (some (.builtin "object.__setattr__")))
    (i6_Log : PySem.W.makesIn K C_Log = true)
    (i7_Log : PySem.W.findIn K (.ref C_Log) "__init__" = some (some (.ref f_Log_init)))
    (l_Log_init : K.lookup f_Log_init = some ⟨oc_Log_init, od_Log_init, .func (PySem.W.fnOf "__init__" "Log.__init__" (defArgs s_Log_init) (defBody s_Log_init) (defScope s_Log_init) .none kV_Log_init dc_Log_init pm_Log_init an_Log_init cd_Log_init ct_Log_init), sl_Log_init⟩)
    (c_Log_init : PySem.W.codeIn K cd_Log_init "Log.__init__" = true)
    (k_Log_init : PySem.W.keepIn K (.ref f_Log_init) = true)
    (i8_Log : PySem.W.isFn K (.ref f_Log_init) = true)
    (i9_Log : PySem.W.keepIn K (.ref C_Log) = true)
    (if_Log__rows : PySem.W.findIn K (.ref C_Log) "_rows" = some none)
    (im_Log_add : PySem.W.findIn K (.ref C_Log) "add" = some (some (.ref f_Log_add)))
    (l_Log_add : K.lookup f_Log_add = some ⟨oc_Log_add, od_Log_add, .func (PySem.W.fnOf "add" "Log.add" (defArgs s_Log_add) (defBody s_Log_add) (defScope s_Log_add) .none kV_Log_add dc_Log_add pm_Log_add an_Log_add cd_Log_add ct_Log_add), sl_Log_add⟩)
    (c_Log_add : PySem.W.codeIn K cd_Log_add "Log.add" = true)
    (k_Log_add : PySem.W.keepIn K (.ref f_Log_add) = true)
    (ik_Log_add : PySem.W.isFn K (.ref f_Log_add) = true)
    (im_Log_rows : PySem.W.findIn K (.ref C_Log) "rows" = some (some (.ref f_Log_rows)))
    (l_Log_rows : K.lookup f_Log_rows = some ⟨oc_Log_rows, od_Log_rows, .func (PySem.W.fnOf "rows" "Log.rows" (defArgs s_Log_rows) (defBody s_Log_rows) (defScope s_Log_rows) .none kV_Log_rows dc_Log_rows pm_Log_rows an_Log_rows cd_Log_rows ct_Log_rows), sl_Log_rows⟩)
    (c_Log_rows : PySem.W.codeIn K cd_Log_rows "Log.rows" = true)
    (k_Log_rows : PySem.W.keepIn K (.ref f_Log_rows) = true)
    (ik_Log_rows : PySem.W.isFn K (.ref f_Log_rows) = true)
    (im_Log_last : PySem.W.findIn K (.ref C_Log) "last" = some (some (.ref f_Log_last)))
    (l_Log_last : K.lookup f_Log_last = some ⟨oc_Log_last, od_Log_last, .func (PySem.W.fnOf "last" "Log.last" (defArgs s_Log_last) (defBody s_Log_last) (defScope s_Log_last) (.ref T_Log_last) kV_Log_last dc_Log_last pm_Log_last an_Log_last cd_Log_last ct_Log_last), sl_Log_last⟩)
    (c_Log_last : PySem.W.codeIn K cd_Log_last "Log.last" = true)
    (k_Log_last : PySem.W.keepIn K (.ref f_Log_last) = true)
    (t_Log_last : K.lookup T_Log_last = some ⟨tc_Log_last, td_Log_last, .seq #[tv_Log_last_0] tn_Log_last, ts_Log_last⟩)
    (ik_Log_last : PySem.W.isFn K (.ref f_Log_last) = true)
    (im_Log_len : PySem.W.findIn K (.ref C_Log) "__len__" = some (some (.ref f_Log_len)))
    (l_Log_len : K.lookup f_Log_len = some ⟨oc_Log_len, od_Log_len, .func (PySem.W.fnOf "__len__" "Log.__len__" (defArgs s_Log_len) (defBody s_Log_len) (defScope s_Log_len) .none kV_Log_len dc_Log_len pm_Log_len an_Log_len cd_Log_len ct_Log_len), sl_Log_len⟩)
    (c_Log_len : PySem.W.codeIn K cd_Log_len "Log.__len__" = true)
    (k_Log_len : PySem.W.keepIn K (.ref f_Log_len) = true)
    (ik_Log_len : PySem.W.isFn K (.ref f_Log_len) = true)
    (im_Log_copied : PySem.W.findIn K (.ref C_Log) "copied" = some (some (.ref f_Log_copied)))
    (l_Log_copied : K.lookup f_Log_copied = some ⟨oc_Log_copied, od_Log_copied, .func (PySem.W.fnOf "copied" "Log.copied" (defArgs s_Log_copied) (defBody s_Log_copied) (defScope s_Log_copied) .none kV_Log_copied dc_Log_copied pm_Log_copied an_Log_copied cd_Log_copied ct_Log_copied), sl_Log_copied⟩)
    (c_Log_copied : PySem.W.codeIn K cd_Log_copied "Log.copied" = true)
    (k_Log_copied : PySem.W.keepIn K (.ref f_Log_copied) = true)
    (ik_Log_copied : PySem.W.isFn K (.ref f_Log_copied) = true)
    (mt_PHASES : PySem.W.nsIn K mainGlobals "PHASES" = some (some (.ref T_PHASES)))
    (lt_PHASES : K.lookup T_PHASES = some ⟨.type "tuple", td_PHASES, .seq #[.str "ready" tk_PHASES_0, .str "sleep" tk_PHASES_1, .str "late" tk_PHASES_2, .str "still" tk_PHASES_3] tn_PHASES, ts_PHASES⟩)
    (mt_BELLS : PySem.W.nsIn K mainGlobals "BELLS" = some (some (.ref T_BELLS)))
    (lt_BELLS : K.lookup T_BELLS = some ⟨.type "tuple", td_BELLS, .seq #[.str "unheard" tk_BELLS_0, .str "noted" tk_BELLS_1, .str "broke" tk_BELLS_2, .str "woke" tk_BELLS_3] tn_BELLS, ts_BELLS⟩)
    (mt_STATES : PySem.W.nsIn K mainGlobals "STATES" = some (some (.ref T_STATES)))
    (lt_STATES : K.lookup T_STATES = some ⟨.type "tuple", td_STATES, .seq #[.str "waking" tk_STATES_0, .str "wake" tk_STATES_1, .str "falling" tk_STATES_2, .str "doze" tk_STATES_3, .str "stays" tk_STATES_4, .str "off" tk_STATES_5, .str "use" tk_STATES_6, .str "reset" tk_STATES_7, .str "unplug" tk_STATES_8] tn_STATES, ts_STATES⟩)
    (mt__UNDONE : PySem.W.nsIn K mainGlobals "_UNDONE" = some (some (.ref T__UNDONE)))
    (lt__UNDONE : K.lookup T__UNDONE = some ⟨.type "tuple", td__UNDONE, .seq #[.str "unready" tk__UNDONE_0, .str "unsleep" tk__UNDONE_1, .str "unlate" tk__UNDONE_2, .str "unstill" tk__UNDONE_3] tn__UNDONE, ts__UNDONE⟩)
    (mt__DEVICE_DEEDS : PySem.W.nsIn K mainGlobals "_DEVICE_DEEDS" = some (some (.ref T__DEVICE_DEEDS)))
    (lt__DEVICE_DEEDS : K.lookup T__DEVICE_DEEDS = some ⟨.type "tuple", td__DEVICE_DEEDS, .seq #[.str "gain" tk__DEVICE_DEEDS_0, .str "release" tk__DEVICE_DEEDS_1] tn__DEVICE_DEEDS, ts__DEVICE_DEEDS⟩)
    (mt__MACHINE_DEEDS : PySem.W.nsIn K mainGlobals "_MACHINE_DEEDS" = some (some (.ref T__MACHINE_DEEDS)))
    (lt__MACHINE_DEEDS : K.lookup T__MACHINE_DEEDS = some ⟨.type "tuple", td__MACHINE_DEEDS, .seq #[.str "tick" tk__MACHINE_DEEDS_0, .str "sleep" tk__MACHINE_DEEDS_1, .str "rise" tk__MACHINE_DEEDS_2] tn__MACHINE_DEEDS, ts__MACHINE_DEEDS⟩)
    (mt__ANSWERS : PySem.W.nsIn K mainGlobals "_ANSWERS" = some (some (.ref T__ANSWERS)))
    (lt__ANSWERS : K.lookup T__ANSWERS = some ⟨.type "tuple", td__ANSWERS, .seq #[.str "done" tk__ANSWERS_0, .str "busy" tk__ANSWERS_1, .str "broken" tk__ANSWERS_2] tn__ANSWERS, ts__ANSWERS⟩)
    (r_Device_init_parent : RelV (.non) kv_Device_init_parent)
    (r_Device_init_burn : RelV (.int 5) kv_Device_init_burn)
    (r_Device_init_sip : RelV (.int 1) kv_Device_init_sip)
    (r_Device_init_wake : RelV (.int 1) kv_Device_init_wake)
    (r_Device_init_fall : RelV (.int 1) kv_Device_init_fall)
    (r_Device_init_rest : RelV (.int 0) kv_Device_init_rest)
    (r_Log_last_0 : RelV (.int 1) tv_Log_last_0)
    : ∃ fd : FuncData, (∀ (s : Shared) (v : Value), BindsTo s fd ⟨[v], []⟩ [("_law_script", v)]) ∧ ∀ base : Heap, K.In base → base.Ns mainGlobals mg → (∃ o, base.get? sysModules = some o) → FnG l.prog w K mg base CX0 15 fa fd ["_law_script"] (spLawK K) := by
  have e := hfa.symm.trans (PySem.W.mg_of X G a_law)
  cases e
  let A : Ad := ⟨f_NoName_init, f_NoNumber_init, f_NoLog_init, f_is_truth, f_is_number, f_is_at_least, f_is_whole, f_is_name, f__is_made_of, f_Device_init, f_device_of, f_is_told, f__need_whole, f_is_link, f_is_row, f_Log_init, f_Log_add, f_Log_rows, f_Log_last, f_Log_copied, f_Log_len, f__are_words, f__is_deed, f__is_end, f__is_device_word, f__are_links, f__law_cell, f__law_box, f__law_take, f__law_names, f__law_links, f__law_told_device, f__law_words, f__law_told, f__law_last, f__law_refused, f__law_stands, fa, U_WakeError, C_NoName, C_NoNumber, C_NoLog, C_Device, C_Log, T_PHASES, T_BELLS, T_STATES, T__UNDONE, T__DEVICE_DEEDS, T__MACHINE_DEEDS, T__ANSWERS⟩
  have T : Txt K mg A := by
    constructor
    · exact PySem.W.mg_none_of X G z_all
    · exact PySem.W.mg_none_of X G z_bool
    · exact PySem.W.mg_none_of X G z_int
    · exact PySem.W.mg_none_of X G z_isinstance
    · exact PySem.W.mg_none_of X G z_len
    · exact PySem.W.mg_none_of X G z_list
    · exact PySem.W.mg_none_of X G z_max
    · exact PySem.W.mg_none_of X G z_min
    · exact PySem.W.mg_none_of X G z_range
    · exact PySem.W.mg_none_of X G z_repr
    · exact PySem.W.mg_none_of X G z_str
    · exact PySem.W.mg_none_of X G z_tuple
    · exact PySem.W.mg_none_of X G z_zip
    · exact ⟨_, PySem.W.mg_of X G v__LETTERS, _, rfl⟩
    · exact ⟨_, PySem.W.mg_of X G v__NAME_SIGNS, _, rfl⟩
    · exact ⟨_, PySem.W.mg_of X G v_BURN, _, rfl⟩
    · exact ⟨_, PySem.W.mg_of X G v_SIP, _, rfl⟩
    · exact ⟨_, PySem.W.mg_of X G v_WAKE, _, rfl⟩
    · exact ⟨_, PySem.W.mg_of X G v_FALL, _, rfl⟩
    · exact ⟨_, PySem.W.mg_of X G v_REST, _, rfl⟩
    · exact ⟨_, PySem.W.mg_of X G v__MOST_BURN, _, rfl⟩
    · exact ⟨_, PySem.W.mg_of X G v__MOST_TURNS, _, rfl⟩
    · exact ⟨_, PySem.W.mg_of X G v__MOST_REST, _, rfl⟩
    · exact ⟨_, PySem.W.mg_of X G v__MANY_TOLD, _, rfl⟩
    · exact ⟨_, PySem.W.mg_of X G v_MOST_LINKS, _, rfl⟩
    · exact ⟨_, PySem.W.mg_of X G v__MOST_LAST, _, rfl⟩
    · exact ⟨⟨_, fun_mk (st := s_is_truth) l_is_truth c_is_truth k_is_truth⟩, PySem.W.mg_of X G a_is_truth, k_is_truth⟩
    · exact ⟨⟨_, fun_mk (st := s_is_number) l_is_number c_is_number k_is_number⟩, PySem.W.mg_of X G a_is_number, k_is_number⟩
    · exact ⟨⟨_, fun_mk (st := s_is_at_least) l_is_at_least c_is_at_least k_is_at_least⟩, PySem.W.mg_of X G a_is_at_least, k_is_at_least⟩
    · exact ⟨⟨_, fun_mk (st := s_is_whole) l_is_whole c_is_whole k_is_whole⟩, PySem.W.mg_of X G a_is_whole, k_is_whole⟩
    · exact ⟨⟨_, fun_mk (st := s_is_name) l_is_name c_is_name k_is_name⟩, PySem.W.mg_of X G a_is_name, k_is_name⟩
    · exact ⟨⟨_, fun_mk (st := s__is_made_of) l__is_made_of c__is_made_of k__is_made_of⟩, PySem.W.mg_of X G a__is_made_of, k__is_made_of⟩
    · exact ⟨⟨_, fun_mk (st := s_device_of) l_device_of c_device_of k_device_of⟩, PySem.W.mg_of X G a_device_of, k_device_of⟩
    · exact ⟨⟨_, fun_mk (st := s_is_told) l_is_told c_is_told k_is_told⟩, PySem.W.mg_of X G a_is_told, k_is_told⟩
    · exact ⟨⟨_, fun_mk (st := s__need_whole) l__need_whole c__need_whole k__need_whole⟩, PySem.W.mg_of X G a__need_whole, k__need_whole⟩
    · exact ⟨⟨_, fun_mk (st := s_is_link) l_is_link c_is_link k_is_link⟩, PySem.W.mg_of X G a_is_link, k_is_link⟩
    · exact ⟨⟨_, fun_mk (st := s_is_row) l_is_row c_is_row k_is_row⟩, PySem.W.mg_of X G a_is_row, k_is_row⟩
    · exact ⟨⟨_, fun_mk (st := s__are_words) l__are_words c__are_words k__are_words⟩, PySem.W.mg_of X G a__are_words, k__are_words⟩
    · exact ⟨⟨_, fun_mk (st := s__is_deed) l__is_deed c__is_deed k__is_deed⟩, PySem.W.mg_of X G a__is_deed, k__is_deed⟩
    · exact ⟨⟨_, fun_mk (st := s__is_end) l__is_end c__is_end k__is_end⟩, PySem.W.mg_of X G a__is_end, k__is_end⟩
    · exact ⟨⟨_, fun_mk (st := s__is_device_word) l__is_device_word c__is_device_word k__is_device_word⟩, PySem.W.mg_of X G a__is_device_word, k__is_device_word⟩
    · exact ⟨⟨_, fun_mk (st := s__are_links) l__are_links c__are_links k__are_links⟩, PySem.W.mg_of X G a__are_links, k__are_links⟩
    · exact ⟨⟨_, fun_mk (st := s__law_cell) l__law_cell c__law_cell k__law_cell⟩, PySem.W.mg_of X G a__law_cell, k__law_cell⟩
    · exact ⟨⟨_, fun_mk (st := s__law_box) l__law_box c__law_box k__law_box⟩, PySem.W.mg_of X G a__law_box, k__law_box⟩
    · exact ⟨⟨_, fun_mk (st := s__law_take) l__law_take c__law_take k__law_take⟩, PySem.W.mg_of X G a__law_take, k__law_take⟩
    · exact ⟨⟨_, fun_mk (st := s__law_names) l__law_names c__law_names k__law_names⟩, PySem.W.mg_of X G a__law_names, k__law_names⟩
    · exact ⟨⟨_, fun_mk (st := s__law_links) l__law_links c__law_links k__law_links⟩, PySem.W.mg_of X G a__law_links, k__law_links⟩
    · exact ⟨⟨_, fun_mk (st := s__law_told_device) l__law_told_device c__law_told_device k__law_told_device⟩, PySem.W.mg_of X G a__law_told_device, k__law_told_device⟩
    · exact ⟨⟨_, fun_mk (st := s__law_words) l__law_words c__law_words k__law_words⟩, PySem.W.mg_of X G a__law_words, k__law_words⟩
    · exact ⟨⟨_, fun_mk (st := s__law_told) l__law_told c__law_told k__law_told⟩, PySem.W.mg_of X G a__law_told, k__law_told⟩
    · exact ⟨⟨_, fun_mk (st := s__law_last) l__law_last c__law_last k__law_last⟩, PySem.W.mg_of X G a__law_last, k__law_last⟩
    · exact ⟨⟨_, fun_mk (st := s__law_refused) l__law_refused c__law_refused k__law_refused⟩, PySem.W.mg_of X G a__law_refused, k__law_refused⟩
    · exact ⟨⟨_, fun_mk (st := s__law_stands) l__law_stands c__law_stands k__law_stands⟩, PySem.W.mg_of X G a__law_stands, k__law_stands⟩
    · exact ⟨⟨_, fun_mk (st := s_law) l_law c_law k_law⟩, PySem.W.mg_of X G a_law, k_law⟩
    · exact PySem.W.mg_of X G u_WakeError
    · exact ⟨_, ur_WakeError, ug_WakeError, ui_WakeError⟩
    · exact { mg := PySem.W.mg_of X G e_NoName, oex := ⟨⟨nm_NoName, q_NoName, N_NoName, bs_NoName, _, sn_NoName, sub_NoName, ab_NoName, col_NoName, dd_NoName, m0_NoName, m1_NoName, m2_NoName, m3_NoName, m5_NoName, ex_NoName, rfl⟩, esa_NoName, esb_NoName, ety_NoName, ekp_NoName⟩, ini := ei_NoName, ty := et_NoName, nof := enf_NoName, ei := ⟨eic_NoName, ega_NoName, egt_NoName, esb_NoName, ecl_NoName, hn, htk, emr_NoName, Dz.kit_no (by decide +kernel) ek1_NoName, Dz.kit_no (by decide +kernel) ek2_NoName, Dz.kit_no (by decide +kernel) ek3_NoName, Dz.kit_no (by decide +kernel) ek4_NoName, Dz.kit_no (by decide +kernel) ek5_NoName, Dz.kit_no (by decide +kernel) ek6_NoName⟩ }
    · exact ⟨_, fun_mk (st := s_NoName_init) l_NoName_init c_NoName_init k_NoName_init⟩
    · exact { mg := PySem.W.mg_of X G e_NoNumber, oex := ⟨⟨nm_NoNumber, q_NoNumber, N_NoNumber, bs_NoNumber, _, sn_NoNumber, sub_NoNumber, ab_NoNumber, col_NoNumber, dd_NoNumber, m0_NoNumber, m1_NoNumber, m2_NoNumber, m3_NoNumber, m5_NoNumber, ex_NoNumber, rfl⟩, esa_NoNumber, esb_NoNumber, ety_NoNumber, ekp_NoNumber⟩, ini := ei_NoNumber, ty := et_NoNumber, nof := enf_NoNumber, ei := ⟨eic_NoNumber, ega_NoNumber, egt_NoNumber, esb_NoNumber, ecl_NoNumber, hn, htk, emr_NoNumber, Dz.kit_no (by decide +kernel) ek1_NoNumber, Dz.kit_no (by decide +kernel) ek2_NoNumber, Dz.kit_no (by decide +kernel) ek3_NoNumber, Dz.kit_no (by decide +kernel) ek4_NoNumber, Dz.kit_no (by decide +kernel) ek5_NoNumber, Dz.kit_no (by decide +kernel) ek6_NoNumber⟩ }
    · exact ⟨_, fun_mk (st := s_NoNumber_init) l_NoNumber_init c_NoNumber_init k_NoNumber_init⟩
    · exact { mg := PySem.W.mg_of X G e_NoLog, oex := ⟨⟨nm_NoLog, q_NoLog, N_NoLog, bs_NoLog, _, sn_NoLog, sub_NoLog, ab_NoLog, col_NoLog, dd_NoLog, m0_NoLog, m1_NoLog, m2_NoLog, m3_NoLog, m5_NoLog, ex_NoLog, rfl⟩, esa_NoLog, esb_NoLog, ety_NoLog, ekp_NoLog⟩, ini := ei_NoLog, ty := et_NoLog, nof := enf_NoLog, ei := ⟨eic_NoLog, ega_NoLog, egt_NoLog, esb_NoLog, ecl_NoLog, hn, htk, emr_NoLog, Dz.kit_no (by decide +kernel) ek1_NoLog, Dz.kit_no (by decide +kernel) ek2_NoLog, Dz.kit_no (by decide +kernel) ek3_NoLog, Dz.kit_no (by decide +kernel) ek4_NoLog, Dz.kit_no (by decide +kernel) ek5_NoLog, Dz.kit_no (by decide +kernel) ek6_NoLog⟩ }
    · exact ⟨_, fun_mk (st := s_NoLog_init) l_NoLog_init c_NoLog_init k_NoLog_init⟩
    · exact es_NoName_NoName
    · exact es_NoName_NoNumber
    · exact es_NoName_NoLog
    · exact es_NoNumber_NoName
    · exact es_NoNumber_NoNumber
    · exact es_NoNumber_NoLog
    · exact es_NoLog_NoName
    · exact es_NoLog_NoNumber
    · exact es_NoLog_NoLog
    · exact PySem.W.mg_of X G i1_Device
    · exact ⟨i2_Device, i3_Device, i4_Device, i5_Device⟩
    · exact ⟨i6_Device, i7_Device, i8_Device, i9_Device⟩
    · exact if_Device__told
    · exact ⟨_, ⟨⟨_, _, _, _, _, _, _, _, _, _, rfl, l_Device_init, c_Device_init, Or.inl ⟨rfl, rfl⟩, Or.inr ⟨D_Device_init, rfl, fun q hq => by
        simp only [List.mem_cons, List.not_mem_nil, or_false] at hq
        rcases hq with rfl | rfl | rfl | rfl | rfl | rfl
        · exact ⟨_, w_Device_init_parent, r_Device_init_parent⟩
        · exact ⟨_, w_Device_init_burn, r_Device_init_burn⟩
        · exact ⟨_, w_Device_init_sip, r_Device_init_sip⟩
        · exact ⟨_, w_Device_init_wake, r_Device_init_wake⟩
        · exact ⟨_, w_Device_init_fall, r_Device_init_fall⟩
        · exact ⟨_, w_Device_init_rest, r_Device_init_rest⟩⟩⟩, k_Device_init⟩⟩
    · exact PySem.W.mg_of X G i1_Log
    · exact ⟨i2_Log, i3_Log, i4_Log, i5_Log⟩
    · exact ⟨i6_Log, i7_Log, i8_Log, i9_Log⟩
    · exact if_Log__rows
    · exact ⟨_, ⟨⟨_, _, _, _, _, _, _, _, _, _, rfl, l_Log_init, c_Log_init, Or.inl ⟨rfl, rfl⟩, Or.inl rfl⟩, k_Log_init⟩⟩
    · exact ⟨im_Log_add, ik_Log_add, k_Log_add⟩
    · exact ⟨_, fun_mk (st := s_Log_add) l_Log_add c_Log_add k_Log_add⟩
    · exact ⟨im_Log_rows, ik_Log_rows, k_Log_rows⟩
    · exact ⟨_, fun_mk (st := s_Log_rows) l_Log_rows c_Log_rows k_Log_rows⟩
    · exact ⟨im_Log_last, ik_Log_last, k_Log_last⟩
    · exact ⟨_, ⟨⟨_, _, _, _, _, _, _, _, _, _, rfl, l_Log_last, c_Log_last, Or.inr ⟨by simp, T_Log_last, _, _, _, rfl, t_Log_last, rfl, .cons r_Log_last_0 (.nil)⟩, Or.inl rfl⟩, k_Log_last⟩⟩
    · exact ⟨im_Log_len, ik_Log_len, k_Log_len⟩
    · exact ⟨_, fun_mk (st := s_Log_len) l_Log_len c_Log_len k_Log_len⟩
    · exact ⟨im_Log_copied, ik_Log_copied, k_Log_copied⟩
    · exact ⟨_, fun_mk (st := s_Log_copied) l_Log_copied c_Log_copied k_Log_copied⟩
    · exact PySem.W.mg_of X G mt_PHASES
    · exact Ed.ktup_of lt_PHASES (Nat.le_of_ble_eq_true rfl) (.cons ⟨_, rfl⟩ (.cons ⟨_, rfl⟩ (.cons ⟨_, rfl⟩ (.cons ⟨_, rfl⟩ (.nil)))))
    · exact PySem.W.mg_of X G mt_BELLS
    · exact Ed.ktup_of lt_BELLS (Nat.le_of_ble_eq_true rfl) (.cons ⟨_, rfl⟩ (.cons ⟨_, rfl⟩ (.cons ⟨_, rfl⟩ (.cons ⟨_, rfl⟩ (.nil)))))
    · exact PySem.W.mg_of X G mt_STATES
    · exact Ed.ktup_of lt_STATES (Nat.le_of_ble_eq_true rfl) (.cons ⟨_, rfl⟩ (.cons ⟨_, rfl⟩ (.cons ⟨_, rfl⟩ (.cons ⟨_, rfl⟩ (.cons ⟨_, rfl⟩ (.cons ⟨_, rfl⟩ (.cons ⟨_, rfl⟩ (.cons ⟨_, rfl⟩ (.cons ⟨_, rfl⟩ (.nil))))))))))
    · exact PySem.W.mg_of X G mt__UNDONE
    · exact Ed.ktup_of lt__UNDONE (Nat.le_of_ble_eq_true rfl) (.cons ⟨_, rfl⟩ (.cons ⟨_, rfl⟩ (.cons ⟨_, rfl⟩ (.cons ⟨_, rfl⟩ (.nil)))))
    · exact PySem.W.mg_of X G mt__DEVICE_DEEDS
    · exact Ed.ktup_of lt__DEVICE_DEEDS (Nat.le_of_ble_eq_true rfl) (.cons ⟨_, rfl⟩ (.cons ⟨_, rfl⟩ (.nil)))
    · exact PySem.W.mg_of X G mt__MACHINE_DEEDS
    · exact Ed.ktup_of lt__MACHINE_DEEDS (Nat.le_of_ble_eq_true rfl) (.cons ⟨_, rfl⟩ (.cons ⟨_, rfl⟩ (.cons ⟨_, rfl⟩ (.nil))))
    · exact PySem.W.mg_of X G mt__ANSWERS
    · exact Ed.ktup_of lt__ANSWERS (Nat.le_of_ble_eq_true rfl) (.cons ⟨_, rfl⟩ (.cons ⟨_, rfl⟩ (.cons ⟨_, rfl⟩ (.nil))))
  refine ⟨PySem.W.fnOf "law" "law" (defArgs s_law) (defBody s_law) (defScope s_law) .none kV_law dc_law pm_law an_law cd_law ct_law, fun s v => .of_eq rfl, fun base _ _ B1 => ?_⟩
  have G_NoName_init : Kp l.prog w K mg base CX0 1 A.f_NoName_init ["self", "found"] [] (spErr "found" A.C_NoName) := ok_NoName_init T 
  have G_NoNumber_init : Kp l.prog w K mg base CX0 1 A.f_NoNumber_init ["self", "found"] [] (spErr "found" A.C_NoNumber) := ok_NoNumber_init T 
  have G_NoLog_init : Kp l.prog w K mg base CX0 1 A.f_NoLog_init ["self", "found"] [] (spErr "found" A.C_NoLog) := ok_NoLog_init T 
  have G_is_truth : Kp l.prog w K mg base (L2.CX l.prog w) 1 A.f_is_truth ["thing"] [] (spD K 1 (sp_is_truth A)) := ok_is_truth T B1 
  have G_is_number : Kp l.prog w K mg base (L2.CX l.prog w) 2 A.f_is_number ["thing"] [] (spD K 1 (sp_is_number A)) := ok_is_number T B1 G_is_truth
  have G_is_at_least : Kp l.prog w K mg base (L2.CX l.prog w) 3 A.f_is_at_least ["thing", "low"] [] (spD K 2 (sp_is_at_least A)) := ok_is_at_least T B1 G_is_number
  have G_is_whole : Kp l.prog w K mg base (L2.CX l.prog w) 4 A.f_is_whole ["thing", "low", "high"] [] (spD K 3 (sp_is_whole A)) := ok_is_whole T B1 G_is_at_least
  have G__is_made_of : Kp l.prog w K mg base (L2.CX l.prog w) 1 A.f__is_made_of ["text", "signs"] [] (spD K 2 (sp__is_made_of A)) := ok__is_made_of T B1 
  have G_is_name : Kp l.prog w K mg base (L2.CX l.prog w) 2 A.f_is_name ["thing"] [] (spD K 1 (sp_is_name A)) := ok_is_name T B1 G__is_made_of
  have G__need_whole : Kp l.prog w K mg base (L2.CX l.prog w) 5 A.f__need_whole ["thing", "high"] [] (spD K 2 (sp__need_whole A)) := ok__need_whole T B1 G_is_whole G_NoNumber_init
  have G_Device_init : Kx l.prog w K mg base (L2.CX l.prog w) 6 "__init__" "Device.__init__" s_Device_init [] ([("parent", .non), ("burn", .int 5), ("sip", .int 1), ("wake", .int 1), ("fall", .int 1), ("rest", .int 0)] : List (Str × V)) A.f_Device_init ["self", "name", "parent", "burn", "sip", "wake", "fall", "rest"] (spD K 8 (sp_Device_init A)) := ok_Device_init T B1 G_is_name G__need_whole G_NoName_init
  have G_device_of : Kp l.prog w K mg base (L2.CX l.prog w) 8 A.f_device_of ["told"] [] (spD K 1 (sp_device_of A)) := ok_device_of T B1 G_Device_init
  have G_is_told : Kp l.prog w K mg base (L2.CX l.prog w) 9 A.f_is_told ["thing"] [] (spD K 1 (sp_is_told A)) := ok_is_told T B1 G_device_of
  have G_is_link : Kp l.prog w K mg base (L2.CX l.prog w) 3 A.f_is_link ["thing"] [] (spD K 1 (sp_is_link A)) := ok_is_link T B1 G_is_name
  have G__is_deed : Kp l.prog w K mg base (L2.CX l.prog w) 3 A.f__is_deed ["deed", "name"] [] (spD K 2 (sp__is_deed A)) := ok__is_deed T B1 G_is_name
  have G__is_end : Kp l.prog w K mg base (L2.CX l.prog w) 1 A.f__is_end ["deed", "word"] [] (spD K 2 (sp__is_end A)) := ok__is_end T B1 
  have G__are_links : Kp l.prog w K mg base (L2.CX l.prog w) 4 A.f__are_links ["thing"] [] (spD K 1 (sp__are_links A)) := ok__are_links T B1 G_is_link
  have G__is_device_word : Kp l.prog w K mg base (L2.CX l.prog w) 1 A.f__is_device_word ["word"] [] (spD K 1 (sp__is_device_word A)) := ok__is_device_word T B1 
  have G__are_words : Kp l.prog w K mg base (L2.CX l.prog w) 10 A.f__are_words ["words"] [] (spD K 1 (sp__are_words A)) := ok__are_words T B1 G__is_deed G__is_end G_is_name G_is_told G__are_links G__is_device_word
  have G_is_row : Kp l.prog w K mg base (L2.CX l.prog w) 11 A.f_is_row ["thing"] [] (spD K 1 (sp_is_row A)) := ok_is_row T B1 G_is_at_least G__are_words
  have G_Log_init : Kx l.prog w K mg base (L2.CX l.prog w) 1 "__init__" "Log.__init__" s_Log_init [] ([] : List (Str × V)) A.f_Log_init ["self"] (spD K 1 (sp_Log_init A)) := ok_Log_init T B1 
  have G_Log_add : Kp l.prog w K mg base (L2.CX l.prog w) 12 A.f_Log_add ["self", "turn", "words"] [] (spD K 3 (sp_Log_add A)) := ok_Log_add T B1 G_is_at_least G_is_row G_NoNumber_init G_NoLog_init
  have G_Log_rows : Kp l.prog w K mg base (L2.CX l.prog w) 1 A.f_Log_rows ["self"] [] (spD K 1 (sp_Log_rows A)) := ok_Log_rows T B1 
  have G_Log_last : Kx l.prog w K mg base (L2.CX l.prog w) 5 "last" "Log.last" s_Log_last [.int 1] ([] : List (Str × V)) A.f_Log_last ["self", "many"] (spD K 2 (sp_Log_last A)) := ok_Log_last T B1 G_is_whole G_NoNumber_init
  have G_Log_copied : Kp l.prog w K mg base (L2.CX l.prog w) 3 A.f_Log_copied ["self"] [] (spD K 1 (sp_Log_copied A)) := ok_Log_copied T B1 G_Log_init G_Log_rows
  have G_Log_len : Kp l.prog w K mg base (L2.CX l.prog w) 1 A.f_Log_len ["self"] [] (spD K 1 (sp_Log_len A)) := ok_Log_len T B1 
  have G__law_cell : Kp l.prog w K mg base (L2.CX l.prog w) 1 A.f__law_cell ["_law_script", "_law_k"] [] (spD K 2 (sp__law_cell A)) := ok__law_cell T B1 
  have G__law_box : Kp l.prog w K mg base (L2.CX l.prog w) 1 A.f__law_box ["_law_cell_here"] [] (spD K 1 (sp__law_box A)) := ok__law_box T B1 
  have G__law_take : Kp l.prog w K mg base (L2.CX l.prog w) 1 A.f__law_take ["_law_box_here", "_law_wide"] [] (spD K 2 (sp__law_take A)) := ok__law_take T B1 
  have G__law_names : Kp l.prog w K mg base (L2.CX l.prog w) 2 A.f__law_names ["_law_box_here", "_law_wide"] [] (spD K 2 (sp__law_names A)) := ok__law_names T B1 G__law_take
  have G__law_links : Kp l.prog w K mg base (L2.CX l.prog w) 2 A.f__law_links ["_law_box_here", "_law_names_here"] [] (spD K 2 (sp__law_links A)) := ok__law_links T B1 G__law_take
  have G__law_told_device : Kp l.prog w K mg base (L2.CX l.prog w) 2 A.f__law_told_device ["_law_box_here", "_law_names_here"] [] (spD K 2 (sp__law_told_device A)) := ok__law_told_device T B1 G__law_take
  have G__law_words : Kp l.prog w K mg base (L2.CX l.prog w) 3 A.f__law_words ["_law_box_here", "_law_names_here"] [] (spD K 2 (sp__law_words A)) := ok__law_words T B1 G__law_take G__law_told_device G__law_links
  have G__law_told : Kp l.prog w K mg base (L2.CX l.prog w) 13 A.f__law_told ["_law_log", "_law_turn", "_law_words_here"] [] (spD K 3 (sp__law_told A)) := ok__law_told T B1 G_Log_add
  have G__law_last : Kp l.prog w K mg base (L2.CX l.prog w) 6 A.f__law_last ["_law_log", "_law_wide"] [] (spD K 2 (sp__law_last A)) := ok__law_last T B1 G_Log_last
  have G__law_refused : Kp l.prog w K mg base (L2.CX l.prog w) 14 A.f__law_refused ["_law_box_here", "_law_log", "_law_rows", "_law_words_here"] [] (spD K 4 (sp__law_refused A)) := ok__law_refused T B1 G__law_take G__law_told G_Log_rows
  have G__law_stands : Kp l.prog w K mg base (L2.CX l.prog w) 7 A.f__law_stands ["_law_box_here", "_law_log", "_law_rows"] [] (spD K 3 (sp__law_stands A)) := ok__law_stands T B1 G__law_take G_Log_rows G_Log_last G_Log_len G__law_last
  exact ok_law T B1 G_Log_init G_Log_copied G__law_cell G__law_box G__law_take G__law_names G__law_words G__law_told G__law_refused G__law_stands (fun_mk (st := s_law) l_law c_law k_law)
end K16
open PySem PySem.W PyProof.Rows
set_option maxRecDepth 100000 in
set_option maxHeartbeats 0 in
theorem PySem.Challenge.cw_drowsetree_k16_logs_kept_holds : PySem.Challenge.rw_drowsetree_k16_logs_kept.Holds := by
  w_on; o_law; k_head; (case hw => w_witness2)
  k_fill
  refine Ed.walkKS (l := PySem.Challenge.rw_drowsetree_k16_logs_kept) (n := 63) (k := 15) (x := "_law_script") (CX := L2.CX0) (sp := K16.spLawK) rfl (by decide) rfl (by first | rfl | decide +kernel) ⟨rfl, by decide, by decide⟩ (fun w h Y => PySem.W.kIn_of Y) ?F (fun _ _ a ns hl _ hS => Ed.law_sp hl hS) fun _ _ _ _ z => z
  case F =>
    intro w mg fa h KX G hmg
    refine' K16.all_mk KX G hmg ?a_is_truth ?l_is_truth ?c_is_truth ?k_is_truth ?a_is_number ?l_is_number ?c_is_number ?k_is_number ?a_is_at_least ?l_is_at_least ?c_is_at_least ?k_is_at_least ?a_is_whole ?l_is_whole ?c_is_whole ?k_is_whole ?a_is_name ?l_is_name ?c_is_name ?k_is_name ?a__is_made_of ?l__is_made_of ?c__is_made_of ?k__is_made_of ?a_device_of ?l_device_of ?c_device_of ?k_device_of ?a_is_told ?l_is_told ?c_is_told ?k_is_told ?a__need_whole ?l__need_whole ?c__need_whole ?k__need_whole ?a_is_link ?l_is_link ?c_is_link ?k_is_link ?a_is_row ?l_is_row ?c_is_row ?k_is_row ?a__are_words ?l__are_words ?c__are_words ?k__are_words ?a__is_deed ?l__is_deed ?c__is_deed ?k__is_deed ?a__is_end ?l__is_end ?c__is_end ?k__is_end ?a__is_device_word ?l__is_device_word ?c__is_device_word ?k__is_device_word ?a__are_links ?l__are_links ?c__are_links ?k__are_links ?a__law_cell ?l__law_cell ?c__law_cell ?k__law_cell ?a__law_box ?l__law_box ?c__law_box ?k__law_box ?a__law_take ?l__law_take ?c__law_take ?k__law_take ?a__law_names ?l__law_names ?c__law_names ?k__law_names ?a__law_links ?l__law_links ?c__law_links ?k__law_links ?a__law_told_device ?l__law_told_device ?c__law_told_device ?k__law_told_device ?a__law_words ?l__law_words ?c__law_words ?k__law_words ?a__law_told ?l__law_told ?c__law_told ?k__law_told ?a__law_last ?l__law_last ?c__law_last ?k__law_last ?a__law_refused ?l__law_refused ?c__law_refused ?k__law_refused ?a__law_stands ?l__law_stands ?c__law_stands ?k__law_stands ?a_law ?l_law ?c_law ?k_law ?z_all ?z_bool ?z_int ?z_isinstance ?z_len ?z_list ?z_max ?z_min ?z_range ?z_repr ?z_str ?z_tuple ?z_zip ?v__LETTERS ?v__NAME_SIGNS ?v_BURN ?v_SIP ?v_WAKE ?v_FALL ?v_REST ?v__MOST_BURN ?v__MOST_TURNS ?v__MOST_REST ?v__MANY_TOLD ?v_MOST_LINKS ?v__MOST_LAST ?u_WakeError ?ur_WakeError ?ug_WakeError ?ui_WakeError ?hn ?htk ?e_NoName ?ex_NoName ?ei_NoName ?l_NoName_init ?c_NoName_init ?k_NoName_init ?et_NoName ?esa_NoName ?ega_NoName ?egt_NoName ?enf_NoName ?ecl_NoName ?esb_NoName ?ety_NoName ?ekp_NoName ?eic_NoName ?emr_NoName ?ek1_NoName ?ek2_NoName ?ek3_NoName ?ek4_NoName ?ek5_NoName ?ek6_NoName ?e_NoNumber ?ex_NoNumber ?ei_NoNumber ?l_NoNumber_init ?c_NoNumber_init ?k_NoNumber_init ?et_NoNumber ?esa_NoNumber ?ega_NoNumber ?egt_NoNumber ?enf_NoNumber ?ecl_NoNumber ?esb_NoNumber ?ety_NoNumber ?ekp_NoNumber ?eic_NoNumber ?emr_NoNumber ?ek1_NoNumber ?ek2_NoNumber ?ek3_NoNumber ?ek4_NoNumber ?ek5_NoNumber ?ek6_NoNumber ?e_NoLog ?ex_NoLog ?ei_NoLog ?l_NoLog_init ?c_NoLog_init ?k_NoLog_init ?et_NoLog ?esa_NoLog ?ega_NoLog ?egt_NoLog ?enf_NoLog ?ecl_NoLog ?esb_NoLog ?ety_NoLog ?ekp_NoLog ?eic_NoLog ?emr_NoLog ?ek1_NoLog ?ek2_NoLog ?ek3_NoLog ?ek4_NoLog ?ek5_NoLog ?ek6_NoLog ?es_NoName_NoName ?es_NoName_NoNumber ?es_NoName_NoLog ?es_NoNumber_NoName ?es_NoNumber_NoNumber ?es_NoNumber_NoLog ?es_NoLog_NoName ?es_NoLog_NoNumber ?es_NoLog_NoLog ?i1_Device ?i2_Device ?i3_Device ?i4_Device ?i5_Device ?i6_Device ?i7_Device ?l_Device_init ?c_Device_init ?k_Device_init ?w_Device_init_parent ?w_Device_init_burn ?w_Device_init_sip ?w_Device_init_wake ?w_Device_init_fall ?w_Device_init_rest ?i8_Device ?i9_Device ?if_Device__told ?i1_Log ?i2_Log ?i3_Log ?i4_Log ?i5_Log ?i6_Log ?i7_Log ?l_Log_init ?c_Log_init ?k_Log_init ?i8_Log ?i9_Log ?if_Log__rows ?im_Log_add ?l_Log_add ?c_Log_add ?k_Log_add ?ik_Log_add ?im_Log_rows ?l_Log_rows ?c_Log_rows ?k_Log_rows ?ik_Log_rows ?im_Log_last ?l_Log_last ?c_Log_last ?k_Log_last ?t_Log_last ?ik_Log_last ?im_Log_len ?l_Log_len ?c_Log_len ?k_Log_len ?ik_Log_len ?im_Log_copied ?l_Log_copied ?c_Log_copied ?k_Log_copied ?ik_Log_copied ?mt_PHASES ?lt_PHASES ?mt_BELLS ?lt_BELLS ?mt_STATES ?lt_STATES ?mt__UNDONE ?lt__UNDONE ?mt__DEVICE_DEEDS ?lt__DEVICE_DEEDS ?mt__MACHINE_DEEDS ?lt__MACHINE_DEEDS ?mt__ANSWERS ?lt__ANSWERS ?r_Device_init_parent ?r_Device_init_burn ?r_Device_init_sip ?r_Device_init_wake ?r_Device_init_fall ?r_Device_init_rest ?r_Log_last_0
    (case a_is_truth => k_is)
    (case l_is_truth => k_is)
    (case c_is_truth => k_is)
    (case k_is_truth => k_is)
    (case a_is_number => k_is)
    (case l_is_number => k_is)
    (case c_is_number => k_is)
    (case k_is_number => k_is)
    (case a_is_at_least => k_is)
    (case l_is_at_least => k_is)
    (case c_is_at_least => k_is)
    (case k_is_at_least => k_is)
    (case a_is_whole => k_is)
    (case l_is_whole => k_is)
    (case c_is_whole => k_is)
    (case k_is_whole => k_is)
    (case a_is_name => k_is)
    (case l_is_name => k_is)
    (case c_is_name => k_is)
    (case k_is_name => k_is)
    (case a__is_made_of => k_is)
    (case l__is_made_of => k_is)
    (case c__is_made_of => k_is)
    (case k__is_made_of => k_is)
    (case a_device_of => k_is)
    (case l_device_of => k_is)
    (case c_device_of => k_is)
    (case k_device_of => k_is)
    (case a_is_told => k_is)
    (case l_is_told => k_is)
    (case c_is_told => k_is)
    (case k_is_told => k_is)
    (case a__need_whole => k_is)
    (case l__need_whole => k_is)
    (case c__need_whole => k_is)
    (case k__need_whole => k_is)
    (case a_is_link => k_is)
    (case l_is_link => k_is)
    (case c_is_link => k_is)
    (case k_is_link => k_is)
    (case a_is_row => k_is)
    (case l_is_row => k_is)
    (case c_is_row => k_is)
    (case k_is_row => k_is)
    (case a__are_words => k_is)
    (case l__are_words => k_is)
    (case c__are_words => k_is)
    (case k__are_words => k_is)
    (case a__is_deed => k_is)
    (case l__is_deed => k_is)
    (case c__is_deed => k_is)
    (case k__is_deed => k_is)
    (case a__is_end => k_is)
    (case l__is_end => k_is)
    (case c__is_end => k_is)
    (case k__is_end => k_is)
    (case a__is_device_word => k_is)
    (case l__is_device_word => k_is)
    (case c__is_device_word => k_is)
    (case k__is_device_word => k_is)
    (case a__are_links => k_is)
    (case l__are_links => k_is)
    (case c__are_links => k_is)
    (case k__are_links => k_is)
    (case a__law_cell => k_is)
    (case l__law_cell => k_is)
    (case c__law_cell => k_is)
    (case k__law_cell => k_is)
    (case a__law_box => k_is)
    (case l__law_box => k_is)
    (case c__law_box => k_is)
    (case k__law_box => k_is)
    (case a__law_take => k_is)
    (case l__law_take => k_is)
    (case c__law_take => k_is)
    (case k__law_take => k_is)
    (case a__law_names => k_is)
    (case l__law_names => k_is)
    (case c__law_names => k_is)
    (case k__law_names => k_is)
    (case a__law_links => k_is)
    (case l__law_links => k_is)
    (case c__law_links => k_is)
    (case k__law_links => k_is)
    (case a__law_told_device => k_is)
    (case l__law_told_device => k_is)
    (case c__law_told_device => k_is)
    (case k__law_told_device => k_is)
    (case a__law_words => k_is)
    (case l__law_words => k_is)
    (case c__law_words => k_is)
    (case k__law_words => k_is)
    (case a__law_told => k_is)
    (case l__law_told => k_is)
    (case c__law_told => k_is)
    (case k__law_told => k_is)
    (case a__law_last => k_is)
    (case l__law_last => k_is)
    (case c__law_last => k_is)
    (case k__law_last => k_is)
    (case a__law_refused => k_is)
    (case l__law_refused => k_is)
    (case c__law_refused => k_is)
    (case k__law_refused => k_is)
    (case a__law_stands => k_is)
    (case l__law_stands => k_is)
    (case c__law_stands => k_is)
    (case k__law_stands => k_is)
    (case a_law => k_is)
    (case l_law => k_is)
    (case c_law => k_is)
    (case k_law => k_is)
    (case z_all => k_is)
    (case z_bool => k_is)
    (case z_int => k_is)
    (case z_isinstance => k_is)
    (case z_len => k_is)
    (case z_list => k_is)
    (case z_max => k_is)
    (case z_min => k_is)
    (case z_range => k_is)
    (case z_repr => k_is)
    (case z_str => k_is)
    (case z_tuple => k_is)
    (case z_zip => k_is)
    (case v__LETTERS => k_is)
    (case v__NAME_SIGNS => k_is)
    (case v_BURN => k_is)
    (case v_SIP => k_is)
    (case v_WAKE => k_is)
    (case v_FALL => k_is)
    (case v_REST => k_is)
    (case v__MOST_BURN => k_is)
    (case v__MOST_TURNS => k_is)
    (case v__MOST_REST => k_is)
    (case v__MANY_TOLD => k_is)
    (case v_MOST_LINKS => k_is)
    (case v__MOST_LAST => k_is)
    (case u_WakeError => k_is)
    (case ur_WakeError => k_is)
    (case ug_WakeError => k_is)
    (case ui_WakeError => k_is)
    (case hn => k_is)
    (case htk => k_is)
    (case e_NoName => k_is)
    (case ex_NoName => k_is)
    (case ei_NoName => k_is)
    (case l_NoName_init => k_is)
    (case c_NoName_init => k_is)
    (case k_NoName_init => k_is)
    (case et_NoName => k_is)
    (case esa_NoName => k_is)
    (case ega_NoName => k_is)
    (case egt_NoName => k_is)
    (case enf_NoName => k_is)
    (case ecl_NoName => k_is)
    (case esb_NoName => k_is)
    (case ety_NoName => k_is)
    (case ekp_NoName => k_is)
    (case eic_NoName => k_is)
    (case emr_NoName => k_is)
    (case ek1_NoName => k_is)
    (case ek2_NoName => k_is)
    (case ek3_NoName => k_is)
    (case ek4_NoName => k_is)
    (case ek5_NoName => k_is)
    (case ek6_NoName => k_is)
    (case e_NoNumber => k_is)
    (case ex_NoNumber => k_is)
    (case ei_NoNumber => k_is)
    (case l_NoNumber_init => k_is)
    (case c_NoNumber_init => k_is)
    (case k_NoNumber_init => k_is)
    (case et_NoNumber => k_is)
    (case esa_NoNumber => k_is)
    (case ega_NoNumber => k_is)
    (case egt_NoNumber => k_is)
    (case enf_NoNumber => k_is)
    (case ecl_NoNumber => k_is)
    (case esb_NoNumber => k_is)
    (case ety_NoNumber => k_is)
    (case ekp_NoNumber => k_is)
    (case eic_NoNumber => k_is)
    (case emr_NoNumber => k_is)
    (case ek1_NoNumber => k_is)
    (case ek2_NoNumber => k_is)
    (case ek3_NoNumber => k_is)
    (case ek4_NoNumber => k_is)
    (case ek5_NoNumber => k_is)
    (case ek6_NoNumber => k_is)
    (case e_NoLog => k_is)
    (case ex_NoLog => k_is)
    (case ei_NoLog => k_is)
    (case l_NoLog_init => k_is)
    (case c_NoLog_init => k_is)
    (case k_NoLog_init => k_is)
    (case et_NoLog => k_is)
    (case esa_NoLog => k_is)
    (case ega_NoLog => k_is)
    (case egt_NoLog => k_is)
    (case enf_NoLog => k_is)
    (case ecl_NoLog => k_is)
    (case esb_NoLog => k_is)
    (case ety_NoLog => k_is)
    (case ekp_NoLog => k_is)
    (case eic_NoLog => k_is)
    (case emr_NoLog => k_is)
    (case ek1_NoLog => k_is)
    (case ek2_NoLog => k_is)
    (case ek3_NoLog => k_is)
    (case ek4_NoLog => k_is)
    (case ek5_NoLog => k_is)
    (case ek6_NoLog => k_is)
    (case es_NoName_NoName => k_is)
    (case es_NoName_NoNumber => k_is)
    (case es_NoName_NoLog => k_is)
    (case es_NoNumber_NoName => k_is)
    (case es_NoNumber_NoNumber => k_is)
    (case es_NoNumber_NoLog => k_is)
    (case es_NoLog_NoName => k_is)
    (case es_NoLog_NoNumber => k_is)
    (case es_NoLog_NoLog => k_is)
    (case i1_Device => k_is)
    (case i2_Device => k_is)
    (case i3_Device => k_is)
    (case i4_Device => k_is)
    (case i5_Device => k_is)
    (case i6_Device => k_is)
    (case i7_Device => k_is)
    (case l_Device_init => k_is)
    (case c_Device_init => k_is)
    (case k_Device_init => k_is)
    (case w_Device_init_parent => k_is)
    (case w_Device_init_burn => k_is)
    (case w_Device_init_sip => k_is)
    (case w_Device_init_wake => k_is)
    (case w_Device_init_fall => k_is)
    (case w_Device_init_rest => k_is)
    (case i8_Device => k_is)
    (case i9_Device => k_is)
    (case if_Device__told => k_is)
    (case i1_Log => k_is)
    (case i2_Log => k_is)
    (case i3_Log => k_is)
    (case i4_Log => k_is)
    (case i5_Log => k_is)
    (case i6_Log => k_is)
    (case i7_Log => k_is)
    (case l_Log_init => k_is)
    (case c_Log_init => k_is)
    (case k_Log_init => k_is)
    (case i8_Log => k_is)
    (case i9_Log => k_is)
    (case if_Log__rows => k_is)
    (case im_Log_add => k_is)
    (case l_Log_add => k_is)
    (case c_Log_add => k_is)
    (case k_Log_add => k_is)
    (case ik_Log_add => k_is)
    (case im_Log_rows => k_is)
    (case l_Log_rows => k_is)
    (case c_Log_rows => k_is)
    (case k_Log_rows => k_is)
    (case ik_Log_rows => k_is)
    (case im_Log_last => k_is)
    (case l_Log_last => k_is)
    (case c_Log_last => k_is)
    (case k_Log_last => k_is)
    (case t_Log_last => k_is)
    (case ik_Log_last => k_is)
    (case im_Log_len => k_is)
    (case l_Log_len => k_is)
    (case c_Log_len => k_is)
    (case k_Log_len => k_is)
    (case ik_Log_len => k_is)
    (case im_Log_copied => k_is)
    (case l_Log_copied => k_is)
    (case c_Log_copied => k_is)
    (case k_Log_copied => k_is)
    (case ik_Log_copied => k_is)
    (case mt_PHASES => k_is)
    (case lt_PHASES => k_is)
    (case mt_BELLS => k_is)
    (case lt_BELLS => k_is)
    (case mt_STATES => k_is)
    (case lt_STATES => k_is)
    (case mt__UNDONE => k_is)
    (case lt__UNDONE => k_is)
    (case mt__DEVICE_DEEDS => k_is)
    (case lt__DEVICE_DEEDS => k_is)
    (case mt__MACHINE_DEEDS => k_is)
    (case lt__MACHINE_DEEDS => k_is)
    (case mt__ANSWERS => k_is)
    (case lt__ANSWERS => k_is)
    (case r_Device_init_parent => exact rfl)
    (case r_Device_init_burn => exact ⟨_, rfl⟩)
    (case r_Device_init_sip => exact ⟨_, rfl⟩)
    (case r_Device_init_wake => exact ⟨_, rfl⟩)
    (case r_Device_init_fall => exact ⟨_, rfl⟩)
    (case r_Device_init_rest => exact ⟨_, rfl⟩)
    (case r_Log_last_0 => exact ⟨_, rfl⟩)
#print axioms PySem.Challenge.cw_drowsetree_k16_logs_kept_holds
