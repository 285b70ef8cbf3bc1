import PyProof.Rows.All
import Wide.All
import OpenK.AllK
import Wide.FinOn
import PyProof.Rows.NestShow
import HandS.ForMost
import HandS.Exc
import HandS.ExcOwn
import HandS.WordsExc
import HandS.Defaults
import HandS.More
import HandS.Strs
import HandS.Conv
import HandS.SetFor
import HandS.SortInts
import HandS.DictComp
import HandS.TupAny
import HandS.ExcIs
import HandS.Evl
import KE.GoesEnum
import HandS.RaiseMore
import KE.SortData
import KE.SortKeyHeap
import KE.KDictPairs
import KE.KDictList
import HandS.Style
import HandS.List
import HandS.Text
import PyProof.SliceStr2
import PyProof.Rows.StrRev
import HandS.IsInst
import HandS.TupMul
import HandS.ExcInit
import HandS.Nested
import KE.KExcSuper
import HandS.ExcBuiltin
import KE.KExcIs
import HandS.Deep
import PySem.Challenge.RW_eachsome_k12_whole_long_sparse_sentences
import HandS.Wide
import HandS.Codes
import HandS.NoneIn
set_option Elab.async false
set_option linter.all false
set_option maxRecDepth 100000
set_option maxHeartbeats 4000000
/-! Own rules: repr of data where nothing is being shown, set of a tuple of ints, a text times a number, an own error made without arguments, calls by names alone; defs whose promise needs that nothing is being shown. -/
namespace Ea
open PySem PySem.Spec PyProof.Rows L2

/-! ### repr -/
def rRepr (K : PySem.W.Frag) : List V → Hp → VK → Prop := fun xs H Q =>
  ∃ (x : V) (d : PyData), xs = [x] ∧ Dp K H x d ∧ d.showable = true ∧ isDisplay d = true ∧ d.hasDict = false ∧ d.depth ≤ 40 ∧ d.shown.length ≤ sizeLine ∧ Q (.str d.shown) H
section
variable {X : Cx}
theorem cr_repr (hg : X.A.guards = some []) (hu : X.A.units + 64 < cLine) : CallR X (.builtin "repr") (rRepr X.K) := by
  intro pins s σ H xs us Q I r h
  obtain ⟨x, d, rfl, hd, h1, h2, h3, h4, h5, q⟩ := h
  obtain ⟨u, rfl, ru⟩ := vals1 r
  obtain ⟨as, rd⟩ := Dp.reads I d x u hd ru
  obtain ⟨a, rfl⟩ := isRef_of_reads rd h2
  exact repr_of_reads' rd h1 (PyData.noDict_hsm h3) hg (by omega) (fun _ _ e => e)
    (fun h' tk u hk => ⟨.str d.shown, H, I.kept hk, ⟨_, rfl⟩, q⟩) h5

/-! ### set of a tuple of ints -/
def rSetI (K : PySem.W.Frag) (w : World) : List V → Hp → VK → Prop := fun xs H Q =>
  ∃ (p : Addr) (ns : List Int), xs = [.ref p] ∧ SqT K H p (ns.map V.int) ∧ ns.length ≤ 1000 ∧
    ∀ (a : Addr) (c : Nat), H a = none → c ≤ ns.length → Q (.ref a) (upd H a (SetO w a (fun j => decide (j ∈ ns)) c))
theorem cr_setI (hc : X.calm = true) : CallR X (.type "set") (rSetI X.K X.w) := by
  intro pins s σ H xs us Q I r h
  obtain ⟨p, ns, rfl, hp, hl, q⟩ := h
  rw [Vals.ref1 r]
  obtain ⟨its, rv, pt, hz⟩ := I.tuple hp
  have hi : IntsAre its.toArray.toList ns := by simpa using rv.ints
  have hf : H s.heap.objs.size = none := I.hok.fresh (Nat.le_refl _)
  refine call_set_tupI ns (I.ok.hd hc) pt hi (by unfold scanBound; omega) fun h' tk c R1 hcn k => ?_
  exact ⟨.ref _, upd H s.heap.objs.size (SetO X.w s.heap.objs.size (fun j => decide (j ∈ ns)) c),
    I.laid (t' := tk) k (Nat.le_refl _) (setO_new R1), rfl, q _ c hf hcn⟩

/-! ### a text times a number -/
theorem folded_size (z : Array Nat) : ∀ (n : Nat) (acc : Array Nat), ((List.replicate n z).foldl (· ++ ·) acc).size = acc.size + n * z.size
  | 0, acc => by simp
  | n + 1, acc => by
    rw [List.replicate_succ, List.foldl_cons, folded_size z n, Array.size_append, Nat.succ_mul]
    omega
def repS (z : Str) (n : Int) : Str := ⟨(List.replicate n.toNat z.cps).foldl (· ++ ·) #[]⟩
def rMulS : R2 := fun x y H Q => ∃ z n, x = .str z ∧ y = .int n ∧ 0 ≤ n ∧ n ≤ 1000 ∧ z.length ≤ 1000 ∧ 1 ≤ z.length ∧ Q (.str (repS z n)) H
theorem repS_length (z : Str) (n : Int) : (repS z n).length = n.toNat * z.length := by
  have h := folded_size z.cps n.toNat #[]
  rw [Array.size_empty, Nat.zero_add] at h
  exact h
theorem repS_fits {z : Str} {n : Int} (h1 : n ≤ 1000) (h2 : z.length ≤ 1000) : (repS z n).length ≤ sizeLine := by
  rw [repS_length, sizeLine_eq]
  have : n.toNat * z.length ≤ 1000 * 1000 := Nat.mul_le_mul (by omega) h2
  omega
theorem op_mulS : OpR X (binaryOp .Mult) rMulS := by
  intro pins s σ H x y v u Q I rx ry h
  obtain ⟨z, n, rfl, rfl, h0, h1, h2, h3, q⟩ := h
  obtain ⟨t, rfl⟩ := rx
  obtain ⟨t', rfl⟩ := ry
  have hlen : z.length * n.toNat ≤ 1000 * 1000 := Nat.mul_le_mul h2 (by omega)
  have hr : (decide (n < -(2 ^ 63 : Int)) || decide (n ≥ 2 ^ 63)) = false := by
    rw [decide_eq_false (by omega), decide_eq_false (by omega)]; rfl
  refine PySem.P.mul_str hr ?_ ?_ ?_
  · intro hn _ hgt
    have e : (1000 : Int) ≤ (2 ^ 63 - 1) / n := by
      rw [Int.le_ediv_iff_mul_le (by omega)]
      omega
    omega
  · intro _ _
    unfold Builtin.Str.tooLong
    rw [decide_eq_false_iff_not, sizeLine_eq]
    omega
  · by_cases c1 : n < 1
    · rw [if_pos c1]
      have e0 : n = 0 := by omega
      subst e0
      refine ⟨by decide, .str (repS z 0), H, I.tok _, ⟨_, rfl⟩, q⟩
    · rw [if_neg c1]
      by_cases c2 : (n == 1 || z.length == 0) = true
      · rw [if_pos c2]
        have e1 : n = 1 := by
          rcases Bool.or_eq_true _ _ |>.mp c2 with h | h
          · exact eq_of_beq h
          · have := eq_of_beq h
            omega
        subst e1
        have e2 : repS z 1 = z := by
          unfold repS
          show (⟨#[] ++ z.cps⟩ : Str) = z
          rw [Array.empty_append]
        rw [e2] at q
        exact ⟨.str z, H, I, ⟨_, rfl⟩, q⟩
      · rw [if_neg c2]
        exact ⟨repS_fits h1 h2, .str (repS z n), H, I.tok _, ⟨_, rfl⟩, q⟩

/-! ### X(): an own error without arguments -/
theorem pmk_own0 {C : Addr} {bmB : List Value} {B newId initId : String} {x : Str} {p pos : Pos} (F : ExcBaseFacts B newId initId bmB)
    (q : PySem.W.excIn X.K C bmB newId = true) (gC : X.mg x = some (.ref C)) (kC : PySem.W.keepIn X.K (.ref C) = true)
    (r : Raises X (.ref C)) (hg : Gl X x) (hdb : (x == ("__debug__" : Str)) = false := by decide) :
    PMk X (.Call (.Name x p) [] [] pos) (fun _ H Q => Q (.ref C) none H) := by
  intro pins s σ H Q I h
  refine wpAny_Call_Name_kw (ld_glob I hg gC (PySem.W.callWith_K0 I.kIn kC ?_) hdb)
  obtain ⟨bm, N, nm, qn, bs, hdct, sn, sub, ab, col, dd, k0, k1, k2, k3, k5, mN, hC, hN, hni, T⟩ := exc_obj I.kIn q
  exact wpAny_call_exc_subT F T hC hN hni (fun h' e hm => mk_of I hm r h (I.hok.gone hm.new)) (Nat.zero_le _)

/-! ### f(k = v, ..) by names alone; what it lets out is wished at the slots -/
def tKw (m : Nat) (sp : Sp) (gV : List V → List V) (E : L2.St → XK) (tk : TA) : TE := fun σ H Q =>
  tk σ H fun zs H2 => zs.length = m ∧ sp (gV zs) H2 Q (E σ)
theorem pe_kw {CX : CXT} {k : Nat} {f : Addr} {fd : FuncData} {ps ks : List Str} {sp : Sp} {E : L2.St → XK} {x : Str} {p pos : Pos} {kws : List Keyword} {tk : TA}
    {g : List Value → List Value} {gV : List V → List V} (F : FnOk X.prog X.w X.K X.mg X.base CX k f fd ps sp) (hr : Room k X.A) (hg : Gl X x)
    (hm : X.mg x = some (.ref f)) (hk : PySem.W.keepIn X.K (.ref f) = true)
    (hto : ∀ (s : Shared) (ws : List Value), ws.length = ks.length → BindsTo s fd ⟨[], ks.zip ws⟩ (ps.zip (g ws)))
    (hrel : ∀ {zs : List V} {ws : List Value}, zs.length = ks.length → Vals zs ws → Vals (gV zs) (g ws))
    (hx : ∀ σ, PassesAt CX X σ (E σ)) (hkw : PK X kws tk)
    (hall : (backToKw pos (keywordEach kws X.env)).all (·.1.isSome) = true := by rfl)
    (hks : (backToKw pos (keywordEach kws X.env)).filterMap (·.1) = ks := by rfl)
    (hdb : (x == ("__debug__" : Str)) = false := by decide)
    (hpl : ((backTo pos (starEach [] X.env)).any (·.1) || (backToKw pos (keywordEach kws X.env)).any (·.1.isNone)) = false := by rfl) :
    PE X (.Call (.Name x p) [] kws pos) (tKw ks.length sp gV E tk) := by
  refine ⟨fun pins s σ H Q I h => ?_⟩
  refine wpAny_Call_Name_kw (ld_glob I hg hm (PySem.W.callWith_KW0 (h₀ := X.base) I.ok.mod.kin hk hall ?_ hpl) hdb)
  refine thn (hkw.run pos pins s σ H _ I h) fun ws s2 ⟨zs, H2, I2, rz, l2, q2⟩ => ⟨I2.kIn, ?_⟩
  rw [hks]
  have hl : (g ws).length = ps.length := by
    rw [← (hrel l2 rz).length]
    exact F.len _ _ _ _ q2
  refine wpAny_call (codeAny_mono (F.run X.A X.stack s2 H2 ⟨[], ks.zip ws⟩ (g ws) (gV zs) Q (E σ) hr I2.env0
    (hto s2 ws (rz.length.symm.trans l2)) (hrel l2 rz) q2) fun r s' hq => ?_)
  match r, hq with
  | .error e, hq => exact hx σ pins H2 s2 e s' I2 hq
  | .ok (.ret u), hq => exact I2.after hq

/-! ### where nothing is being shown -/
structure FnG (P : Program) (w : World) (K : PySem.W.Frag) (mg : Str → Option Value) (base : Heap) (k : Nat) (f : Addr) (fd : FuncData)
    (ps : List Str) (sp : Sp) : Prop where
  len : ∀ vs H Q E, sp vs H Q E → vs.length = ps.length
  run : ∀ (A : Around) (outer : List Env) (s : Shared) (H : Hp) (args : Args) (us : List Value) (vs : List V) (Q : VK) (E : XK),
    Room k A → A.guards = some [] → Env0 P w K mg base A outer s H → BindsTo s fd args (ps.zip us) → Vals vs us → sp vs H Q E →
    codeAny (model P w) A (.call (.ref f) args) (CR CX0 outer P w H s Q E) s
theorem FnG.mono {P : Program} {w : World} {K : PySem.W.Frag} {mg : Str → Option Value} {base : Heap} {j k : Nat} {f : Addr} {fd : FuncData}
    {ps : List Str} {sp : Sp} (F : FnG P w K mg base j f fd ps sp) (h : j ≤ k) : FnG P w K mg base k f fd ps sp :=
  ⟨F.len, fun A outer s H args us vs Q E hr => F.run A outer s H args us vs Q E (hr.mono h)⟩
theorem pe_callG {k : Nat} {f : Addr} {fd : FuncData} {ps : List Str} {sp : Sp} {x : Str} {p pos : Pos} {e : Expr} {es : List Expr} {t : TA}
    (F : FnG X.prog X.w X.K X.mg X.base k f fd ps sp) (hr : Room k X.A) (h0 : X.A.guards = some []) (hg : Gl X x)
    (hm : X.mg x = some (.ref f)) (hk : PySem.W.keepIn X.K (.ref f) = true) (hb : Binds X.K fd ps []) (ha : PA X (e :: es) t)
    (hdb : (x == ("__debug__" : Str)) = false := by decide)
    (he : starEach (e :: es) X.env = (false, eval e X.env) :: starEach es X.env := by rfl)
    (hpl : (backTo pos (starEach es X.env)).any (·.1) = false := by rfl) :
    PE X (.Call (.Name x p) (e :: es) [] pos) (tCall sp [] E0 t) := by
  refine ⟨fun pins s σ H Q I h => ?_⟩
  refine wpAny_Call_Name_kw (ld_glob I hg hm (PySem.W.callWith_K (h₀ := X.base) I.ok.mod.kin hk
    (thn (ha.run pos pins s σ H _ I h) fun us s1 hu => ?_) he hpl) hdb)
  obtain ⟨vs, H1, I1, r, q⟩ := hu
  rw [List.append_nil] at q
  refine ⟨I1.kIn, wpAny_call ?_⟩
  have hl : us.length = ps.length := by
    rw [← r.length]
    exact F.len _ _ _ _ q
  have b := hb s1 us I1.kIn (by rw [List.append_nil]; exact hl)
  rw [List.append_nil] at b
  refine codeAny_mono (F.run X.A X.stack s1 H1 ⟨us, []⟩ us vs Q E0 hr h0 I1.env0 b r q) fun r s' hq => ?_
  match r, hq with
  | .error e, hq => exact False.elim hq
  | .ok (.ret u), hq => exact I1.after hq
end
section
variable {P : Program} {w : World} {K : PySem.W.Frag} {mg : Str → Option Value} {base : Heap}
theorem okG {x qual : Str} {st : Stmt} {f : Addr} {fd : FuncData} {N ps : List Str} {k : Nat} {sp : Sp} (F : Fun K x qual st f fd)
    (S : FnScope N ps (defScope st)) (len : ∀ vs H Q E, sp vs H Q E → vs.length = ps.length)
    (hbody : ∀ (cdv : Value) (A : Around) (outer : List Env) (s : Shared) (H : Hp) (vs : List V) (Q : VK) (E : XK),
      Room k (A.deeper (envOfC qual (defScope st) s.heap.objs.size f cdv)) → A.guards = some [] → sp vs H Q E →
      ∃ t, PSs (cxOf CX0 P w K mg base N qual (defScope st) f cdv A outer s H E).nox (defBody st) t ∧
        t { nx := fun _ H' => Q .non H', rt := Q } (start N vs) H) : FnG P w K mg base (k + 1) f fd ps sp := by
  obtain ⟨oc, od, kV, doc, pm, an, cdv, ct, osl, rfl, lk, hcd⟩ := F.ex
  refine ⟨len, fun A outer s H args us vs Q E hr h0 e0 hb r hsp => ?_⟩
  have KX : K.In s.heap := e0.mod.kin.keeps fun b o e => (e0.bs b o e).1
  have lim : s.heap.NoLimit := e0.mod.nolimit.keeps fun b o e => (e0.bs b o e).1
  refine codeAny_call_function hr.depth (KX _ _ lk) rfl S.co S.gen rfl (PySem.W.codeRec_of KX hcd) (hb _ _ _ _
    (wpAny_newFunctionEnv_cells S.kind (fun y hy => ?_) fun env he s1 y => ?_))
  · obtain ⟨n, v⟩ := y
    exact (S.par n (List.of_mem_zip hy).1).imp id fun z => ⟨z, PySem.W.cellsFrom_some _ _ _ (.inl z)⟩
  · subst he
    refine ⟨lim.keeps y.toInCall.keep, codeAny_func ?_⟩
    obtain ⟨t, ht, hq⟩ := hbody cdv A outer s H vs Q E (hr.deeper _) h0 hsp
    have I : Inv (cxOf CX0 P w K mg base N qual (defScope st) f cdv A outer s H E) [] (start N vs) H s1 :=
      inv_start S hr.hd e0 (len _ _ _ _ hsp) r y
    refine wpAny_mono (ht.nox.run [] s1 (start N vs) H _ I hq) (fun fl s' hs => ?_) fun e s' hs => hs
    match fl, hs with
    | .ret u, ⟨v, σ', H', J, rv, q⟩ => exact ⟨v, H', J.os, J.bare, J.base, J.hok, rv, q⟩
    | .next, ⟨σ', H', J, q⟩ => exact ⟨V.non, H', J.os, J.bare, J.base, J.hok, rfl, q⟩
    | .brk, ⟨_, _, _, q⟩ => exact False.elim q
    | .cont, ⟨_, _, _, q⟩ => exact False.elim q
end
end Ea
set_option Elab.async false
set_option linter.all false
set_option maxRecDepth 100000
set_option maxHeartbeats 4000000
/-! The law's own call, from a promise that needs that nothing is being shown. -/
namespace Ea
open PySem PySem.Spec PyProof.Rows L2

section
variable {P : Program} {w : World} {K : PySem.W.Frag} {mg mb : Str → Option Value} {k : Nat} {fa a : Addr} {fd : FuncData} {x : Str} {sp : Sp}
  {s₁ : Shared} {vs : List Value} {ns : List Int}
/-- what the call is to end with -/
abbrev Fine (s₁ : Shared) : Result → Shared → Prop := fun r s' => r = .ok (.ret (.bool true)) ∧ OldK s₁.heap s'.heap ∧ s'.os = s₁.os ∧ AllBare s'.gens

theorem call_from (KX : K.In s₁.heap) (hns : s₁.heap.Ns mainGlobals mg) (hb : s₁.heap.Ns builtinsNs mb)
    (hbb : ∀ x : Str, x ≠ "__name__" → mb x = bootBuiltins x) (hlim : s₁.heap.NoLimit) (hg : s₁.gens = #[])
    (ha : s₁.heap.get? a = some { cls := .type "list", data := .seq vs.toArray }) (hr : Room k callerA)
    (F : ∀ base : Heap, K.In base → base.Ns mainGlobals mg → FnG P w K mg base k fa fd [x] sp)
    (hbind : ∀ (s : Shared) (u : Value), BindsTo s fd ⟨[u], []⟩ [(x, u)])
    {H : Hp} (hO : Only H) (hok : HOk P w H s₁.heap) (hA : ∀ b, H b ≠ none → b = a) (hK : H a ≠ none → K.lookup a = none)
    (h : sp [.ref a] H (fun v _ => v = .bl true) fun _ _ _ => False) :
    codeAny (model P w) callerA (.call (.ref fa) ⟨[.ref a], []⟩) (Fine s₁) s₁ := by
  have out : ∀ {b : Addr}, (∃ u, H b = some u) → b = a := fun {b} ⟨u, e⟩ => hA b (by rw [e]; exact nofun)
  have free : ∀ {b : Addr} {o : Obj} {es : Array DictEntry} {ep : Nat}, s₁.heap.get? b = some o → o.data = .dict es ep → H b = none := by
    intro b o es ep e d
    cases q : H b with
    | none => rfl
    | some u =>
      obtain rfl := out ⟨u, q⟩
      rw [ha] at e
      cases e
      cases d
  have nsK : ∀ {b : Addr} {m : Str → Option Value}, s₁.heap.Ns b m → (hidT s₁.heap H).Ns b m :=
    fun {b m} ⟨o, es, ep, e, d, r⟩ => ⟨o, es, ep, hidT_get e (free e d), d, r⟩
  have hKb : K.In (hidT s₁.heap H) := by
    intro b o e
    refine hidT_get (KX b o e) ?_
    cases q : H b with
    | none => rfl
    | some u =>
      obtain rfl := out ⟨u, q⟩
      rw [hK (by rw [q]; exact nofun)] at e
      cases e
  have lim : (hidT s₁.heap H).NoLimit := by
    obtain ⟨mc, h1, h2⟩ := hlim
    exact ⟨mc, nsK h1, h2⟩
  have e0 : Env0 P w K mg (hidT s₁.heap H) callerA [] s₁ H :=
    ⟨rfl, ⟨hKb, nsK hns, ⟨mb, nsK hb, hbb⟩, lim⟩, fun b o e => of_hidT e, Nat.le_of_eq (hidT_size _ _), trivial, nofun, hok, .of_eq hg⟩
  have run := (F _ hKb (nsK hns)).run callerA [] s₁ H ⟨[.ref a], []⟩ [.ref a] [.ref a] (fun v _ => v = .bl true) (fun _ _ _ => False) hr rfl e0
    (hbind s₁ (.ref a)) (.cons rfl .nil) h
  refine codeAny_mono run fun r s' hq => ?_
  match r, hq with
  | .error e, hq => exact False.elim hq
  | .ok (.ret u), ⟨v, H', os, bare, un, hok', r', (q' : v = .bl true)⟩ =>
    subst q'
    obtain rfl : u = Value.bool true := r'
    refine ⟨rfl, OldK.of_keep fun b o e => ?_, os, bare⟩
    cases q : H b with
    | none => exact un.keep b o e q nofun nofun
    | some u =>
      rcases hO b with z | ⟨ob, xs, z⟩
      · rw [q] at z
        cases z
      · obtain ⟨e1, _⟩ := hok b _ z
        obtain ⟨e2, _⟩ := hok' b _ (un.frzs b ob _ z)
        rw [e] at e1
        cases e1
        exact e2

theorem call_law (KX : K.In s₁.heap) (hns : s₁.heap.Ns mainGlobals mg) (hb : s₁.heap.Ns builtinsNs mb)
    (hbb : ∀ x : Str, x ≠ "__name__" → mb x = bootBuiltins x) (hlim : s₁.heap.NoLimit) (hg : s₁.gens = #[])
    (ha : s₁.heap.get? a = some { cls := .type "list", data := .seq vs.toArray }) (hi : IntsAre vs ns) (hl : ns.length ≤ sizeLine) (hr : Room k callerA)
    (F : ∀ base : Heap, K.In base → base.Ns mainGlobals mg → FnG P w K mg base k fa fd [x] sp)
    (hbind : ∀ (s : Shared) (u : Value), BindsTo s fd ⟨[u], []⟩ [(x, u)])
    (hsp : ∀ H : Hp, Only H → SqL K H a (ns.map V.int) → sp [.ref a] H (fun v _ => v = .bl true) fun _ _ _ => False) :
    codeAny (model P w) callerA (.call (.ref fa) ⟨[.ref a], []⟩) (Fine s₁) s₁ := by
  have rv := vals_ints hi
  cases hk : K.lookup a with
  | some o =>
    have e := KX a o hk
    rw [ha] at e
    cases e
    have hS : SqL K (fun _ => none) a (ns.map V.int) :=
      .inr ⟨_, vs.toArray, _, hk, rfl, rfl, rfl, by rw [List.size_toArray, hi.length]; exact hl, by simpa using rv⟩
    exact call_from KX hns hb hbb hlim hg ha hr F hbind (H := fun _ => none) (fun _ => .inl rfl) nofun (fun b z => absurd rfl z) (fun z => absurd rfl z) (hsp _ (fun _ => .inl rfl) hS)
  | none =>
    let one : HO := .frz { cls := .type "list", data := .seq vs.toArray } (.lst (ns.map V.int))
    let H : Hp := fun b => if b = a then some one else none
    have at_ : H a = some one := if_pos rfl
    have off : ∀ {b : Addr}, b ≠ a → H b = none := fun h => if_neg h
    have hO : Only H := fun b => by
      by_cases e : b = a
      · subst e
        exact .inr ⟨_, _, at_⟩
      · exact .inl (off e)
    have hS : SqL K H a (ns.map V.int) := .inl (.inr ⟨_, at_⟩)
    refine call_from KX hns hb hbb hlim hg ha hr F hbind hO (fun b u z => ?_) (fun b z => ?_) (fun _ => hk) (hsp H hO hS)
    · by_cases e : b = a
      · subst e
        rw [at_] at z
        cases z
        exact ⟨ha, by rw [List.length_map]; exact hl, vs, _, rv, ha⟩
      · rw [off e] at z
        cases z
    · by_cases e : b = a
      · exact e
      · exact absurd (off e) z
end
theorem walk_G {l : PySem.W.OpenLaw} {n k : Nat} {q : Program} {loose : List Str} {XP : (Str → Option Value) → Heap → Prop} {YP : World → Heap → Prop}
    {d : DefRec} {K : Params → PySem.W.Frag} {sp : World → Sp} {x : Str}
    (hn : l.most = some n) (hn2 : n ≤ sizeLine) (hdf : d.params.defaults = []) (hr : Room k callerA)
    (hY : ∀ (w : World) (h : Heap), YP w h → (K w.params).In h)
    (F : ∀ (w : World) (mg : Str → Option Value) (fa : Addr) (h : Heap), (K w.params).In h → h.Ns mainGlobals mg → mg d.name = some (.ref fa) →
      ∃ fd : FuncData, (∀ (s : Shared) (u : Value), BindsTo s fd ⟨[u], []⟩ [(x, u)]) ∧
        ∀ base : Heap, (K w.params).In base → base.Ns mainGlobals mg → FnG l.prog w (K w.params) mg base k fa fd [x] (sp w))
    (hsp : ∀ (w : World) (H : Hp) (a : Addr) (ns : List Int), ns.length ≤ n → Only H → SqL (K w.params) H a (ns.map V.int) →
      sp w [.ref a] H (fun v _ => v = .bl true) fun _ _ _ => False) :
    PySem.W.WalkO q loose XP YP l.row.toRowW d [] (fun f vs => PySem.call f vs) := by
  refine Att.attach_call hn hdf fun w s₀ s₁ mg mb fa o pm cd doc a vs ns G Y ho hd hcd hmg hobj hints hlen hg => ?_
  obtain ⟨fd, hb, hF⟩ := F w mg fa _ (hY w _ Y) G.T.g hmg
  exact call_law (hY w _ Y) G.T.g G.T.b G.T.builtins G.T.nolimit hg hobj hints (Nat.le_trans hlen hn2) hr hF hb fun H hO hS => hsp w H a ns hlen hO hS
end Ea
set_option Elab.async false
set_option linter.all false
set_option maxRecDepth 100000
set_option maxHeartbeats 4000000
/-! Readings gone through from the left: one lemma for each shape; a deck of draws (a dict). -/
namespace Ea
open PySem PySem.Spec PyProof.Rows L2

/-! ### built-ins by names of their own -/
def rInt : List V → Hp → VK → Prop := fun xs H Q => (∃ i, xs = [.int i] ∧ Q (.int i) H) ∨ ∃ k, xs = [.bl k] ∧ Q (.int (if k then 1 else 0)) H
def rAbs : List V → Hp → VK → Prop := fun xs H Q => ∃ i, xs = [.int i] ∧ Q (.int (if i < 0 then -i else i)) H
def rMin2 : List V → Hp → VK → Prop := fun xs H Q => ∃ i j, xs = [.int i, .int j] ∧ Q (.int (if j < i then j else i)) H
def rMax2 : List V → Hp → VK → Prop := fun xs H Q => ∃ i j, xs = [.int i, .int j] ∧ Q (.int (if j > i then j else i)) H
def rLenQ (K : PySem.W.Frag) : List V → Hp → VK → Prop := fun xs H Q => ∃ p ys, xs = [.ref p] ∧ (SqL K H p ys ∨ SqT K H p ys) ∧ Q (.int ys.length) H
def rLenS : List V → Hp → VK → Prop := fun xs H Q => ∃ z, xs = [.str z] ∧ z.length ≤ sizeLine ∧ Q (.int z.length) H
def rTupOf (K : PySem.W.Frag) : List V → Hp → VK → Prop := fun xs H Q => ∃ p ys, xs = [.ref p] ∧ ((SqL K H p ys ∧ ∀ l, H l = none → Q (.ref l) (upd H l (.tup ys))) ∨ (SqT K H p ys ∧ Q (.ref p) H))
def rListOf (K : PySem.W.Frag) : List V → Hp → VK → Prop := fun xs H Q => ∃ p ys, xs = [.ref p] ∧ (SqL K H p ys ∨ SqT K H p ys) ∧ ∀ l, H l = none → Q (.ref l) (upd H l (.lst ys))
section
variable {X : Cx}
theorem c_int : CallR X (.type "int") rInt := call_int1
theorem c_abs : CallR X (.builtin "abs") rAbs := call_abs
theorem c_min2 (hc : X.calm = true) : CallR X (.builtin "min") rMin2 := call_min2 hc
theorem c_max2 (hc : X.calm = true) : CallR X (.builtin "max") rMax2 := call_max2 hc
theorem c_len {K : PySem.W.Frag} (h : X.K = K) : CallR X (.builtin "len") (rLenQ K) := h ▸ call_len_seq
theorem c_lenS : CallR X (.builtin "len") rLenS := call_len_str
theorem c_tuple {K : PySem.W.Frag} (h : X.K = K) : CallR X (.type "tuple") (rTupOf K) := h ▸ call_tuple_of
theorem c_list {K : PySem.W.Frag} (h : X.K = K) : CallR X (.type "list") (rListOf K) := h ▸ call_list_of
theorem c_sum {K : PySem.W.Frag} (h : X.K = K) (hc : X.calm = true) : CallR X (.builtin "sum") (rSum K) := h ▸ cr_sum hc
theorem c_max {K : PySem.W.Frag} (h : X.K = K) (hc : X.calm = true) : CallR X (.builtin "max") (rMax K) := h ▸ cr_max hc
theorem c_min {K : PySem.W.Frag} (h : X.K = K) (hc : X.calm = true) : CallR X (.builtin "min") (rMin K) := h ▸ cr_min hc
theorem c_sorted {K : PySem.W.Frag} (h : X.K = K) : CallR X (.builtin "sorted") (rSortedI K) := h ▸ cr_sortedI
theorem c_repr {K : PySem.W.Frag} (h : X.K = K) (hg : X.A.guards = some []) (hu : X.A.units + 64 < cLine) : CallR X (.builtin "repr") (rRepr K) := h ▸ cr_repr hg hu
theorem c_set {K : PySem.W.Frag} {w : World} (h : X.K = K) (h2 : X.w = w) (hc : X.calm = true) : CallR X (.type "set") (rSetI K w) := h ▸ h2 ▸ cr_setI hc
theorem ik_list {K : PySem.W.Frag} (h : X.K = K) : IxR X (rIxL K) := h ▸ ix_list
theorem ik_tup {K : PySem.W.Frag} (h : X.K = K) : IxR X (rIxT K) := h ▸ ix_tup
theorem ik_dict {K : PySem.W.Frag} {w : World} (h : X.K = K) (h2 : X.w = w) : IxR X (rIxD K w) := h ▸ h2 ▸ ix_kdict
theorem sk_list {K : PySem.W.Frag} (h : X.K = K) : SlR X (rSlL K) := h ▸ sl_list
theorem sk_tup {K : PySem.W.Frag} (h : X.K = K) : SlR X (rSlA K) := h ▸ sl_tupA
theorem ok_in {K : PySem.W.Frag} (h : X.K = K) : OpR X (compareOp .In) (rIn K false) := h ▸ op_in_seq
theorem ok_notIn {K : PySem.W.Frag} (h : X.K = K) : OpR X (compareOp .NotIn) (rIn K true) := h ▸ op_notIn_seq
theorem ok_eqD {K : PySem.W.Frag} (h : X.K = K) (hu : X.A.units + 64 < cLine) : OpR X (compareOp .Eq) (rEqD K) := h ▸ op_eqD hu
theorem ok_neD {K : PySem.W.Frag} (h : X.K = K) (hu : X.A.units + 64 < cLine) : OpR X (compareOp .NotEq) (rNeD K) := h ▸ op_neD hu
theorem ok_catT {K : PySem.W.Frag} (h : X.K = K) : OpR X (binaryOp .Add) (rCatA K) := h ▸ op_catA
theorem ok_sin {w : World} (h : X.w = w) : OpR X (compareOp .In) (rSIn w) := h ▸ or_sin
theorem ok_snotin {w : World} (h : X.w = w) : OpR X (compareOp .NotIn) (rSNotIn w) := h ▸ or_snotin
theorem ik_tupI {K : PySem.W.Frag} (h : X.K = K) {tg l : Expr} {tl : TE} (hl : PE X l tl) : PI X tg l (iTup K tl) := h ▸ pi_tup hl
theorem ik_listI {K : PySem.W.Frag} (h : X.K = K) {tg l : Expr} {tl : TE} (hl : PE X l tl) : PI X tg l (iList K tl) := h ▸ pi_list hl
def tTruK (K : PySem.W.Frag) (ta : TE) : TT := fun σ H Q => ta σ H fun x H' => ∃ k, TruV K x H' k ∧ Q k H'
theorem pk_truth {K : PySem.W.Frag} (h : X.K = K) {a : Expr} {ta : TE} (ha : PE X a ta)
    (he : ∀ whole, isTrue a X.env whole = (do let v ← whole; standAt a.pos; holding [v] (truthy v))) : PT X a (tTruK K ta) := h ▸ pt_truth ha he
end
section
variable {K : PySem.W.Frag} {σ σ' : L2.St} {H : Hp} {Q : VK} {QB : Bool → Hp → Prop} {QA : List V → Hp → Prop} {D : Ends} {i j : Nat} {x y v w : V}
  {ta tb te td ty : TE} {tt tu : TT} {r : R2} {a b : Int} {ts tz : TS} {g : Int → Int → V} {gi : Int → V} {C : Int → Int → Prop} {tr : TA} {tl th : TO}
theorem rd_start {t : TS} (e : σ = σ') (h : t D σ' H) : t D σ H := by
  subst e
  exact h
theorem rd_seq (h : ts { D with nx := tz D } σ H) : tSeq ts tz D σ H := h
theorem rd_if (h : tt σ H fun c H1 => if c = true then ts D σ H1 else tz D σ H1) : tIfS tt ts tz D σ H := h
theorem rd_next (h : D.nx σ H) : tNext D σ H := h
theorem rd_ret (h : te σ H D.rt) : tRet te D σ H := h
theorem rd_drop (h : te σ H fun _ H1 => D.nx σ H1) : tDrop te D σ H := h
theorem rd_asg {tg : TG} (h : te σ H fun x H1 => tg x σ H1 D.nx) : tAsg te tg D σ H := h
theorem rd_name {N : L2.St → Hp → Prop} (hs : σ.set i (some v) = σ') (h : N σ' H) : gName i v σ H N := by
  subst hs
  exact h
theorem rd_var (hv : σ[i]? = some (some v)) (h : Q v H) : tVar i σ H Q := ⟨v, hv, h⟩
theorem rd_c (h : Q v H) : tC v σ H Q := h
theorem rd_op (h : ta σ H fun x H1 => tb σ H1 fun y H2 => r x y H2 Q) : tOp r ta tb σ H Q := h
theorem rd_un {ru : V → Hp → VK → Prop} (h : ta σ H fun x H1 => ru x H1 Q) : tUn ru ta σ H Q := h
theorem rd_I0 (h : Q (g a b) H) : rI0 g (.int a) (.int b) H Q := ⟨a, b, rfl, rfl, h⟩
theorem rd_I (hc : C a b) (h : Q (g a b) H) : rI C g (.int a) (.int b) H Q := ⟨a, b, rfl, rfl, hc, h⟩
theorem rd_U (h : Q (gi a) H) : rU gi (.int a) H Q := ⟨a, rfl, h⟩
theorem rd_eq (hs : scal x y = true) (h : Q (.bl (decide (x = y))) H) : rEq x y H Q := ⟨hs, h⟩
theorem rd_ne (hs : scal x y = true) (h : Q (.bl (!decide (x = y))) H) : rNe x y H Q := ⟨hs, h⟩
theorem rd_test (h : te σ H fun x H' => ∃ k, x = .bl k ∧ QB k H') : tTest te σ H QB := h
theorem rd_B (h : te σ H fun x H' => ∃ k, x = .bl k ∧ QB k H') : tB te σ H QB := h
theorem rd_not (h : tt σ H fun c H1 => QB (!c) H1) : tNot tt σ H QB := h
theorem rd_and (h : tt σ H fun c H1 => if c = true then tu σ H1 QB else QB false H1) : tAnd tt tu σ H QB := h
theorem rd_or (h : tt σ H fun c H1 => if c = true then QB true H1 else tu σ H1 QB) : tOr tt tu σ H QB := h
theorem rd_k {b : Bool} {P : Bool → Prop} (h : P b) : ∃ k, V.bl b = V.bl k ∧ P k := ⟨b, rfl, h⟩
theorem rd_ite {p : Prop} {_ : Decidable p} {A B : Prop} (h1 : p → A) (h2 : ¬ p → B) : if decide p = true then A else B := by
  by_cases h : p
  · rw [if_pos (decide_eq_true h)]
    exact h1 h
  · rw [if_neg (by rw [decide_eq_true_eq]; exact h)]
    exact h2 h
theorem rd_iten {p : Prop} {_ : Decidable p} {A B : Prop} (h1 : ¬ p → A) (h2 : p → B) : if (!decide p) = true then A else B := by
  by_cases h : p
  · rw [decide_eq_true h]
    exact h2 h
  · rw [decide_eq_false h]
    exact h1 h
theorem rd_iteb {b : Bool} {A B : Prop} (h1 : b = true → A) (h2 : b = false → B) : if b = true then A else B := by
  cases b with
  | true => exact h1 rfl
  | false => exact h2 rfl
theorem rd_ifE (h : tt σ H fun c H1 => if c = true then ta σ H1 Q else tb σ H1 Q) : tIf tt ta tb σ H Q := h
theorem rd_nil (h : QA [] H) : tNil σ H QA := h
theorem rd_cons (h : te σ H fun x H1 => tr σ H1 fun xs H2 => QA (x :: xs) H2) : tCons te tr σ H QA := h
theorem rd_call {sp : Sp} {ds : List V} {E : XK} (h : tr σ H fun vs H1 => sp (vs ++ ds) H1 Q E) : tCall sp ds E tr σ H Q := h
theorem rd_cb {rc : List V → Hp → VK → Prop} (h : tr σ H fun vs H1 => rc vs H1 Q) : tCB rc tr σ H Q := h
theorem rd_tup (h : tr σ H fun xs H1 => xs.length ≤ sizeLine ∧ ∀ p, H1 p = none → Q (.ref p) (upd H1 p (.tup xs))) : tTup tr σ H Q := h
theorem rd_lst (h : tr σ H fun xs H1 => xs.length ≤ sizeLine ∧ ∀ p, H1 p = none → Q (.ref p) (upd H1 p (.lst xs))) : tLst tr σ H Q := h
theorem rd_dget (h : td σ H fun x H1 => ty σ H1 fun y H2 => ∃ a v, x = .ref a ∧ DGet H2 a y (some v) ∧ Q v H2) : tDGet td ty σ H Q := h
theorem rd_sl {rs : V → Option Int → Option Int → Hp → VK → Prop} (h : te σ H fun x H1 => tl σ H1 fun l H2 => th σ H2 fun u H3 => rs x l u H3 Q) : tSl rs te tl th σ H Q := h
theorem rd_nopart {QO : Option Int → Hp → Prop} (h : QO none H) : tNoPart σ H QO := h
theorem rd_part {QO : Option Int → Hp → Prop} (h : te σ H fun x H1 => ∃ i, x = .int i ∧ QO (some i) H1) : tPart te σ H QO := h
theorem rd_parti {P : Int → Prop} (h : P a) : ∃ i, V.int a = .int i ∧ P i := ⟨a, rfl, h⟩
theorem rd_bm {T : String} {rm : V → List V → Hp → VK → Prop} (h : te σ H fun x H1 => tyV K T x H1 ∧ tr σ H1 fun xs H2 => rm x xs H2 Q) : tBM K T rm te tr σ H Q := h
theorem rd_bm0 {T : String} {rm : V → List V → Hp → VK → Prop} (h : te σ H fun x H1 => tyV K T x H1 ∧ rm x [] H1 Q) : tBM0 K T rm te σ H Q := h
theorem rd_dput (h : te σ H fun v H1 => td σ H1 fun x H2 => ty σ H2 fun y H3 => ∃ a H4, x = .ref a ∧ DPut H3 a y v H4 ∧ D.nx σ H4) : sDPut td ty te D σ H := h
theorem rd_par {t : TA} (h : t σ H fun vs H1 => ∃ v w, vs = [v, w] ∧ D.nx ((σ.set i (some v)).set j (some w)) H1) : tPar i j t D σ H := h
theorem rd_par2 {N : L2.St → Hp → Prop} (hs : (σ.set i (some v)).set j (some w) = σ') (h : N σ' H) :
    ∃ v' w', ([v, w] : List V) = [v', w'] ∧ N ((σ.set i (some v')).set j (some w')) H := by
  subst hs
  exact ⟨v, w, rfl, h⟩
/-- while, by a word that falls -/
theorem rd_while (W : Nat → L2.St → Hp → Prop) (m : Nat) (h0 : W m σ H)
    (hs : ∀ m σ1 H1, W m σ1 H1 → tt σ1 H1 fun b H2 => if b = true then
      ts { D with nx := fun σ' H' => ∃ m', m' < m ∧ W m' σ' H', ct := fun σ' H' => ∃ m', m' < m ∧ W m' σ' H', bk := D.nx } σ1 H2 else D.nx σ1 H2)
    (mono : ∀ σ H Q Q', (∀ b H1, Q b H1 → Q' b H1) → tt σ H Q → tt σ H Q') : tWhile tt ts D σ H :=
  ⟨W, ⟨m, h0⟩, fun m σ1 H1 w => mono _ _ _ _ (fun b H2 h => by
    cases b with
    | true => exact ⟨_, fun _ _ z => z, h⟩
    | false => exact h) (hs m σ1 H1 w)⟩
theorem rd_whileE (h : ∃ W : Nat → L2.St → Hp → Prop, (∃ m, W m σ H) ∧ ∀ m σ H, W m σ H → tt σ H fun b H1 => if b = true then ∃ N : L2.St → Hp → Prop,
    (∀ σ' H', N σ' H' → ∃ m', m' < m ∧ W m' σ' H') ∧ ts { D with nx := N, ct := N, bk := D.nx } σ H1 else D.nx σ H1) : tWhile tt ts D σ H := h
theorem rd_tru (h : ta σ H fun x H' => ∃ k, TruV K x H' k ∧ QB k H') : tTruK K ta σ H QB := h
theorem rd_truI {P : Bool → Prop} (h : P (a != 0)) : ∃ k, TruV K (.int a) H k ∧ P k := ⟨_, rfl, h⟩
theorem rd_int1 (h : Q (.int a) H) : (∃ i, ([.int a] : List V) = [.int i] ∧ Q (.int i) H) ∨ ∃ k, ([.int a] : List V) = [.bl k] ∧ Q (.int (if k then 1 else 0)) H := .inl ⟨a, rfl, h⟩
end

section
variable {K : PySem.W.Frag} {H : Hp} {Q : VK} {a b : Int} {k : Bool} {p : Addr} {ys : List V} {z : Str}
theorem rd_int (h : Q (.int a) H) : rInt [.int a] H Q := .inl ⟨a, rfl, h⟩
theorem rd_intb (h : Q (.int (if k then 1 else 0)) H) : rInt [.bl k] H Q := .inr ⟨k, rfl, h⟩
theorem rd_abs (h : Q (.int (a.natAbs : Int)) H) : rAbs [.int a] H Q := ⟨a, rfl, by
  rw [show (if a < 0 then -a else a) = (a.natAbs : Int) by split <;> omega]
  exact h⟩
theorem rd_min2 (h : Q (.int (if b < a then b else a)) H) : rMin2 [.int a, .int b] H Q := ⟨a, b, rfl, h⟩
theorem rd_max2 (h : Q (.int (if b > a then b else a)) H) : rMax2 [.int a, .int b] H Q := ⟨a, b, rfl, h⟩
theorem rd_lenL (s : SqL K H p ys) (h : Q (.int ys.length) H) : rLenQ K [.ref p] H Q := ⟨p, ys, rfl, .inl s, h⟩
theorem rd_lenT (s : SqT K H p ys) (h : Q (.int ys.length) H) : rLenQ K [.ref p] H Q := ⟨p, ys, rfl, .inr s, h⟩
theorem rd_lenS (s : z.length ≤ sizeLine) (h : Q (.int z.length) H) : rLenS [.str z] H Q := ⟨z, rfl, s, h⟩
theorem rd_tupL (s : SqL K H p ys) (h : ∀ l, H l = none → Q (.ref l) (upd H l (.tup ys))) : rTupOf K [.ref p] H Q := ⟨p, ys, rfl, .inl ⟨s, h⟩⟩
theorem rd_tupT (s : SqT K H p ys) (h : Q (.ref p) H) : rTupOf K [.ref p] H Q := ⟨p, ys, rfl, .inr ⟨s, h⟩⟩
theorem rd_listL (s : SqL K H p ys) (h : ∀ l, H l = none → Q (.ref l) (upd H l (.lst ys))) : rListOf K [.ref p] H Q := ⟨p, ys, rfl, .inl s, h⟩
theorem rd_listT (s : SqT K H p ys) (h : ∀ l, H l = none → Q (.ref l) (upd H l (.lst ys))) : rListOf K [.ref p] H Q := ⟨p, ys, rfl, .inr s, h⟩
theorem rd_ixL {x : V} {i : Int} (s : SqL K H p ys) (e : atI ys i = some x) (h : Q x H) : rIxL K (.ref p) (.int i) H Q := ⟨p, ys, i, x, rfl, rfl, s, e, h⟩
theorem rd_ixT {x : V} {i : Int} (s : SqT K H p ys) (e : atI ys i = some x) (h : Q x H) : rIxT K (.ref p) (.int i) H Q := ⟨p, ys, i, x, rfl, rfl, s, e, h⟩
theorem rd_ixS {c : Nat} {i : Int} (s : z.length ≤ sizeLine) (e : atI z.cps.toList i = some c) (h : Q (.str ⟨#[c]⟩) H) : rIxS (.str z) (.int i) H Q := ⟨z, i, c, rfl, rfl, s, e, h⟩
end

/-! ### a deck of draws, a dict -/
def DeckB (d l : Addr) (H : Hp) : Prop := ∃ (ns : List Int) (s : Int),
  H d = some (.dK [(.inr "deep", .ref l), (.inr "state", .int s)]) ∧ H l = some (.lst (ns.map V.int)) ∧ ns.length ≤ 63 ∧ (∀ n ∈ ns, 0 ≤ n) ∧ 0 ≤ s ∧ s < 2305843009213693951
/-- what is left as it was by draws: all but the deck -/
structure Go (d l : Addr) (H H' : Hp) : Prop where
  dk : DeckB d l H'
  kp : ∀ a o, a ≠ d → a ≠ l → H a = some o → H' a = some o
section
variable {d l : Addr} {H H1 H2 : Hp}
theorem DeckB.ne (h : DeckB d l H) : d ≠ l := by
  obtain ⟨ns, s, e1, e2, _⟩ := h
  exact ne_of e1 e2 nofun
theorem Go.refl (h : DeckB d l H) : Go d l H H := ⟨h, fun _ _ _ _ e => e⟩
theorem Go.trans (a : Go d l H H1) (b : Go d l H1 H2) : Go d l H H2 := ⟨b.dk, fun p o n1 n2 e => b.kp p o n1 n2 (a.kp p o n1 n2 e)⟩
theorem DeckB.off (h : DeckB d l H) {p : Addr} (e : H p = none) : p ≠ d ∧ p ≠ l := by
  obtain ⟨ns, s, e1, e2, _⟩ := h
  exact ⟨fun z => (by rw [z, e1] at e; cases e), fun z => (by rw [z, e2] at e; cases e)⟩
theorem DeckB.upd (h : DeckB d l H) {p : Addr} {o : HO} (n1 : p ≠ d) (n2 : p ≠ l) : DeckB d l (upd H p o) := by
  obtain ⟨ns, s, e1, e2, r⟩ := h
  exact ⟨ns, s, by rw [upd_ne n1.symm]; exact e1, by rw [upd_ne n2.symm]; exact e2, r⟩
theorem Go.new (h : DeckB d l H) {p : Addr} {o : HO} (e : H p = none) : Go d l H (upd H p o) := by
  obtain ⟨n1, n2⟩ := h.off e
  exact ⟨h.upd n1 n2, fun q u _ _ eq => by rw [upd_ne (ne_of_none eq e)]; exact eq⟩
/-- an object that H does not know may change -/
theorem Go.mut (g : Go d l H H1) (h : DeckB d l H) {p : Addr} {o : HO} (e : H p = none) : Go d l H (upd H1 p o) := by
  obtain ⟨n1, n2⟩ := h.off e
  exact ⟨g.dk.upd n1 n2, fun q u m1 m2 eq => by rw [upd_ne (ne_of_none eq e)]; exact g.kp q u m1 m2 eq⟩
theorem Go.back (g : Go d l H H1) (h : DeckB d l H) {p : Addr} (e : H1 p = none) : H p = none := by
  obtain ⟨n1, n2⟩ := g.dk.off e
  cases q : H p with
  | none => rfl
  | some o =>
    rw [g.kp p o n1 n2 q] at e
    cases e
/-- a tuple stays -/
theorem Go.tup {K : PySem.W.Frag} (g : Go d l H H1) (h : DeckB d l H) {a : Addr} {xs : List V} (t : SqT K H a xs) : SqT K H1 a xs := by
  obtain ⟨ns, s, e1, e2, _⟩ := h
  have hn : ∀ {o : HO}, H a = some o → (∀ kv, o ≠ .dK kv) → (∀ ys, o ≠ .lst ys) → H1 a = some o := fun e c1 c2 =>
    g.kp a _ (fun z => (by rw [z, e1] at e; cases e; exact c1 _ rfl)) (fun z => (by rw [z, e2] at e; cases e; exact c2 _ rfl)) e
  rcases t with (t | ⟨o, t⟩) | t
  · exact .inl (.inl (hn t nofun nofun))
  · exact .inl (.inr ⟨o, hn t nofun nofun⟩)
  · exact .inr t
end
end Ea
set_option Elab.async false
set_option linter.all false
set_option maxRecDepth 100000
set_option maxHeartbeats 4000000
/-! Data that can be shown, compared: how great they are. -/
namespace Ea
open PySem PySem.Spec PyProof.Rows L2

structure Nice (n k : Nat) (d : PyData) : Prop where
  bulk : d.bulk ≤ n
  depth : d.depth ≤ k
  lay : d.canLay0 = true
  show_ : d.showable = true
  short : d.leavesShort 13 = true
  dict : d.hasDict = false
structure NiceAll (n k : Nat) (ds : List PyData) : Prop where
  bulk : PyData.bulkAll ds ≤ n
  depth : PyData.depthAll ds ≤ k
  lay : PyData.canLayAll0 ds = true
  show_ : PyData.showableAll ds = true
  short : PyData.leavesShortAll 13 ds = true
  dict : PyData.hasDictAll ds = false
theorem Nice.mono {n k m j : Nat} {d : PyData} (h : Nice n k d) (a : n ≤ m) (b : k ≤ j) : Nice m j d := ⟨Nat.le_trans h.bulk a, Nat.le_trans h.depth b, h.lay, h.show_, h.short, h.dict⟩
theorem NiceAll.mono {n k m j : Nat} {d : List PyData} (h : NiceAll n k d) (a : n ≤ m) (b : k ≤ j) : NiceAll m j d := ⟨Nat.le_trans h.bulk a, Nat.le_trans h.depth b, h.lay, h.show_, h.short, h.dict⟩
theorem Nice.non : Nice 0 0 .none := ⟨Nat.le_refl _, Nat.le_refl _, rfl, rfl, rfl, rfl⟩
theorem Nice.bool (b : Bool) : Nice 0 0 (.bool b) := ⟨Nat.le_refl _, Nat.le_refl _, rfl, rfl, rfl, rfl⟩
theorem log2_small {n : Nat} (h : n < 10 ^ 12) : n.log2 < 1920 := by
  by_cases h0 : n = 0
  · subst h0
    decide
  · rw [Nat.log2_lt h0]
    exact Nat.lt_trans h (by decide +kernel)
theorem Nice.int {i : Int} (h : i.natAbs < 10 ^ 12) : Nice 0 0 (.int i) :=
  ⟨Nat.le_refl _, Nat.le_refl _, rfl, decide_eq_true (log2_small h), decide_eq_true (PyData.shown_int_le h), rfl⟩
theorem Nice.str {x : Str} {n : Nat} (h : x.cps.size ≤ n) (hs : ∀ c ∈ x.cps.toList, c < 1114112) (ho : PyData.canLay0 (.str x) = true) : Nice n 0 (.str x) :=
  ⟨h, Nat.le_refl _, ho, rfl, by
    show (x.cps.toList.all fun c => decide (c < 16 ^ 8)) = true
    rw [List.all_eq_true]
    exact fun c hc => decide_eq_true (Nat.lt_of_lt_of_le (hs c hc) (by decide)), rfl⟩
theorem NiceAll.nil {k : Nat} : NiceAll 0 k [] := ⟨Nat.le_refl _, Nat.zero_le _, rfl, rfl, rfl, rfl⟩
theorem NiceAll.cons {n m k : Nat} {d : PyData} {ds : List PyData} (h : Nice n k d) (hs : NiceAll m k ds) : NiceAll (n + 1 + m) k (d :: ds) := by
  refine ⟨?_, ?_, ?_, ?_, ?_, ?_⟩
  · show d.bulk + 1 + PyData.bulkAll ds ≤ _
    have := h.bulk
    have := hs.bulk
    omega
  · show max d.depth (PyData.depthAll ds) ≤ _
    have := h.depth
    have := hs.depth
    omega
  · show (d.canLay0 && PyData.canLayAll0 ds) = true
    rw [h.lay, hs.lay] <;> rfl
  · show (d.showable && PyData.showableAll ds) = true
    rw [h.show_, hs.show_] <;> rfl
  · show (d.leavesShort 13 && PyData.leavesShortAll 13 ds) = true
    rw [h.short, hs.short] <;> rfl
  · show (d.hasDict || PyData.hasDictAll ds) = false
    rw [h.dict, hs.dict] <;> rfl
theorem Nice.cons2 {n m k : Nat} {d e : PyData} (h : Nice n k d) (h2 : Nice m k e) : NiceAll (n + 1 + (m + 1 + 0)) k [d, e] := NiceAll.cons h (NiceAll.cons h2 NiceAll.nil)
theorem Nice.cons3 {n m o k : Nat} {d e f : PyData} (h : Nice n k d) (h2 : Nice m k e) (h3 : Nice o k f) : NiceAll (n + 1 + (m + 1 + (o + 1 + 0))) k [d, e, f] := NiceAll.cons h (NiceAll.cons h2 (NiceAll.cons h3 NiceAll.nil))
theorem Nice.cons1 {n k : Nat} {d : PyData} (h : Nice n k d) : NiceAll (n + 1 + 0) k [d] := NiceAll.cons h NiceAll.nil
theorem Nice.tup {n k : Nat} {ds : List PyData} (h : NiceAll n k ds) : Nice n (k + 1) (.tuple ds) := ⟨h.bulk, Nat.succ_le_succ h.depth, h.lay, h.show_, h.short, h.dict⟩
theorem Nice.lst {n k : Nat} {ds : List PyData} (h : NiceAll n k ds) : Nice n (k + 1) (.list ds) := ⟨h.bulk, Nat.succ_le_succ h.depth, h.lay, h.show_, h.short, h.dict⟩
def dI (ns : List Int) : List PyData := ns.map PyData.int
theorem NiceAll.ints : ∀ {ns : List Int}, (∀ n ∈ ns, n.natAbs < 10 ^ 12) → NiceAll ns.length 0 (dI ns)
  | [], _ => NiceAll.nil
  | n :: r, h => by
    have z := NiceAll.cons (Nice.int (h n List.mem_cons_self)) (NiceAll.ints (ns := r) fun m hm => h m (List.mem_cons_of_mem _ hm))
    exact z.mono (by rw [List.length_cons]; omega) (Nat.le_refl _)
theorem dp_ints {K : PySem.W.Frag} {H : Hp} : ∀ (ns : List Int), DpAll K H (ns.map V.int) (dI ns)
  | [] => .nil
  | n :: r => .cons (.int n) (dp_ints r)
theorem dp_T {K : PySem.W.Frag} {H : Hp} {a : Addr} {ns : List Int} (h : SqT K H a (ns.map V.int)) : Dp K H (.ref a) (.tuple (dI ns)) := .tup h (dp_ints ns)
theorem dp_L {K : PySem.W.Frag} {H : Hp} {a : Addr} {ns : List Int} (h : SqL K H a (ns.map V.int)) : Dp K H (.ref a) (.list (dI ns)) := .lst h (dp_ints ns)
theorem Nice.shaped {n k : Nat} {d : PyData} (h : Nice n k d) (hk : k ≤ 64) : SeqAt.shaped d = true := by
  show (d.canLay0 && decide (d.depth ≤ 64)) = true
  rw [h.lay, decide_eq_true (Nat.le_trans h.depth hk)] <;> rfl

theorem lay_ints : ∀ ns : List Int, PyData.canLayAll0 (dI ns) = true ∧ PyData.depthAll (dI ns) = 0
  | [] => ⟨rfl, rfl⟩
  | n :: r => by
    obtain ⟨h1, h2⟩ := lay_ints r
    refine ⟨?_, ?_⟩
    · show (true && PyData.canLayAll0 (dI r)) = true
      rw [h1] <;> rfl
    · show max 0 (PyData.depthAll (dI r)) = 0
      rw [h2] <;> rfl
theorem shaped_ints (ns : List Int) : SeqAt.shaped (.list (dI ns)) = true := by
  obtain ⟨h1, h2⟩ := lay_ints ns
  show (PyData.canLayAll0 (dI ns) && decide (PyData.depthAll (dI ns) + 1 ≤ 64)) = true
  rw [h1, h2] <;> rfl
section
variable {K : PySem.W.Frag} {H : Hp} {Q : VK} {x y : V} {d e : PyData} {n k m j : Nat}
theorem rd_repr (hx : Dp K H x d) (h : Nice n k d) (hn : n ≤ 2 ^ 20) (hk : k ≤ 40) (hd : isDisplay d = true) (q : Q (.str d.shown) H) : rRepr K [x] H Q :=
  ⟨x, d, rfl, hx, h.show_, hd, h.dict, Nat.le_trans h.depth hk, PyData.shown_fits_bulk (by decide) (by decide) h.short (Nat.le_trans h.bulk hn), q⟩
theorem rd_eqD (hx : Dp K H x d) (hy : Dp K H y e) (h1 : Nice n k d) (h2 : Nice m j e) (hk : k ≤ 64) (hj : j ≤ 64) (q : Q (.bl (PyData.eqv d e)) H) : rEqD K x y H Q :=
  ⟨d, e, hx, hy, h1.shaped hk, h2.shaped hj, q⟩
theorem rd_neD (hx : Dp K H x d) (hy : Dp K H y e) (h1 : Nice n k d) (h2 : Nice m j e) (hk : k ≤ 64) (hj : j ≤ 64) (q : Q (.bl (!PyData.eqv d e)) H) : rNeD K x y H Q :=
  ⟨d, e, hx, hy, h1.shaped hk, h2.shaped hj, q⟩
/-- xs != [] -/
theorem rd_full {p : Addr} {a : Addr} {vs : List V} {ds : List PyData} (hx : SqL K H a vs) (hv : DpAll K H vs ds) (h : SeqAt.shaped (.list ds) = true) (hp : SqL K H p [])
    (q : Q (.bl (!vs.isEmpty)) H) : rNeD K (.ref a) (.ref p) H Q := by
  refine ⟨.list ds, .list [], .lst hx hv, .lst hp .nil, h, rfl, ?_⟩
  cases hv with
  | nil => exact q
  | cons a b => exact q
end
section
variable {K : PySem.W.Frag} {H : Hp} {Q : VK} {l : Addr} {xs : List V} {y : V} {A : Prop}
theorem rd_tyL (h : H l = some (.lst xs)) (q : A) : tyV K "list" (.ref l) H ∧ A := ⟨.inl ⟨rfl, _, SqL.of h⟩, q⟩
theorem rd_append (h : H l = some (.lst xs)) (hz : xs.length < 100000) (q : Q .non (upd H l (.lst (xs ++ [y])))) : rAppend (.ref l) [y] H Q :=
  ⟨l, xs, y, rfl, rfl, h, Evl.sz_lt hz, q⟩
theorem rd_pop (h : H l = some (.lst (xs ++ [y]))) (q : Q y (upd H l (.lst xs))) : rPop (.ref l) [] H Q :=
  ⟨l, xs ++ [y], y, rfl, rfl, h, by rw [List.length_append, List.length_singleton, Nat.add_sub_cancel, List.getElem?_append_right (Nat.le_refl _), Nat.sub_self] <;> rfl, by
    rw [List.dropLast_concat]
    exact q⟩
theorem rd_popAt {k : Nat} {i : Int} (h : H l = some (.lst xs)) (e : i = (k : Int)) (hk : xs[k]? = some y) (hz : xs.length ≤ 100000) (q : Q y (upd H l (.lst (xs.eraseIdx k)))) : rPopAt (.ref l) [.int i] H Q := by
  have hk' : k < xs.length := (List.getElem?_eq_some_iff.mp hk).1
  refine ⟨l, xs, i, k, y, rfl, rfl, h, by omega, by omega, ?_, hk, q⟩
  subst e
  have z := seqIndex_of (k := (k : Int)) (n := xs.length) (Int.natCast_nonneg k) (by exact_mod_cast hk')
  simpa using z
theorem at_nat {ys : List V} {i : Int} {k : Nat} (e : i = (k : Int)) (h : ys[k]? = some y) : atI ys i = some y := by
  rw [e]
  exact atI_nat h
end
/-! ### the draws' deck read -/
theorem kv_text {x : Str} : kV (Sum.inr x) = V.str x := rfl
theorem deck_deep {d l : Addr} {s : Int} {H : Hp} (h : H d = some (.dK [(.inr "deep", .ref l), (.inr "state", .int s)])) : DGet H d (.str "deep") (some (.ref l)) :=
  DGet.k (k := Sum.inr "deep") h
theorem deck_state {d l : Addr} {s : Int} {H : Hp} (h : H d = some (.dK [(.inr "deep", .ref l), (.inr "state", .int s)])) : DGet H d (.str "state") (some (.int s)) :=
  DGet.k (k := Sum.inr "state") h
theorem deck_put {d l : Addr} {s t : Int} {H : Hp} (h : H d = some (.dK [(.inr "deep", .ref l), (.inr "state", .int s)])) :
    DPut H d (.str "state") (.int t) (upd H d (.dK [(.inr "deep", .ref l), (.inr "state", .int t)])) :=
  DPut.k (k := Sum.inr "state") (v := .int t) h (by show 2 < sizeLine; rw [sizeLine_eq]; omega)
end Ea
set_option Elab.async false
set_option linter.all false
set_option maxRecDepth 100000
set_option maxHeartbeats 4000000
/-! Comprehensions and loops among draws; texts of owners. -/
namespace Ea
open PySem PySem.Spec PyProof.Rows L2

/-- what a comprehension's walk asks, by its iterator -/
def LcR (g : TG) (tt : TT) (te : TE) (vs : List Nat) (σ : L2.St) (Q : VK) (J : It) (H1 : Hp) : Prop :=
  ∀ D, H1 D = none → ∃ W : Nat → Nat → Hp → Prop, (∃ m, W 0 m (upd H1 D (.lst []))) ∧ ∀ i m H, W i m H →
    (J.stop i H ∧ Q (.ref D) H) ∨
    (J.go i H ∧ ∃ Nx : Hp → Prop, (∀ H', Nx H' → ∃ m', m' < m ∧ W (i + 1) m' H') ∧
      ∀ x H', J.yld i H x H' → g x (wipe σ vs) H' fun σ2 H2 => wipe σ2 vs = wipe σ vs ∧ tt σ2 H2 fun b H3 =>
        if b = true then te σ2 H3 fun y H4 => ∃ acc, H4 D = some (.lst acc) ∧ acc.length < sizeLine ∧ Nx (upd H4 D (.lst (acc ++ [y]))) else Nx H3)
section
variable {K : PySem.W.Frag} {σ : L2.St} {H : Hp} {Q : VK} {QB : Bool → Hp → Prop} {g : TG} {tt : TT} {te tl : TE} {ta : TA} {vs : List Nat} {wi : TI} {R : It → Hp → Prop} {a b : Int}
theorem rd_lc (h : wi σ H (LcR g tt te vs σ Q)) : tLc wi g tt te vs σ H Q := h
theorem rd_iTup (h : tl σ H fun x H1 => ∃ a, x = .ref a ∧ (∃ xs, SqT K H1 a xs) ∧ R (Itt K a) H1) : iTup K tl σ H R := h
theorem rd_iList (h : tl σ H fun x H1 => ∃ a, x = .ref a ∧ (∃ xs, SqL K H1 a xs) ∧ R (Itl K a) H1) : iList K tl σ H R := h
theorem rd_iRng1 (h : ta σ H fun vs H1 => ∃ j : Int, vs = [.int j] ∧ -(2 ^ 62) ≤ j ∧ j < 2 ^ 62 ∧ R (Itr 0 j.toNat) H1) : iRng1 ta σ H R := h
theorem rd_rng1 (h1 : -(2 ^ 62) ≤ a) (h2 : a < 2 ^ 62) (h : R (Itr 0 a.toNat) H) : ∃ j : Int, ([.int a] : List V) = [.int j] ∧ -(2 ^ 62) ≤ j ∧ j < 2 ^ 62 ∧ R (Itr 0 j.toNat) H := ⟨a, rfl, h1, h2, h⟩
theorem rd_ref {p : Addr} {xs : List V} {P : Addr → Prop} (s : SqT K H p xs) (h : P p) : ∃ a, V.ref p = .ref a ∧ (∃ xs, SqT K H a xs) ∧ P a := ⟨p, rfl, ⟨xs, s⟩, h⟩
theorem rd_refL {p : Addr} {xs : List V} {P : Addr → Prop} (s : SqL K H p xs) (h : P p) : ∃ a, V.ref p = .ref a ∧ (∃ xs, SqL K H a xs) ∧ P a := ⟨p, rfl, ⟨xs, s⟩, h⟩
theorem rd_yes (h : QB true H) : tYes σ H QB := h
theorem rd_true {A B : Prop} (h : A) : if true = true then A else B := by
  rw [if_pos rfl]
  exact h
theorem rd_false {A B : Prop} (h : B) : if false = true then A else B := h
end

section
variable {d l : Addr} {K : PySem.W.Frag} {σ : L2.St} {H : Hp} {Q : VK} {tt : TT} {te : TE} {vs : List Nat} {j : Nat} {σx : V → L2.St} {a : Addr} {xs : List V}
/-- a turn of a comprehension among draws -/
abbrev Turn (d l : Addr) (H : Hp) (tt : TT) (te : TE) (σx : V → L2.St) (Pv : Nat → List V → Prop) (i : Nat) (x : V) : Prop :=
  ∀ (acc : List V) (H' : Hp) (N : VK) (S : Hp → Prop), Go d l H H' → Pv i acc →
    (∀ y H3, Go d l H' H3 → Pv (i + 1) (acc ++ [y]) → N y H3) → (∀ H3, Go d l H' H3 → Pv (i + 1) acc → S H3) →
    tt (σx x) H' fun b H2 => if b = true then te (σx x) H2 N else S H2
def Cg (d l : Addr) (H : Hp) (Pv : Nat → List V → Prop) (D : Addr) (i : Nat) (H' : Hp) : Prop :=
  ∃ acc, H D = none ∧ Go d l H H' ∧ H' D = some (.lst acc) ∧ acc.length ≤ i ∧ Pv i acc
theorem cg_start {Pv : Nat → List V → Prop} (hD : DeckB d l H) (h0 : Pv 0 []) {D : Addr} (e : H D = none) : Cg d l H Pv D 0 (upd H D (.lst [])) :=
  ⟨[], e, Go.new hD e, upd_same, Nat.le_refl _, h0⟩
theorem cg_turn {Pv : Nat → List V → Prop} {D : Addr} {i : Nat} {x : V} {H' : Hp} (hD : DeckB d l H) (hi : i < 100000) (ht : Turn d l H tt te σx Pv i x) (p : Cg d l H Pv D i H') :
    tt (σx x) H' fun b H3 => if b = true then te (σx x) H3 fun y H4 => ∃ acc, H4 D = some (.lst acc) ∧ acc.length < sizeLine ∧ Cg d l H Pv D (i + 1) (upd H4 D (.lst (acc ++ [y]))) else Cg d l H Pv D (i + 1) H3 := by
  obtain ⟨acc, e, g, ea, hl, hp⟩ := p
  obtain ⟨n1, n2⟩ := hD.off e
  refine ht acc H' _ _ g hp (fun y H3 g3 hp3 => ?_) fun H3 g3 hp3 => ?_
  · refine ⟨acc, g3.kp D _ n1 n2 ea, Evl.sz_lt (by omega), acc ++ [y], e, Go.mut (g.trans g3) hD e, upd_same, ?_, hp3⟩
    rw [List.length_append, List.length_singleton]
    omega
  · exact ⟨acc, e, g.trans g3, g3.kp D _ n1 n2 ea, by omega, hp3⟩
theorem lc_goT (Pv : Nat → List V → Prop) (hD : DeckB d l H) (hx : SqT K H a xs) (hz : xs.length ≤ 40000) (hσ : ∀ x, (wipe σ vs).set j (some x) = σx x) (hw : ∀ x, wipe (σx x) vs = wipe σ vs)
    (h0 : Pv 0 []) (hs : ∀ i x, xs[i]? = some x → Turn d l H tt te σx Pv i x)
    (hd : ∀ D acc H', Go d l H H' → H D = none → H' D = some (.lst acc) → Pv xs.length acc → Q (.ref D) H') : LcR (gName j) tt te vs σ Q (Itt K a) H := fun D hn =>
  lc_tup (xs := xs) (Cg d l H Pv D) (cg_start hD h0 hn) (fun i H' _ ⟨_, _, g, _⟩ => g.tup hD hx) (fun i x H' hi p => by
    rw [show gName j x (wipe σ vs) H' = fun N => N (σx x) H' from funext fun N => by rw [← hσ x] <;> rfl]
    refine ⟨hw x, ?_⟩
    have := (List.getElem?_eq_some_iff.mp hi).1
    exact cg_turn hD (by omega) (hs i x hi) p) fun H' p => by
    obtain ⟨acc, e, g, ea, _, hp⟩ := p
    exact hd D acc H' g e ea hp
theorem lc_goL (Pv : Nat → List V → Prop) (hD : DeckB d l H) (hx : ∀ H', Go d l H H' → SqL K H' a xs) (hz : xs.length ≤ 40000) (hσ : ∀ x, (wipe σ vs).set j (some x) = σx x) (hw : ∀ x, wipe (σx x) vs = wipe σ vs)
    (h0 : Pv 0 []) (hs : ∀ i x, xs[i]? = some x → Turn d l H tt te σx Pv i x)
    (hd : ∀ D acc H', Go d l H H' → H D = none → H' D = some (.lst acc) → Pv xs.length acc → Q (.ref D) H') : LcR (gName j) tt te vs σ Q (Itl K a) H := fun D hn =>
  lc_list (xs := xs) (Cg d l H Pv D) (cg_start hD h0 hn) (fun i H' _ ⟨_, _, g, _⟩ => hx H' g) (fun i x H' hi p => by
    rw [show gName j x (wipe σ vs) H' = fun N => N (σx x) H' from funext fun N => by rw [← hσ x] <;> rfl]
    refine ⟨hw x, ?_⟩
    have := (List.getElem?_eq_some_iff.mp hi).1
    exact cg_turn hD (by omega) (hs i x hi) p) fun H' p => by
    obtain ⟨acc, e, g, ea, _, hp⟩ := p
    exact hd D acc H' g e ea hp
theorem lc_goR {lo : Int} {n : Nat} (Pv : Nat → List V → Prop) (hD : DeckB d l H) (hz : n ≤ 40000) (hσ : ∀ x, (wipe σ vs).set j (some x) = σx x) (hw : ∀ x, wipe (σx x) vs = wipe σ vs)
    (h0 : Pv 0 []) (hs : ∀ i, i < n → Turn d l H tt te σx Pv i (.int (lo + i)))
    (hd : ∀ D acc H', Go d l H H' → H D = none → H' D = some (.lst acc) → Pv n acc → Q (.ref D) H') : LcR (gName j) tt te vs σ Q (Itr lo n) H := fun D hn =>
  lc_range (Cg d l H Pv D) (cg_start hD h0 hn) (fun i H' hi p => by
    rw [show gName j (.int (lo + i)) (wipe σ vs) H' = fun N => N (σx (.int (lo + i))) H' from funext fun N => by rw [← hσ (.int (lo + i))] <;> rfl]
    exact ⟨hw _, cg_turn hD (by omega) (hs i hi) p⟩) fun H' p => by
    obtain ⟨acc, e, g, ea, _, hp⟩ := p
    exact hd D acc H' g e ea hp
end

/-! ### texts of "e" and "s" -/
def OwnS (n : Nat) (z : Str) : Prop := z.length = n ∧ ∀ c ∈ z.cps.toList, c = 101 ∨ c = 115
theorem folded_mem (z : Array Nat) : ∀ (n : Nat) (acc : Array Nat) (c : Nat), c ∈ ((List.replicate n z).foldl (· ++ ·) acc).toList → c ∈ acc.toList ∨ c ∈ z.toList
  | 0, acc, c, h => .inl h
  | n + 1, acc, c, h => by
    rw [List.replicate_succ, List.foldl_cons] at h
    rcases folded_mem z n _ c h with h | h
    · rw [Array.toList_append] at h
      exact List.mem_append.mp h
    · exact .inr h
theorem own_rep {z : Str} {k : Nat} {n : Int} (h : OwnS k z) (h0 : 0 ≤ n) : OwnS (n.toNat * k) (repS z n) := by
  refine ⟨by rw [repS_length, h.1], fun c hc => ?_⟩
  rcases folded_mem z.cps n.toNat #[] c hc with q | q
  · simp at q
  · exact h.2 c q
theorem own_add {y z : Str} {k m : Nat} (h1 : OwnS k y) (h2 : OwnS m z) : OwnS (k + m) (y ++ z) := by
  refine ⟨by rw [Str.length_append, h1.1, h2.1], fun c hc => ?_⟩
  have e : (y ++ z).cps.toList = y.cps.toList ++ z.cps.toList := by
    rw [Str.cps_append, Array.toList_append]
  rw [e] at hc
  exact (List.mem_append.mp hc).elim (h1.2 c) (h2.2 c)
theorem own_cut {z : Str} {k n : Nat} (h : OwnS k z) (hn : n ≤ k) : OwnS n (cutS z none (some (n : Int))) := by
  have e1 : HT.sIx z.length 0 none = 0 := HT.sIx_none _ _
  have e2 : HT.sIx z.length z.length (some (n : Int)) = min n z.length := HT.sIx_nat _ _ _
  refine ⟨?_, fun c hc => h.2 c ?_⟩
  · show (cutS z none (some (n : Int))).cps.size = n
    unfold cutS
    rw [e1, e2, List.drop_zero, List.size_toArray, List.length_take, Nat.sub_zero]
    have e3 : z.cps.toList.length = k := h.1
    have e4 : z.length = k := h.1
    rw [e3, e4]
    omega
  · unfold cutS at hc
    rw [List.toList_toArray] at hc
    exact List.mem_of_mem_drop (List.mem_of_mem_take hc)
theorem own_e : OwnS 1 "e" := ⟨rfl, by decide⟩
theorem own_s : OwnS 1 "s" := ⟨rfl, by decide⟩
theorem own_fold : ∀ (ys : List Str) (acc : Array Nat) (m : Nat), (∀ y ∈ ys, OwnS 1 y) → OwnS m ⟨acc⟩ →
    OwnS (m + ys.length) ⟨ys.foldl (fun acc p => acc ++ (Str.ofString "").cps ++ p.cps) acc⟩
  | [], acc, m, _, h => h
  | y :: r, acc, m, hy, h => by
    rw [List.foldl_cons, List.length_cons, show m + (r.length + 1) = (m + 1) + r.length by omega]
    refine own_fold r _ (m + 1) (fun z hz => hy z (List.mem_cons_of_mem _ hz)) ?_
    have e : (⟨acc ++ (Str.ofString "").cps ++ y.cps⟩ : Str) = (⟨acc⟩ : Str) ++ y := by
      show (⟨acc ++ #[] ++ y.cps⟩ : Str) = _
      rw [Array.append_empty]
      rfl
    rw [e]
    exact own_add h (hy y List.mem_cons_self)
theorem own_join {ys : List Str} (h : ∀ y ∈ ys, OwnS 1 y) : OwnS ys.length (Txt.join "" ys) := by
  cases ys with
  | nil => exact ⟨rfl, by decide⟩
  | cons y r =>
    have z := own_fold r y.cps 1 (fun z hz => h z (List.mem_cons_of_mem _ hz)) (h y List.mem_cons_self)
    rw [List.length_cons, Nat.add_comm]
    exact z
theorem own_sum {ys : List Str} (h : ∀ y ∈ ys, OwnS 1 y) : (ys.map (·.length)).sum = ys.length := by
  induction ys with
  | nil => rfl
  | cons y r ih =>
    rw [List.map_cons, List.sum_cons, ih fun z hz => h z (List.mem_cons_of_mem _ hz), (h y List.mem_cons_self).1, List.length_cons]
    omega
/-! ### + of texts, in -/
def rAddSt : R2 := fun x y H Q => ∃ i j, x = .str i ∧ y = .str j ∧ i.length + j.length ≤ sizeLine ∧ Q (.str (i ++ j)) H
theorem op_addSt {X : Cx} : OpR X (binaryOp .Add) rAddSt := op_add_str
section
variable {K : PySem.W.Frag} {H : Hp} {Q : VK} {a : Int} {p : Addr} {ns : List Int} {y z : Str}
theorem rd_addSt (hz : y.length + z.length ≤ sizeLine) (h : Q (.str (y ++ z)) H) : rAddSt (.str y) (.str z) H Q := ⟨y, z, rfl, rfl, hz, h⟩
theorem flat_ints : ∀ ns : List Int, (ns.map V.int).all flatV = true
  | [] => rfl
  | _ :: r => flat_ints r
theorem inV_ints (a : Int) : ∀ ns : List Int, inV (.int a) (ns.map V.int) = decide (a ∈ ns)
  | [] => rfl
  | n :: r => by
    show ((n == a) || inV (.int a) (r.map V.int)) = _
    rw [inV_ints a r]
    by_cases h : n = a
    · subst h
      simp
    · have h' : ¬ a = n := fun e => h e.symm
      have e1 : (n == a) = false := beq_eq_false_iff_ne.mpr h
      rw [e1, Bool.false_or]
      simp [h']
theorem rd_inT (s : SqT K H p (ns.map V.int)) (h : Q (.bl (decide (a ∈ ns))) H) : rIn K false (.int a) (.ref p) H Q :=
  ⟨p, ns.map V.int, rfl, .inr s, rfl, flat_ints ns, by rw [inV_ints]; exact h⟩
theorem rd_inL (s : SqL K H p (ns.map V.int)) (h : Q (.bl (decide (a ∈ ns))) H) : rIn K false (.int a) (.ref p) H Q :=
  ⟨p, ns.map V.int, rfl, .inl s, rfl, flat_ints ns, by rw [inV_ints]; exact h⟩
theorem rd_notInT (s : SqT K H p (ns.map V.int)) (h : Q (.bl (!decide (a ∈ ns))) H) : rIn K true (.int a) (.ref p) H Q :=
  ⟨p, ns.map V.int, rfl, .inr s, rfl, flat_ints ns, by rw [inV_ints]; exact h⟩
theorem rd_notInL (s : SqL K H p (ns.map V.int)) (h : Q (.bl (!decide (a ∈ ns))) H) : rIn K true (.int a) (.ref p) H Q :=
  ⟨p, ns.map V.int, rfl, .inl s, rfl, flat_ints ns, by rw [inV_ints]; exact h⟩
end
/-! ### join -/
def rJoin (K : PySem.W.Frag) : V → List V → Hp → VK → Prop := fun x xs H Q =>
  ∃ (a : Str) (p : Addr) (ys : List Str), x = .str a ∧ xs = [.ref p] ∧ (SqL K H p (ys.map V.str) ∨ SqT K H p (ys.map V.str)) ∧
    (ys.map (·.length)).sum + ys.length * a.length ≤ 16777216 ∧ Q (.str (Txt.join a ys)) H
section
variable {X : Cx} {o e : Expr} {to te : TE} {apos pos : Pos}
theorem pe_joinN (ho : PE X o to) (he : PE X e te) (hs : starEach [e] X.env = [(false, eval e X.env)] := by rfl)
    (hbase : attributeBase o "join" X.env (eval o X.env) = eval o X.env := by rfl) (hline : (apos.endLine == pos.line) = true := by rfl) :
    PE X (.Call (.Attribute o "join" apos) [e] [] pos) (tM1 (rJoin X.K) to te) := pe_join ho he hs hbase hline
end
section
variable {K : PySem.W.Frag} {σ : L2.St} {H : Hp} {Q : VK} {to te : TE} {r : V → List V → Hp → VK → Prop} {z : Str} {P : Prop}
theorem rd_m1 (h : to σ H fun x H1 => (∃ a, x = .str a) ∧ te σ H1 fun y H2 => r x [y] H2 Q) : tM1 r to te σ H Q := h
theorem rd_isS (h : P) : (∃ a, V.str z = .str a) ∧ P := ⟨⟨z, rfl⟩, h⟩
theorem rd_join {p : Addr} {ys : List Str} (s : SqL K H p (ys.map V.str)) (hz : (ys.map (·.length)).sum + ys.length * z.length ≤ 16777216) (h : Q (.str (Txt.join z ys)) H) : rJoin K (.str z) [.ref p] H Q :=
  ⟨z, p, ys, rfl, rfl, .inl s, hz, h⟩
theorem rd_mulS {n : Int} (h0 : 0 ≤ n) (h1 : n ≤ 1000) (h2 : z.length ≤ 1000) (h3 : 1 ≤ z.length) (h : Q (.str (repS z n)) H) : rMulS (.str z) (.int n) H Q := ⟨z, n, rfl, rfl, h0, h1, h2, h3, h⟩
theorem rd_addS {y : Str} (hz : y.length + z.length ≤ sizeLine) (h : Q (.str (y ++ z)) H) : (∃ i j, V.str y = .str i ∧ V.str z = .str j ∧ i.length + j.length ≤ sizeLine ∧ Q (.str (i ++ j)) H) := ⟨y, z, rfl, rfl, hz, h⟩
theorem rd_slS {lo hi : Option Int} (hz : z.length ≤ sizeLine) (h : Q (.str (cutS z lo hi)) H) : rSlS (.str z) lo hi H Q := ⟨z, rfl, hz, h⟩
end
end Ea
set_option Elab.async false
set_option linter.all false
set_option maxRecDepth 100000
set_option maxHeartbeats 4000000
/-! Slices, sums of tuples, sorted lists of ints, ranges as lists; rows of literals. -/
namespace Ea
open PySem PySem.Spec PyProof.Rows L2

/-! ### slices -/
theorem take_min {α : Type} (xs : List α) (k : Nat) : xs.take (min k xs.length) = xs.take k := by
  by_cases h : k ≤ xs.length
  · rw [Nat.min_eq_left h]
  · rw [Nat.min_eq_right (by omega), List.take_of_length_le (Nat.le_refl _), List.take_of_length_le (by omega)]
theorem drop_min {α : Type} (xs : List α) (k : Nat) : xs.drop (min k xs.length) = xs.drop k := by
  by_cases h : k ≤ xs.length
  · rw [Nat.min_eq_left h]
  · rw [Nat.min_eq_right (by omega), List.drop_of_length_le (Nat.le_refl _), List.drop_of_length_le (by omega)]
section
variable {ns : List Int} {xs : List V} {a b : Int}
theorem sIx_int (n e : Nat) (h : 0 ≤ a) : HT.sIx n e (some a) = min a.toNat n := by
  have z := HT.sIx_nat n e a.toNat
  rw [Int.toNat_of_nonneg h] at z
  exact z
theorem cut_take (h : 0 ≤ b) : cutV xs none (some b) = xs.take b.toNat := by
  unfold cutV
  rw [HT.sIx_none, sIx_int _ _ h, List.drop_zero, Nat.sub_zero, take_min]
theorem cut_drop (h : 0 ≤ a) : cutV xs (some a) none = xs.drop a.toNat := by
  unfold cutV
  rw [HT.sIx_none, sIx_int _ _ h, drop_min]
  exact List.take_of_length_le (by rw [List.length_drop]; omega)
theorem cut_mid (h : 0 ≤ a) (h2 : 0 ≤ b) : cutV xs (some a) (some b) = (xs.drop a.toNat).take (b.toNat - a.toNat) := by
  unfold cutV
  rw [sIx_int _ _ h, sIx_int _ _ h2, drop_min]
  by_cases c : b.toNat ≤ xs.length
  · rw [Nat.min_eq_left c]
    by_cases c2 : a.toNat ≤ xs.length
    · rw [Nat.min_eq_left c2]
    · rw [List.drop_of_length_le (by omega), List.take_nil, List.take_nil]
  · rw [Nat.min_eq_right (by omega)]
    by_cases c2 : a.toNat ≤ xs.length
    · rw [Nat.min_eq_left c2, List.take_of_length_le (by rw [List.length_drop]; omega), List.take_of_length_le (by rw [List.length_drop]; omega)]
    · rw [List.drop_of_length_le (by omega), List.take_nil, List.take_nil]
theorem cut_whole {lo hi : Option Int} (h : HT.sIx xs.length 0 lo = 0 ∧ HT.sIx xs.length xs.length hi = xs.length) : cutV xs lo hi = xs := by
  unfold cutV
  rw [h.1, h.2, List.drop_zero, Nat.sub_zero]
  exact List.take_of_length_le (Nat.le_refl _)
end
section
variable {d l : Addr} {K : PySem.W.Frag} {σ : L2.St} {H H' : Hp} {Q : VK} {p p2 : Addr} {xs ys : List V} {lo hi : Option Int} {ns : List Int} {a b : Int}
theorem Go.ex (e : Evl.Ex H H') (h : DeckB d l H) : Go d l H H' := by
  obtain ⟨ns, s, e1, e2, r⟩ := h
  exact ⟨⟨ns, s, e _ _ e1, e _ _ e2, r⟩, fun a o _ _ q => e a o q⟩
theorem rd_slT (s : SqT K H p xs) (h : ∀ (q : Addr) (H' : Hp), Evl.Ex H H' → SqT K H' q (cutV xs lo hi) → Q (.ref q) H') : rSlA K (.ref p) lo hi H Q :=
  ⟨p, xs, rfl, s, fun e => h p H (Evl.Ex.refl H) (by rw [cut_whole e]; exact s), fun _ q hq => h q _ (Evl.Ex.new hq) (SqT.of upd_same)⟩
theorem rd_slL (s : SqL K H p xs) (h : ∀ q, H q = none → Q (.ref q) (upd H q (.lst (cutV xs lo hi)))) : rSlL K (.ref p) lo hi H Q := ⟨p, xs, rfl, s, h⟩
theorem rd_catT (s : SqT K H p xs) (s2 : SqT K H p2 ys) (hz : xs.length + ys.length ≤ sizeLine)
    (h : ∀ (q : Addr) (H' : Hp), Evl.Ex H H' → SqT K H' q (xs ++ ys) → Q (.ref q) H') : rCatA K (.ref p) (.ref p2) H Q := by
  refine ⟨p, p2, xs, ys, rfl, rfl, s, s2, hz, fun e => ?_, fun _ e => ?_, fun _ _ q hq => h q _ (Evl.Ex.new hq) (SqT.of upd_same)⟩
  · subst e
    exact h p2 H (Evl.Ex.refl H) s2
  · subst e
    exact h p H (Evl.Ex.refl H) (by rw [List.append_nil]; exact s)
theorem rd_catL (s : H p = some (.lst xs)) (s2 : H p2 = some (.lst ys)) (hz : xs.length + ys.length ≤ sizeLine) (h : ∀ q, H q = none → Q (.ref q) (upd H q (.lst (xs ++ ys)))) : rCat (.ref p) (.ref p2) H Q :=
  ⟨p, p2, xs, ys, rfl, rfl, s, s2, hz, h⟩
theorem rd_sorted (s : SqL K H p (ns.map V.int)) (h : ∀ (ms : List Int) (q : Addr), ms.Perm ns → ms.Pairwise (· ≤ ·) → H q = none → Q (.ref q) (upd H q (.lst (ms.map V.int)))) : rSortedI K [.ref p] H Q :=
  ⟨p, ns, rfl, s, h⟩
def rgI (a b : Int) : List Int := (List.range (b - a).toNat).map fun i => a + (i : Nat)
theorem rgV_ints (a b : Int) : rgV a b = (rgI a b).map V.int := by
  unfold rgV rgI
  rw [List.map_map]
  rfl
theorem rd_listRg {te : L2.St → Hp → (Int → Int → Hp → Prop) → Prop} (h : te σ H fun a b H1 => RgOk a b ∧ ∀ q, H1 q = none → Q (.ref q) (upd H1 q (.lst (rgV a b)))) : tLstRg te σ H Q := h
theorem rd_rg2 {ta tb : TE} {R : Int → Int → Hp → Prop} (h : ta σ H fun x H1 => tb σ H1 fun y H2 => ∃ i j, x = .int i ∧ y = .int j ∧ R i j H2) : tRg2 ta tb σ H R := h
theorem rd_rgk {R : Int → Int → Prop} (h : R a b) : ∃ i j, V.int a = .int i ∧ V.int b = .int j ∧ R i j := ⟨a, b, rfl, rfl, h⟩
theorem rgI_mem {a b x : Int} : x ∈ rgI a b ↔ a ≤ x ∧ x < b := by
  unfold rgI
  rw [List.mem_map]
  constructor
  · rintro ⟨i, hi, rfl⟩
    have := List.mem_range.mp hi
    omega
  · rintro ⟨h1, h2⟩
    exact ⟨(x - a).toNat, List.mem_range.mpr (by omega), by omega⟩
theorem rgI_lt (a b : Int) : (rgI a b).Pairwise (· < ·) := by
  unfold rgI
  rw [List.pairwise_map]
  exact List.pairwise_lt_range.imp fun {i j} h => by omega
theorem rgI_length (a b : Int) : (rgI a b).length = (b - a).toNat := by
  unfold rgI
  rw [List.length_map, List.length_range]
end
theorem nodup_of_lt {ns : List Int} (h : ns.Pairwise (· < ·)) : ns.Nodup := h.imp fun {a b} q => by omega
theorem lt_of_sorted {ns : List Int} (h : ns.Pairwise (· ≤ ·)) (hn : ns.Nodup) : ns.Pairwise (· < ·) := by
  refine (h.and hn).imp fun {a b} q => ?_
  obtain ⟨q1, q2⟩ := q
  have q2 : a ≠ b := q2
  omega

/-! ### rows -/
/-- a clause of n letters -/
def Row (n : Nat) (ns : List Int) : Prop := ns.Pairwise (fun x y => x.natAbs < y.natAbs) ∧ ∀ x ∈ ns, 1 ≤ x.natAbs ∧ x.natAbs ≤ n
theorem Row.nil {n : Nat} : Row n [] := ⟨List.Pairwise.nil, nofun⟩
theorem Row.sub {n : Nat} {xs ys : List Int} (h : Row n ys) (s : xs.Sublist ys) : Row n xs := ⟨h.1.sublist s, fun x hx => h.2 x (s.subset hx)⟩
theorem Row.abs {n : Nat} {xs ys : List Int} (h : Row n ys) (e : xs.map Int.natAbs = ys.map Int.natAbs) : Row n xs := by
  have h1 : (ys.map Int.natAbs).Pairwise (· < ·) := by
    rw [List.pairwise_map]
    exact h.1
  rw [← e, List.pairwise_map] at h1
  refine ⟨h1, fun x hx => ?_⟩
  have : x.natAbs ∈ ys.map Int.natAbs := by
    rw [← e]
    exact List.mem_map_of_mem hx
  obtain ⟨y, hy, e2⟩ := List.mem_map.mp this
  rw [← e2]
  exact h.2 y hy
theorem Row.of_letters {n : Nat} {ns : List Int} (h : ns.Pairwise (· < ·)) (hm : ∀ x ∈ ns, 1 ≤ x ∧ x ≤ (n : Int)) : Row n ns := by
  refine ⟨?_, fun x hx => ?_⟩
  · refine List.Pairwise.imp_of_mem (fun {a b} ha hb q => ?_) h
    have := hm a ha
    have := hm b hb
    omega
  · have := hm x hx
    omega
theorem Row.length {n : Nat} : ∀ {ns : List Int}, Row n ns → ns.length ≤ n := by
  have key : ∀ (ns : List Int) (k : Nat), ns.Pairwise (fun x y => x.natAbs < y.natAbs) → (∀ x ∈ ns, k < x.natAbs ∧ x.natAbs ≤ n) → k ≤ n → ns.length + k ≤ n := by
    intro ns
    induction ns with
    | nil => intro k _ _ h; simpa using h
    | cons x r ih =>
      intro k hp hm hk
      obtain ⟨h1, h2⟩ := List.pairwise_cons.mp hp
      have hx := hm x List.mem_cons_self
      have z := ih x.natAbs h2 (fun y hy => ⟨h1 y hy, (hm y (List.mem_cons_of_mem _ hy)).2⟩) hx.2
      rw [List.length_cons]
      omega
  intro ns h
  have z := key ns 0 h.1 (fun x hx => ⟨by have := (h.2 x hx).1; omega, (h.2 x hx).2⟩) (Nat.zero_le _)
  omega
end Ea
set_option Elab.async false
set_option linter.all false
set_option maxHeartbeats 4000000
/-! Rows dropped, clashing and met: plain lists. -/
namespace Ea
/-- without what holds at the end -/
def dropTail (f : Int → Bool) (ns : List Int) : List Int := (ns.reverse.dropWhile f).reverse
theorem dropTail_nil (f : Int → Bool) : dropTail f [] = [] := rfl
theorem dropTail_snoc_pos {f : Int → Bool} {ns : List Int} {x : Int} (h : f x = true) : dropTail f (ns ++ [x]) = dropTail f ns := by
  unfold dropTail
  rw [List.reverse_append, List.reverse_singleton, List.singleton_append, List.dropWhile_cons, if_pos h]
theorem dropTail_snoc_neg {f : Int → Bool} {ns : List Int} {x : Int} (h : f x = false) : dropTail f (ns ++ [x]) = ns ++ [x] := by
  unfold dropTail
  rw [List.reverse_append, List.reverse_singleton, List.singleton_append, List.dropWhile_cons, if_neg (by rw [h]; decide), List.reverse_cons, List.reverse_reverse]
theorem take_snoc {ns : List Int} {k : Nat} (h : k < ns.length) : ns.take (k + 1) = ns.take k ++ [ns[k]] := by
  rw [List.take_add_one, List.getElem?_eq_getElem h]
  rfl
theorem dropTail_idem (f : Int → Bool) (ns : List Int) : dropTail f (dropTail f ns) = dropTail f ns := by
  rcases List.eq_nil_or_concat (dropTail f ns) with e | ⟨m, z, e⟩
  · rw [e]
    rfl
  · have e : dropTail f ns = m ++ [z] := by simpa using e
    rw [e]
    refine dropTail_snoc_neg ?_
    have h : ns.reverse.dropWhile f = z :: m.reverse := by
      have h2 := congrArg List.reverse e
      unfold dropTail at h2
      rw [List.reverse_reverse, List.reverse_append] at h2
      simpa using h2
    have h3 := List.head?_dropWhile_not f ns.reverse
    rw [h] at h3
    simpa using h3
theorem dropTail_sub (f : Int → Bool) (ns : List Int) : (dropTail f ns).Sublist ns := by
  have h : (ns.reverse.dropWhile f).Sublist ns.reverse := List.dropWhile_sublist f
  have h2 := h.reverse
  rw [List.reverse_reverse] at h2
  exact h2
/-- the greatest letter of the other party's -/
def lastOf (f : Int → Bool) (ns : List Int) : List Int := (ns.filter fun x => !f x).map fun x => (x.natAbs : Int)
theorem short_eq {n : Nat} {f : Int → Bool} {m : Int} : ∀ {ns : List Int}, Row n ns → (m ∈ lastOf f ns ++ [0]) → (∀ y ∈ lastOf f ns ++ [0], y ≤ m) →
    (ns.filter fun x => !f x || decide ((x.natAbs : Int) < m)) = dropTail f ns := by
  intro ns
  generalize hk : ns.length = k
  induction k generalizing ns with
  | zero =>
    intro _ _ _
    rw [List.length_eq_zero_iff.mp hk]
    rfl
  | succ k ih =>
    intro hr hm hb
    obtain ⟨r, x, e⟩ : ∃ r x, ns = r ++ [x] := by
      rcases List.eq_nil_or_concat ns with e | ⟨r, x, e⟩
      · rw [e] at hk
        cases hk
      · exact ⟨r, x, by simpa using e⟩
    subst e
    have hlt : ∀ y ∈ r, y.natAbs < x.natAbs := fun y hy => (List.pairwise_append.mp hr.1).2.2 y hy x List.mem_cons_self
    have hx1 := (hr.2 x (List.mem_append_right _ List.mem_cons_self)).1
    have hr' : Row n r := hr.sub (List.sublist_append_left _ _)
    rw [List.filter_append]
    cases hf : f x with
    | false =>
      rw [dropTail_snoc_neg hf]
      have e2 : ([x].filter fun x => !f x || decide ((x.natAbs : Int) < m)) = [x] := by simp [hf]
      rw [e2]
      have hxm : (x.natAbs : Int) ≤ m := hb _ (List.mem_append_left _ (by
        unfold lastOf
        exact List.mem_map.mpr ⟨x, List.mem_filter.mpr ⟨List.mem_append_right _ List.mem_cons_self, by rw [hf]; rfl⟩, rfl⟩))
      congr 1
      refine List.filter_eq_self.mpr fun y hy => ?_
      have := hlt y hy
      rw [Bool.or_eq_true]
      exact .inr (decide_eq_true (by omega))
    | true =>
      rw [dropTail_snoc_pos hf]
      have el : lastOf f (r ++ [x]) = lastOf f r := by
        unfold lastOf
        rw [List.filter_append]
        have : ([x].filter fun x => !f x) = [] := by simp [hf]
        rw [this, List.append_nil]
      rw [el] at hm hb
      have hxm : ¬ (x.natAbs : Int) < m := by
        rcases List.mem_append.mp hm with h | h
        · obtain ⟨y, hy, e⟩ := List.mem_map.mp h
          have := hlt y (List.mem_filter.mp hy).1
          omega
        · rw [List.mem_singleton.mp h]
          omega
      have e2 : ([x].filter fun x => !f x || decide ((x.natAbs : Int) < m)) = [] := by simp [hf, hxm]
      rw [e2, List.append_nil]
      refine ih (ns := r) ?_ hr' hm hb
      rw [List.length_append, List.length_singleton] at hk
      omega

/-! ### letters in which rows clash -/
def against (one other : List Int) : List Int := (one.filter fun x => decide (-x ∈ other)).map fun x => (x.natAbs : Int)
theorem against_mem {one other : List Int} {k : Int} : k ∈ against one other ↔ ∃ x ∈ one, -x ∈ other ∧ (x.natAbs : Int) = k := by
  unfold against
  rw [List.mem_map]
  constructor
  · rintro ⟨x, hx, e⟩
    have h := List.mem_filter.mp hx
    exact ⟨x, h.1, of_decide_eq_true h.2, e⟩
  · rintro ⟨x, hx, h, e⟩
    exact ⟨x, List.mem_filter.mpr ⟨hx, decide_eq_true h⟩, e⟩
theorem against_lt {n : Nat} {one other : List Int} (h : Row n one) : (against one other).Pairwise (· < ·) := by
  unfold against
  rw [List.pairwise_map]
  exact (h.1.sublist List.filter_sublist).imp fun {a b} q => by omega
theorem eq_of_lt : ∀ {xs ys : List Int}, xs.Pairwise (· < ·) → ys.Pairwise (· < ·) → (∀ x, x ∈ xs ↔ x ∈ ys) → xs = ys
  | [], [], _, _, _ => rfl
  | [], y :: r, _, _, h => absurd ((h y).mpr List.mem_cons_self) nofun
  | x :: r, [], _, _, h => absurd ((h x).mp List.mem_cons_self) nofun
  | x :: r, y :: t, h1, h2, h => by
    obtain ⟨a1, a2⟩ := List.pairwise_cons.mp h1
    obtain ⟨b1, b2⟩ := List.pairwise_cons.mp h2
    have e : x = y := by
      rcases List.mem_cons.mp ((h x).mp List.mem_cons_self) with e | e
      · exact e
      · rcases List.mem_cons.mp ((h y).mpr List.mem_cons_self) with e2 | e2
        · exact e2.symm
        · have := a1 y e2
          have := b1 x e
          omega
    subst e
    congr 1
    refine eq_of_lt a2 b2 fun z => ⟨fun hz => ?_, fun hz => ?_⟩
    · rcases List.mem_cons.mp ((h z).mp (List.mem_cons_of_mem _ hz)) with e | e
      · have := a1 z hz
        omega
      · exact e
    · rcases List.mem_cons.mp ((h z).mpr (List.mem_cons_of_mem _ hz)) with e | e
      · have := b1 z hz
        omega
      · exact e
theorem against_comm {n m : Nat} {one other : List Int} (h1 : Row n one) (h2 : Row m other) : against other one = against one other := by
  refine eq_of_lt (against_lt h2) (against_lt h1) fun k => ?_
  rw [against_mem, against_mem]
  constructor
  · rintro ⟨x, hx, hn, e⟩
    exact ⟨-x, hn, by rw [Int.neg_neg]; exact hx, by omega⟩
  · rintro ⟨x, hx, hn, e⟩
    exact ⟨-x, hn, by rw [Int.neg_neg]; exact hx, by omega⟩
theorem against_pos {n : Nat} {one other : List Int} (h : Row n one) {k : Int} (hk : k ∈ against one other) : 1 ≤ k ∧ k ≤ n := by
  obtain ⟨x, hx, _, e⟩ := against_mem.mp hk
  have := h.2 x hx
  omega

/-! ### rows that meet -/
def IsJoin (one other r : List Int) : Prop := r.Pairwise (fun x y => x.natAbs < y.natAbs) ∧ ∀ x, x ∈ r ↔ (x ∈ one ∨ x ∈ other) ∧ (x.natAbs : Int) ∉ against one other
theorem eq_of_asc : ∀ {xs ys : List Int}, xs.Pairwise (fun x y => x.natAbs < y.natAbs) → ys.Pairwise (fun x y => x.natAbs < y.natAbs) → (∀ x, x ∈ xs ↔ x ∈ ys) → xs = ys
  | [], [], _, _, _ => rfl
  | [], y :: r, _, _, h => absurd ((h y).mpr List.mem_cons_self) nofun
  | x :: r, [], _, _, h => absurd ((h x).mp List.mem_cons_self) nofun
  | x :: r, y :: t, h1, h2, h => by
    obtain ⟨a1, a2⟩ := List.pairwise_cons.mp h1
    obtain ⟨b1, b2⟩ := List.pairwise_cons.mp h2
    have e : x = y := by
      rcases List.mem_cons.mp ((h x).mp List.mem_cons_self) with e | e
      · exact e
      · rcases List.mem_cons.mp ((h y).mpr List.mem_cons_self) with e2 | e2
        · exact e2.symm
        · have := a1 y e2
          have := b1 x e
          omega
    subst e
    congr 1
    refine eq_of_asc a2 b2 fun z => ⟨fun hz => ?_, fun hz => ?_⟩
    · rcases List.mem_cons.mp ((h z).mp (List.mem_cons_of_mem _ hz)) with e | e
      · have := a1 z hz
        rw [e] at this
        omega
      · exact e
    · rcases List.mem_cons.mp ((h z).mpr (List.mem_cons_of_mem _ hz)) with e | e
      · have := b1 z hz
        rw [e] at this
        omega
      · exact e
theorem IsJoin.eq {one other r t : List Int} (h1 : IsJoin one other r) (h2 : IsJoin one other t) : r = t :=
  eq_of_asc h1.1 h2.1 fun x => (h1.2 x).trans (h2.2 x).symm
theorem IsJoin.comm {n m : Nat} {one other r : List Int} (a : Row n one) (b : Row m other) (h : IsJoin other one r) : IsJoin one other r :=
  ⟨h.1, fun x => by rw [h.2 x, against_comm a b, or_comm]⟩
theorem IsJoin.row {n : Nat} {one other r : List Int} (a : Row n one) (b : Row n other) (h : IsJoin one other r) : Row n r :=
  ⟨h.1, fun x hx => ((h.2 x).mp hx).1.elim (a.2 x) (b.2 x)⟩
/-- literals of one letter in both are the same, where they do not clash in it -/
theorem same_of {n : Nat} {one other : List Int} (a : Row n one) (b : Row n other) {x y : Int} (hx : x ∈ one ∨ x ∈ other) (hy : y ∈ one ∨ y ∈ other) (e : x.natAbs = y.natAbs)
    (hn : (x.natAbs : Int) ∉ against one other) : x = y := by
  have key : ∀ {xs : List Int}, Row n xs → x ∈ xs → y ∈ xs → x = y := fun {xs} h h1 h2 => by
    obtain ⟨i, hi, e1⟩ := List.mem_iff_getElem.mp h1
    obtain ⟨j, hj, e2⟩ := List.mem_iff_getElem.mp h2
    have hp := List.pairwise_iff_getElem.mp h.1
    rcases Nat.lt_trichotomy i j with q | q | q
    · have := hp i j hi hj q
      rw [e1, e2] at this
      omega
    · subst q
      rw [← e1, ← e2]
    · have := hp j i hj hi q
      rw [e1, e2] at this
      omega
  have opp : x = y ∨ y = -x := by omega
  rcases opp with q | q
  · exact q
  · subst q
    rcases hx with hx | hx <;> rcases hy with hy | hy
    · exact key a hx hy
    · exact absurd (against_mem.mpr ⟨x, hx, hy, rfl⟩) hn
    · exact absurd (against_mem.mpr ⟨-x, hy, by rw [Int.neg_neg]; exact hx, by omega⟩) hn
    · exact key b hx hy
end Ea
set_option Elab.async false
set_option linter.all false
set_option maxRecDepth 100000
set_option maxHeartbeats 4000000
/-! Comprehensions over ints where nothing is changed; greatest, texts' places. -/
namespace Ea
open PySem PySem.Spec PyProof.Rows L2
section
variable {K : PySem.W.Frag} {σ : L2.St} {H : Hp} {Q : VK} {tt : TT} {te : TE} {vs : List Nat} {j : Nat} {σx : V → L2.St} {a : Addr} {ns : List Int} {f : Int → Bool} {g : Int → V}
/-- a turn: f tells whether x gives, g what -/
abbrev TurnF (H : Hp) (tt : TT) (te : TE) (σx : V → L2.St) (f : Int → Bool) (g : Int → V) (x : Int) : Prop :=
  ∀ (H' : Hp) (N : VK) (S : Hp → Prop), Evl.Ex H H' → (f x = true → ∀ H3, Evl.Ex H' H3 → N (g x) H3) → (f x = false → ∀ H3, Evl.Ex H' H3 → S H3) →
    tt (σx (.int x)) H' fun b H2 => if b = true then te (σx (.int x)) H2 N else S H2
def Cf (H : Hp) (ns : List Int) (f : Int → Bool) (g : Int → V) (D : Addr) (i : Nat) (H' : Hp) : Prop :=
  H D = none ∧ Evl.Ex H H' ∧ H' D = some (.lst (((ns.take i).filter f).map g))
theorem cf_turn {D : Addr} {i : Nat} {x : Int} {H' : Hp} (hi : ns[i]? = some x) (hz : ns.length ≤ 40000) (ht : TurnF H tt te σx f g x) (p : Cf H ns f g D i H') :
    tt (σx (.int x)) H' fun b H3 => if b = true then te (σx (.int x)) H3 fun y H4 => ∃ acc, H4 D = some (.lst acc) ∧ acc.length < sizeLine ∧ Cf H ns f g D (i + 1) (upd H4 D (.lst (acc ++ [y]))) else Cf H ns f g D (i + 1) H3 := by
  obtain ⟨e, ex, ea⟩ := p
  have hl : ((((ns.take i).filter f).map g)).length < 100000 := by
    rw [List.length_map]
    have h1 := List.length_filter_le f (ns.take i)
    have h2 := List.length_take_le i ns
    have h3 := List.length_take (i := i) (l := ns)
    omega
  refine ht H' _ _ ex (fun hf H3 e3 => ?_) fun hf H3 e3 => ?_
  · refine ⟨_, e3 D _ ea, Evl.sz_lt hl, e, Evl.Ex.mut (ex.trans e3) e, ?_⟩
    rw [upd_same, List.take_add_one, hi, List.filter_append, List.map_append]
    have : ((some x).toList.filter f) = [x] := by simp [hf]
    rw [this] <;> rfl
  · refine ⟨e, ex.trans e3, ?_⟩
    rw [List.take_add_one, hi, List.filter_append]
    have : ((some x).toList.filter f) = [] := by simp [hf]
    rw [this, List.append_nil]
    exact e3 D _ ea
theorem lc_fmT (f : Int → Bool) (g : Int → V) (hx : SqT K H a (ns.map V.int)) (hz : ns.length ≤ 40000) (hσ : ∀ x, (wipe σ vs).set j (some x) = σx x) (hw : ∀ x, wipe (σx x) vs = wipe σ vs)
    (hs : ∀ x ∈ ns, TurnF H tt te σx f g x)
    (hd : ∀ D H', Evl.Ex H H' → H D = none → H' D = some (.lst ((ns.filter f).map g)) → Q (.ref D) H') : LcR (gName j) tt te vs σ Q (Itt K a) H := fun D hn =>
  lc_tup (xs := ns.map V.int) (Cf H ns f g D) ⟨hn, Evl.Ex.new hn, upd_same⟩ (fun i H' _ ⟨_, ex, _⟩ => Evl.ex_t ex hx) (fun i x H' hi p => by
    rw [List.getElem?_map] at hi
    obtain ⟨y, hy, rfl⟩ := Option.map_eq_some_iff.mp hi
    rw [show gName j (.int y) (wipe σ vs) H' = fun N => N (σx (.int y)) H' from funext fun N => by rw [← hσ (.int y)] <;> rfl]
    exact ⟨hw _, cf_turn hy hz (hs y (List.mem_of_getElem? hy)) p⟩) fun H' p => by
    obtain ⟨e, ex, ea⟩ := p
    rw [List.length_map, List.take_of_length_le (Nat.le_refl _)] at ea
    exact hd D H' ex e ea
theorem lc_fmL (f : Int → Bool) (g : Int → V) (hx : SqL K H a (ns.map V.int)) (hz : ns.length ≤ 40000) (hσ : ∀ x, (wipe σ vs).set j (some x) = σx x) (hw : ∀ x, wipe (σx x) vs = wipe σ vs)
    (hs : ∀ x ∈ ns, TurnF H tt te σx f g x)
    (hd : ∀ D H', Evl.Ex H H' → H D = none → H' D = some (.lst ((ns.filter f).map g)) → Q (.ref D) H') : LcR (gName j) tt te vs σ Q (Itl K a) H := fun D hn =>
  lc_list (xs := ns.map V.int) (Cf H ns f g D) ⟨hn, Evl.Ex.new hn, upd_same⟩ (fun i H' _ ⟨_, ex, _⟩ => Evl.ex_l ex hx) (fun i x H' hi p => by
    rw [List.getElem?_map] at hi
    obtain ⟨y, hy, rfl⟩ := Option.map_eq_some_iff.mp hi
    rw [show gName j (.int y) (wipe σ vs) H' = fun N => N (σx (.int y)) H' from funext fun N => by rw [← hσ (.int y)] <;> rfl]
    exact ⟨hw _, cf_turn hy hz (hs y (List.mem_of_getElem? hy)) p⟩) fun H' p => by
    obtain ⟨e, ex, ea⟩ := p
    rw [List.length_map, List.take_of_length_le (Nat.le_refl _)] at ea
    exact hd D H' ex e ea
theorem rd_maxL {m : List Int} (s : SqL K H a (m.map V.int)) (h0 : 0 < m.length) (h : ∀ x, x ∈ m → (∀ y, y ∈ m → y ≤ x) → Q (.int x) H) : rMax K [.ref a] H Q := ⟨a, m, rfl, s, h0, h⟩
end
theorem rd_iteC {p : Prop} {_ : Decidable p} {σ : L2.St} {H : Hp} {Q : VK} {u v x : V} (e1 : p → u = x) (e2 : ¬ p → v = x) (h : Q x H) : if decide p = true then tC u σ H Q else tC v σ H Q := by
  by_cases c : p
  · rw [if_pos (decide_eq_true c), e1 c]
    exact h
  · rw [if_neg (by rw [decide_eq_true_eq]; exact c), e2 c]
    exact h
theorem bor_l {a b : Bool} (h : a = true) : (a || b) = true := by rw [h, Bool.true_or]
theorem bor_r {a b : Bool} (h : b = true) : (a || b) = true := by rw [h, Bool.or_true]
theorem bor_f {a b : Bool} (h : a = false) (h2 : b = false) : (a || b) = false := by rw [h, h2, Bool.or_false]
/-- the sign of a literal's letter -/
def sgn (z : Str) (x : Int) : Nat := z.cps.toList.getD (x.natAbs - 1) 0
def heldBy (z h : Str) (x : Int) : Bool := decide (V.str ⟨#[sgn z x]⟩ = V.str h)
theorem at_sgn {n : Nat} {z : Str} {x : Int} (h : OwnS n z) (h1 : 1 ≤ x.natAbs) (h2 : x.natAbs ≤ n) : atI z.cps.toList ((x.natAbs : Int) - 1) = some (sgn z x) := by
  have e : (x.natAbs : Int) - 1 = ((x.natAbs - 1 : Nat) : Int) := by omega
  have hl : x.natAbs - 1 < z.cps.toList.length := by
    have : z.cps.toList.length = n := h.1
    omega
  rw [e]
  refine atI_nat ?_
  unfold sgn
  rw [List.getElem?_eq_getElem hl, List.getD_eq_getElem?_getD, List.getElem?_eq_getElem hl]
  rfl
end Ea
set_option Elab.async false
set_option linter.all false
set_option maxRecDepth 100000
set_option maxHeartbeats 4000000
/-! Loops over tuples; dicts of literals by their letters. -/
namespace Ea
open PySem PySem.Spec PyProof.Rows L2

/-! ### a for, by its iterator -/
def ForR (g : TG) (tb : TS) (D : Ends) (σ : L2.St) (J : It) (H1 : Hp) : Prop :=
  ∃ W : Nat → Nat → L2.St → Hp → Prop, (∃ m, W 0 m σ H1) ∧ ∀ i m σ H, W i m σ H →
    (J.stop i H ∧ D.nx σ H) ∨
    (J.go i H ∧ ∃ N : L2.St → Hp → Prop, (∀ σ' H', N σ' H' → ∃ m', m' < m ∧ W (i + 1) m' σ' H') ∧
      ∀ x H', J.yld i H x H' → g x σ H' fun σ2 H2 => tb { D with nx := N, ct := N, bk := D.nx } σ2 H2)
section
variable {K : PySem.W.Frag} {σ : L2.St} {H : Hp} {g : TG} {tb : TS} {D : Ends} {wi : TI} {a : Addr} {xs : List V} {j : Nat}
theorem rd_for (h : wi σ H (ForR g tb D σ)) : tFor wi g tb D σ H := h
theorem fr_tup (Pv : Nat → L2.St → Hp → Prop) (h0 : Pv 0 σ H) (hl : ∀ i σ H, i ≤ xs.length → Pv i σ H → SqT K H a xs)
    (hs : ∀ i x σ H, xs[i]? = some x → Pv i σ H → tb { D with nx := Pv (i + 1), ct := Pv (i + 1), bk := D.nx } (σ.set j (some x)) H) (hd : ∀ σ H, Pv xs.length σ H → D.nx σ H) :
    ForR (gName j) tb D σ (Itt K a) H := for_tup Pv h0 hl (fun i x σ H hi p => hs i x σ H hi p) hd
theorem fr_list (Pv : Nat → L2.St → Hp → Prop) (h0 : Pv 0 σ H) (hl : ∀ i σ H, i ≤ xs.length → Pv i σ H → SqL K H a xs)
    (hs : ∀ i x σ H, xs[i]? = some x → Pv i σ H → tb { D with nx := Pv (i + 1), ct := Pv (i + 1), bk := D.nx } (σ.set j (some x)) H) (hd : ∀ σ H, Pv xs.length σ H → D.nx σ H) :
    ForR (gName j) tb D σ (Itl K a) H := for_list Pv h0 hl (fun i x σ H hi p => hs i x σ H hi p) hd
theorem fr_range {lo : Int} {n : Nat} (Pv : Nat → L2.St → Hp → Prop) (h0 : Pv 0 σ H)
    (hs : ∀ i σ H, i < n → Pv i σ H → tb { D with nx := Pv (i + 1), ct := Pv (i + 1), bk := D.nx } (σ.set j (some (.int (lo + i)))) H) (hd : ∀ σ H, Pv n σ H → D.nx σ H) :
    ForR (gName j) tb D σ (Itr lo n) H := for_range Pv h0 (fun i σ H hi p => hs i σ H hi p) hd
end

theorem rd_dnew {σ : L2.St} {H : Hp} {Q : VK} (h : ∀ p, H p = none → Q (.ref p) (upd H p (.dK []))) : tDNewK σ H Q := h
theorem rd_gtup2 {K : PySem.W.Frag} {σ σ' : L2.St} {H : Hp} {p : Addr} {x y : V} {n i j : Nat} {N : L2.St → Hp → Prop} (s : SqT K H p [x, y]) (hn : n = 2) (hs : (σ.set i (some x)).set j (some y) = σ') (h : N σ' H) :
    gTup K n (gCons (gName i) (gCons (gName j) gNil)) (.ref p) σ H N := ⟨p, [x, y], rfl, s, hn.symm, x, [y], rfl, y, [], rfl, rfl, by subst hs; exact h⟩
/-! ### sorted of a dict by its keys -/
def rSortD : List V → Hp → VK → Prop := fun xs H Q => ∃ (a : Addr) (kvs : List (Key × V)) (ks : List Int), xs = [.ref a] ∧ Rd H a (.dK kvs) ∧ kvs.map (·.1) = ks.map Sum.inl ∧ ks.length < 64 ∧
  ∀ (ys : List Int) (p : Addr), ys.Perm ks → ys.Pairwise (· ≤ ·) → H p = none → Q (.ref p) (upd H p (.lst (ys.map V.int)))
theorem c_sortedD {X : Cx} (h : X.calm = true) : CallR X (.builtin "sorted") rSortD := call_sortedDI h
theorem rd_sortD {H : Hp} {Q : VK} {a : Addr} {kvs : List (Key × V)} {ks : List Int} (h : H a = some (.dK kvs)) (e : kvs.map (·.1) = ks.map Sum.inl) (hl : ks.length < 64)
    (q : ∀ (ys : List Int) (p : Addr), ys.Perm ks → ys.Pairwise (· ≤ ·) → H p = none → Q (.ref p) (upd H p (.lst (ys.map V.int)))) : rSortD [.ref a] H Q := ⟨a, kvs, ks, rfl, .inl h, e, hl, q⟩

/-! ### a dict of literals by letters -/
abbrev lk (x : Int) : Key := Sum.inl (x.natAbs : Int)
structure Dic (ws : List Int) (kvs : List (Key × V)) : Prop where
  ks : ∃ ks : List Int, kvs.map (·.1) = ks.map Sum.inl ∧ ks.Nodup ∧ ∀ k, k ∈ ks ↔ ∃ x ∈ ws, (x.natAbs : Int) = k
  val : ∀ k : Int, (∃ x ∈ ws, (x.natAbs : Int) = k) → ∃ x ∈ ws, (x.natAbs : Int) = k ∧ valV kvs (.inl k) = some (.int x)
  len : kvs.length ≤ ws.length
theorem Dic.nil : Dic [] [] := by
  refine ⟨⟨[], rfl, List.nodup_nil, fun k => ⟨fun h => (nomatch h), ?_⟩⟩, ?_, Nat.le_refl _⟩
  · rintro ⟨x, h, _⟩
    cases h
  · rintro k ⟨x, h, _⟩
    cases h
theorem keys_put {kvs : List (Key × V)} {k : Key} {v : V} : (putK kvs k v).map (·.1) = if (kvs.any fun kv => decide (kv.1 = k)) = true then kvs.map (·.1) else kvs.map (·.1) ++ [k] := by
  unfold putK
  split
  · rw [List.map_map]
    refine List.map_congr_left fun p _ => ?_
    show (if p.1 = k then (p.1, v) else p).1 = p.1
    split <;> rfl
  · rw [List.map_append]
    rfl
theorem any_key {kvs : List (Key × V)} {k : Key} : (kvs.any fun kv => decide (kv.1 = k)) = true ↔ k ∈ kvs.map (·.1) := by
  rw [List.any_eq_true, List.mem_map]
  constructor
  · rintro ⟨p, hp, e⟩
    exact ⟨p, hp, of_decide_eq_true e⟩
  · rintro ⟨p, hp, e⟩
    exact ⟨p, hp, decide_eq_true e⟩
theorem Dic.put {ws : List Int} {kvs : List (Key × V)} (h : Dic ws kvs) (x : Int) : Dic (ws ++ [x]) (putK kvs (lk x) (.int x)) := by
  obtain ⟨⟨ks, e, nd, hm⟩, hv, hl⟩ := h
  refine ⟨?_, fun k hk => ?_, ?_⟩
  · rw [keys_put]
    by_cases c : (kvs.any fun kv => decide (kv.1 = lk x)) = true
    · rw [if_pos c]
      have hx : (x.natAbs : Int) ∈ ks := by
        have z := any_key.mp c
        rw [e] at z
        obtain ⟨k, hk, e2⟩ := List.mem_map.mp z
        cases e2
        exact hk
      refine ⟨ks, e, nd, fun k => ⟨fun hk => ?_, fun ⟨y, hy, e2⟩ => ?_⟩⟩
      · obtain ⟨y, hy, e2⟩ := (hm k).mp hk
        exact ⟨y, List.mem_append_left _ hy, e2⟩
      · rcases List.mem_append.mp hy with hy | hy
        · exact (hm k).mpr ⟨y, hy, e2⟩
        · rw [List.mem_singleton.mp hy] at e2
          rw [← e2]
          exact hx
    · rw [if_neg c]
      have hx : (x.natAbs : Int) ∉ ks := fun hx => c (any_key.mpr (by rw [e]; exact List.mem_map_of_mem hx))
      refine ⟨ks ++ [(x.natAbs : Int)], by rw [e, List.map_append] <;> rfl, ?_, fun k => ⟨fun hk => ?_, fun ⟨y, hy, e2⟩ => ?_⟩⟩
      · rw [List.nodup_append]
        exact ⟨nd, by simp, fun a ha b hb => by rw [List.mem_singleton.mp hb]; exact fun q => hx (q ▸ ha)⟩
      · rcases List.mem_append.mp hk with hk | hk
        · obtain ⟨y, hy, e2⟩ := (hm k).mp hk
          exact ⟨y, List.mem_append_left _ hy, e2⟩
        · exact ⟨x, List.mem_append_right _ List.mem_cons_self, (List.mem_singleton.mp hk).symm⟩
      · rcases List.mem_append.mp hy with hy | hy
        · exact List.mem_append_left _ ((hm k).mpr ⟨y, hy, e2⟩)
        · rw [List.mem_singleton.mp hy] at e2
          exact List.mem_append_right _ (by rw [← e2]; exact List.mem_cons_self)
  · rw [valV_put]
    by_cases c : (Sum.inl k : Key) = lk x
    · rw [if_pos c]
      have c2 : k = (x.natAbs : Int) := Sum.inl.inj c
      exact ⟨x, List.mem_append_right _ List.mem_cons_self, c2.symm, rfl⟩
    · rw [if_neg c]
      obtain ⟨y, hy, e2⟩ := hk
      have hy' : y ∈ ws := by
        rcases List.mem_append.mp hy with hy | hy
        · exact hy
        · rw [List.mem_singleton.mp hy] at e2
          exact absurd (congrArg Sum.inl e2.symm) c
      obtain ⟨z, hz, e3, e4⟩ := hv k ⟨y, hy', e2⟩
      exact ⟨z, List.mem_append_left _ hz, e3, e4⟩
  · have h1 := congrArg List.length (keys_put (kvs := kvs) (k := lk x) (v := .int x))
    rw [List.length_map] at h1
    rw [h1, List.length_append, List.length_singleton]
    split
    · rw [List.length_map]
      omega
    · rw [List.length_append, List.length_map, List.length_singleton]
      omega
/-- the literal that a dict has for a letter -/
def litOf (kvs : List (Key × V)) (k : Int) : Int := match valV kvs (.inl k) with
  | some (.int x) => x
  | _ => 0
theorem Dic.lit {ws : List Int} {kvs : List (Key × V)} (h : Dic ws kvs) {k : Int} (hk : ∃ x ∈ ws, (x.natAbs : Int) = k) :
    valV kvs (.inl k) = some (.int (litOf kvs k)) ∧ litOf kvs k ∈ ws ∧ ((litOf kvs k).natAbs : Int) = k := by
  obtain ⟨x, hx, e, hv⟩ := h.val k hk
  have : litOf kvs k = x := by
    unfold litOf
    rw [hv]
  rw [this]
  exact ⟨hv, hx, e⟩
theorem Dic.join {n : Nat} {one other : List Int} {kvs : List (Key × V)} (h : Dic (one ++ other) kvs) (a : Row n one) (b : Row n other) {ys : List Int} (so : ys.Pairwise (· < ·))
    (hy : ∀ k, k ∈ ys ↔ (∃ x ∈ one ++ other, (x.natAbs : Int) = k) ∧ k ∉ against one other) : IsJoin one other (ys.map (litOf kvs)) := by
  have hl : ∀ k ∈ ys, litOf kvs k ∈ one ++ other ∧ ((litOf kvs k).natAbs : Int) = k := fun k hk => (h.lit ((hy k).mp hk).1).2
  refine ⟨?_, fun x => ⟨fun hx => ?_, fun ⟨hx, hn⟩ => ?_⟩⟩
  · rw [List.pairwise_map]
    refine List.Pairwise.imp_of_mem (fun {p q} hp hq hlt => ?_) so
    have h1 := (hl p hp).2
    have h2 := (hl q hq).2
    omega
  · obtain ⟨k, hk, rfl⟩ := List.mem_map.mp hx
    obtain ⟨h1, h2⟩ := hl k hk
    exact ⟨List.mem_append.mp h1, by rw [h2]; exact ((hy k).mp hk).2⟩
  · have hk : (x.natAbs : Int) ∈ ys := (hy _).mpr ⟨⟨x, List.mem_append.mpr hx, rfl⟩, hn⟩
    obtain ⟨h1, h2⟩ := hl _ hk
    refine List.mem_map.mpr ⟨_, hk, ?_⟩
    exact (same_of a b hx (List.mem_append.mp h1) (by omega) hn).symm
theorem valV_drop {kvs : List (Key × V)} {k j : Key} (h : j ≠ k) : valV (dropK kvs k) j = valV kvs j := by
  induction kvs with
  | nil => rfl
  | cons p r ih =>
    by_cases e : p.1 = k
    · rw [dropK_pos e, ih, valV_neg (fun z => h (z.symm.trans e))]
    · rw [dropK_neg e]
      by_cases e2 : p.1 = j
      · rw [valV_pos e2, valV_pos e2]
      · rw [valV_neg e2, valV_neg e2, ih]
theorem keys_drop {kvs : List (Key × V)} {ks : List Int} {c : Int} (h : kvs.map (·.1) = ks.map Sum.inl) : (dropK kvs (.inl c)).map (·.1) = (ks.filter fun k => decide (k ≠ c)).map Sum.inl := by
  induction kvs generalizing ks with
  | nil =>
    cases ks with
    | nil => rfl
    | cons k r => cases h
  | cons p r ih =>
    cases ks with
    | nil => cases h
    | cons k t =>
      have h1 : p.1 = Sum.inl k := (List.cons.inj h).1
      have h2 := ih (List.cons.inj h).2
      by_cases e : k = c
      · subst e
        rw [dropK_pos h1, h2]
        simp
      · have e1 : ¬ p.1 = Sum.inl c := fun z => e (Sum.inl.inj (h1.symm.trans z))
        rw [dropK_neg e1, List.map_cons, h2, h1]
        simp [e]
theorem dK_not {kvs : List (Key × V)} : ∀ zs : List V, HO.dK kvs ≠ .tup zs ∧ ∀ f, HO.dK kvs ≠ .frz f (.tup zs) := fun zs => ⟨fun h => (by cases h), fun f h => (by cases h)⟩
theorem lst_not {ys : List V} : ∀ zs : List V, HO.lst ys ≠ .tup zs ∧ ∀ f, HO.lst ys ≠ .frz f (.tup zs) := fun zs => ⟨fun h => (by cases h), fun f h => (by cases h)⟩
theorem tup_upd {K : PySem.W.Frag} {H : Hp} {p a : Addr} {o u : HO} {xs : List V} (h : H p = some o) (hn : ∀ zs, o ≠ .tup zs ∧ ∀ f, o ≠ .frz f (.tup zs)) (s : SqT K H a xs) : SqT K (upd H p u) a xs := by
  rcases s with (s | ⟨f, s⟩) | s
  · refine .inl (.inl ?_)
    rw [upd_ne (ne_of s h fun e => (hn xs).1 e.symm)]
    exact s
  · refine .inl (.inr ⟨f, ?_⟩)
    rw [upd_ne (ne_of s h fun e => (hn xs).2 f e.symm)]
    exact s
  · exact .inr s
theorem nodup_le : ∀ {n : Nat} {ks : List Int}, ks.Nodup → (∀ k ∈ ks, 1 ≤ k ∧ k ≤ (n : Int)) → ks.length ≤ n
  | 0, ks, _, hm => by
    cases ks with
    | nil => exact Nat.le_refl _
    | cons k r =>
      have := hm k List.mem_cons_self
      omega
  | n + 1, ks, h, hm => by
    have h1 : (ks.erase ((n + 1 : Nat) : Int)).length ≤ n := nodup_le (h.erase _) fun k hk => by
      obtain ⟨a, b⟩ := (List.Nodup.mem_erase_iff h).mp hk
      have := hm k b
      omega
    have h2 := List.length_erase (a := ((n + 1 : Nat) : Int)) (l := ks)
    split at h2 <;> omega
section
variable {X : Cx} {st : List Stmt} {t : TS} {p : Prop}
theorem pss_guard (h : p → PSs X st t) : PSs X st (fun D σ H => p ∧ t D σ H) := ⟨fun pins s σ H D I hq => (h hq.1).run pins s σ H D I hq.2⟩
end
end Ea
set_option Elab.async false
set_option linter.all false
set_option maxRecDepth 100000
set_option maxHeartbeats 400000
/-! Dict comprehensions of literals; own errors' facts; data that stays. -/
namespace Ea
open PySem PySem.Spec PyProof.Rows L2

def DcR (g : TG) (tt : TT) (tk tv : TE) (vs : List Nat) (σ : L2.St) (Q : VK) (J : It) (H1 : Hp) : Prop :=
  ∀ D, H1 D = none → ∃ W : Nat → Nat → Hp → Prop, (∃ m, W 0 m (upd H1 D (.dK []))) ∧ ∀ i m H, W i m H →
    (J.stop i H ∧ Q (.ref D) H) ∨
    (J.go i H ∧ ∃ Nx : Hp → Prop, (∀ H', Nx H' → ∃ m', m' < m ∧ W (i + 1) m' H') ∧
      ∀ x H', J.yld i H x H' → g x (wipe σ vs) H' fun σ2 H2 => wipe σ2 vs = wipe σ vs ∧ tt σ2 H2 fun b H3 =>
        if b = true then tk σ2 H3 fun y H4 => tv σ2 H4 fun z H5 => ∃ kvs k, y = kV k ∧ H5 D = some (.dK kvs) ∧ kvs.length < sizeLine ∧ Nx (upd H5 D (.dK (putK kvs k z))) else Nx H3)
section
variable {K : PySem.W.Frag} {σ : L2.St} {H : Hp} {Q : VK} {g : TG} {tt : TT} {tk tv : TE} {vs : List Nat} {wi : TI} {j : Nat} {σx : V → L2.St} {a : Addr} {ws : List Int}
theorem rd_dc (h : wi σ H (DcR g tt tk tv vs σ Q)) : tDc wi g tt tk tv vs σ H Q := h
theorem dc_dicT (hx : SqT K H a (ws.map V.int)) (hz : ws.length ≤ 1000) (hσ : ∀ x, (wipe σ vs).set j (some x) = σx x) (hw : ∀ x, wipe (σx x) vs = wipe σ vs)
    (hk : ∀ (x : Int) (H' : Hp) (R : VK), R (.int (x.natAbs : Int)) H' → tk (σx (.int x)) H' R) (hv : ∀ (x : Int) (H' : Hp) (R : VK), R (.int x) H' → tv (σx (.int x)) H' R)
    (hd : ∀ D kvs H', Evl.Ex H H' → H D = none → H' D = some (.dK kvs) → Dic ws kvs → Q (.ref D) H') : DcR (gName j) tYes tk tv vs σ Q (Itt K a) H := fun D hn =>
  dc_tup (xs := ws.map V.int) (fun i H' => Evl.Ex H H' ∧ ∃ kvs, H' D = some (.dK kvs) ∧ Dic (ws.take i) kvs) ⟨Evl.Ex.new hn, [], upd_same, Dic.nil⟩ (fun i H' _ p => Evl.ex_t p.1 hx) (fun i x H' hi p => by
    rw [List.getElem?_map] at hi
    obtain ⟨y, hy, rfl⟩ := Option.map_eq_some_iff.mp hi
    rw [show gName j (.int y) (wipe σ vs) H' = fun N => N (σx (.int y)) H' from funext fun N => by rw [← hσ (.int y)] <;> rfl]
    refine ⟨hw _, rd_yes (rd_true (hk y H' _ (hv y H' _ ?_)))⟩
    obtain ⟨ex, kvs, e, dd⟩ := p
    have hl := dd.len
    rw [List.length_take] at hl
    refine ⟨kvs, lk y, rfl, e, by rw [sizeLine_eq]; omega, Evl.Ex.mut ex hn, _, upd_same, ?_⟩
    rw [List.take_add_one, hy]
    exact dd.put y) fun H' p => by
    obtain ⟨ex, kvs, e, dd⟩ := p
    rw [List.length_map, List.take_of_length_le (Nat.le_refl _)] at dd
    exact hd D kvs H' ex hn e dd
end
theorem rd_ddel {td ty : TE} {D : Ends} {σ : L2.St} {H : Hp} (h : td σ H fun x H1 => ty σ H1 fun y H2 => ∃ a kvs k, x = .ref a ∧ H2 a = some (.dK kvs) ∧ y = kV k ∧ (valV kvs k).isSome = true ∧ D.nx σ (upd H2 a (.dK (dropK kvs k)))) : sDDel td ty D σ H := h
theorem rd_kw {m : Nat} {sp : Sp} {gV : List V → List V} {E : L2.St → XK} {tk : TA} {σ : L2.St} {H : Hp} {Q : VK} (h : tk σ H fun zs H2 => zs.length = m ∧ sp (gV zs) H2 Q (E σ)) : tKw m sp gV E tk σ H Q := h
theorem rd_callS {sp : Sp} {E : L2.St → XK} {t : TA} {σ : L2.St} {H : Hp} {Q : VK} (h : t σ H fun vs H1 => sp vs H1 Q (E σ)) : tCallS sp E t σ H Q := h
theorem rd_ite2 {b : Bool} {te1 te2 : TE} {σ : L2.St} {H : Hp} {Q : VK} (P : V → Hp → Prop) (h1 : ∀ Q : VK, (∀ v H', P v H' → Q v H') → te1 σ H Q) (h2 : ∀ Q : VK, (∀ v H', P v H' → Q v H') → te2 σ H Q)
    (h : ∀ v H', P v H' → Q v H') : if b = true then te1 σ H Q else te2 σ H Q := by
  cases b with
  | true => exact h1 Q h
  | false => exact h2 Q h
theorem nice_row {n : Nat} {ns : List Int} (h : Row n ns) (hn : n ≤ 60) : Nice 60 1 (.tuple (dI ns)) :=
  (Nice.tup (NiceAll.ints fun x hx => by
    have := h.2 x hx
    have : (10 : Nat) ^ 12 = 1000000000000 := by decide
    omega)).mono (by have := h.length; omega) (Nat.le_refl _)
theorem rel_rev : ∀ {zs : List V} {ws : List Value}, Vals zs ws → Vals zs.reverse ws.reverse
  | _, _, .nil => .nil
  | _, _, .cons h t => by
    rw [List.reverse_cons, List.reverse_cons]
    exact (rel_rev t).append (.cons h .nil)
/-- what stands behind a body of the text -/
theorem passAt0 {X : Cx} {σ : L2.St} {E : XK} : PassesAt CX0 X σ E := fun _ _ _ _ _ _ h => h.elim
/-- what stands of an own error class behind the top -/
structure ExcF (K : PySem.W.Frag) (mg : Str → Option Value) (x : Str) (C : Addr) : Prop where
  g : mg x = some (.ref C)
  x : PySem.W.excIn K C [.type "ValueError", .type "Exception", .type "BaseException", .type "object"] "ValueError.__new__" = true
  k : PySem.W.keepIn K (.ref C) = true
  b : PySem.W.subIn K (.ref C) (.type "BaseException") = some true
  t : PySem.W.typeIn K (.ref C) = some (.type "type")
mutual
theorem dp_ex {K : PySem.W.Frag} {H H' : Hp} (e : Evl.Ex H H') : ∀ (d : PyData) (v : V), Dp K H v d → Dp K H' v d
  | .none, _, h => by cases h; exact .non
  | .bool b, _, h => by cases h; exact .bl b
  | .int i, _, h => by cases h; exact .int i
  | .str x, _, h => by cases h; exact .str x
  | .list ds, _, h => by
    cases h with
    | lst hs ha => exact .lst (Evl.ex_l e hs) (dpAll_ex e ds _ ha)
  | .tuple ds, _, h => by
    cases h with
    | tup hs ha => exact .tup (Evl.ex_t e hs) (dpAll_ex e ds _ ha)
  | .dict _, _, h => by cases h
theorem dpAll_ex {K : PySem.W.Frag} {H H' : Hp} (e : Evl.Ex H H') : ∀ (ds : List PyData) (vs : List V), DpAll K H vs ds → DpAll K H' vs ds
  | [], _, h => by cases h; exact .nil
  | d :: ds, _, h => by
    cases h with
    | cons h1 h2 => exact .cons (dp_ex e d _ h1) (dpAll_ex e ds _ h2)
end
end Ea
set_option Elab.async false
set_option linter.all false
set_option maxRecDepth 100000
set_option maxHeartbeats 400000
/-! sorted of a tuple of ints. -/
namespace Ea
open PySem PySem.Spec PyProof.Rows L2
def rSortedT (K : PySem.W.Frag) : List V → Hp → VK → Prop := fun xs H Q => ∃ (a : Addr) (ns : List Int), xs = [.ref a] ∧ SqT K H a (ns.map V.int) ∧ ns.length < 64 ∧
  ∀ (ys : List Int) (p : Addr), ys.Perm ns → ys.Pairwise (· ≤ ·) → H p = none → Q (.ref p) (upd H p (.lst (ys.map V.int)))
theorem cr_sortedT {X : Cx} {K : PySem.W.Frag} (hK : X.K = K) : CallR X (.builtin "sorted") (rSortedT K) := by
  subst hK
  intro pins s σ H xs us Q I r q
  obtain ⟨a, ns, ex, hd, h64, q⟩ := q
  subst ex
  obtain ⟨u, eu, rx⟩ := vals1 r
  subst eu
  cases rx
  obtain ⟨its, rv, ⟨o, ho, hc, n, hds⟩, hz⟩ := I.tuple hd
  have hal : its.length = ns.length := by rw [← rv.length, List.length_map]
  have hS : IntsAre its ns := rv.ints
  refine Calls.call_function_entry PyProof.Rows.kind_sorted PyProof.Rows.plain_sorted PyProof.Rows.entry_sorted (PyProof.Rows.args_sorted1 _) ?_
  unfold Builtin.«sorted»
  refine wpAny_bind (m := checkCount "sorted" 1 1 _) (wpAny_pure ?_)
  refine wpAny_bind (wpAny_collect_seq a (.inr rfl) ho hc hds (fun h' hk => ?_) (by rw [List.size_toArray, hal, sizeLine_eq]; omega))
  have I1 : Inv X pins σ H { s with heap := h' } := I.kept hk
  refine wpAny_bind (wpAny_newList ?_ (by rw [List.toList_toArray, hal, sizeLine_eq]; omega))
  have hoL : (h'.push (seqObj "list" its.toArray.toList.toArray 0)).get? h'.objs.size = some (seqObj "list" its.toArray.toList.toArray 0) := Heap.get?_push_size _ rfl
  show wpAny _ _ _ _ _ { s with heap := h'.push (seqObj "list" its.toArray.toList.toArray 0) }
  refine wpAny_bind (wpAny_holding (wpAny_call_entry PyProof.Rows.slot_list_sort ⟨_, hoL, rfl⟩ PyProof.Rows.entry_list_sort
    (PyProof.Rows.list_sort_tree (s := { s with heap := h'.push (seqObj "list" its.toArray.toList.toArray 0) }) hoL (by rw [List.toList_toArray]; exact hS) (by rw [List.toList_toArray, hal]; exact h64) fun out ys g1 g2 g3 => ⟨_, rfl, ?_⟩) (PyProof.Rows.args_list_sort _)))
  obtain ⟨e', he'⟩ := PyProof.Rows.sortedHeap_at (vs := its.toArray.toList) (out := out) hoL
  have hlen : (ys.map V.int).length ≤ sizeLine := by
    rw [List.length_map, g2.length_eq]
    exact Nat.le_trans (Nat.le_of_lt h64) (by decide)
  refine wpAny_pure ⟨_, rfl, .ref h'.objs.size, upd H h'.objs.size (.lst (ys.map V.int)), I1.laid (t' := s.toks) (fun b u e => ?_) (Nat.le_refl _)
    (show ObjOk X.prog X.w _ _ _ (.lst (ys.map V.int)) from ⟨hlen, out.toList, e', vals_of_ints g1, by rw [Array.toArray_toList]; exact he'⟩), rfl, q ys _ g2 g3 (I1.hok.fresh (Nat.le_refl _))⟩
  have hb : b < h'.objs.size := Heap.lt_size e
  rw [PyProof.Rows.sortedHeap_old (Nat.ne_of_lt hb) (by rw [size_push']; exact Nat.lt_succ_of_lt hb)]
  exact Heap.get?_push_of_some _ e
theorem rd_sortT {K : PySem.W.Frag} {H : Hp} {Q : VK} {a : Addr} {ns : List Int} (s : SqT K H a (ns.map V.int)) (hz : ns.length < 64)
    (h : ∀ (ms : List Int) (q : Addr), ms.Perm ns → ms.Pairwise (· ≤ ·) → H q = none → Q (.ref q) (upd H q (.lst (ms.map V.int)))) : rSortedT K [.ref a] H Q :=
  ⟨a, ns, rfl, s, hz, h⟩
/-- sorted of what ascends -/
theorem sorted_same {ms ns : List Int} (p : ms.Perm ns) (s : ms.Pairwise (· ≤ ·)) (h : ns.Pairwise (· < ·)) : ms = ns := by
  refine List.Perm.eq_of_pairwise (fun a b _ _ h1 h2 => by omega) s (h.imp fun {a b} q => by omega) p
theorem rd_ite2p {p : Prop} {_ : Decidable p} {te1 te2 : TE} {σ : L2.St} {H : Hp} {Q : VK} (P : V → Hp → Prop) (h1 : p → ∀ Q : VK, (∀ v H', P v H' → Q v H') → te1 σ H Q) (h2 : ¬ p → ∀ Q : VK, (∀ v H', P v H' → Q v H') → te2 σ H Q)
    (h : ∀ v H', P v H' → Q v H') : if decide p = true then te1 σ H Q else te2 σ H Q := by
  by_cases c : p
  · rw [if_pos (decide_eq_true c)]
    exact h1 c Q h
  · rw [if_neg (by rw [decide_eq_true_eq]; exact c)]
    exact h2 c Q h
theorem rd_mulL {H : Hp} {Q : VK} {l : Addr} {k : Int} {xs : List V} (h : H l = some (.lst xs)) (h1 : 0 ≤ k ∧ k < 2 ^ 63) (hz : xs.length * k.toNat ≤ sizeLine) (q : ∀ p, H p = none → Q (.ref p) (upd H p (.lst (List.replicate k.toNat xs).flatten))) : rRep (.ref l) (.int k) H Q :=
  ⟨l, k, xs, rfl, rfl, h, by omega, h1.2, hz, q⟩
theorem rd_andV {ta tb : TE} {σ : L2.St} {H : Hp} {Q : VK} (h : ta σ H fun x H1 => ∃ c, x = .bl c ∧ if c = true then tb σ H1 Q else Q (.bl false) H1) : tAndV ta tb σ H Q := h
theorem rd_orV {ta tb : TE} {σ : L2.St} {H : Hp} {Q : VK} (h : ta σ H fun x H1 => ∃ c, x = .bl c ∧ if c = true then Q (.bl true) H1 else tb σ H1 Q) : tOrV ta tb σ H Q := h
theorem rd_notV {ta : TE} {σ : L2.St} {H : Hp} {Q : VK} (h : ta σ H fun x H1 => ∃ c, x = .bl c ∧ Q (.bl (!c)) H1) : tNotV ta σ H Q := h
theorem rd_bc {b : Bool} {P : Bool → Prop} (h : P b) : ∃ c, V.bl b = V.bl c ∧ P c := ⟨b, rfl, h⟩
/-- if, its ends brought together -/
theorem rd_meet {p : Prop} {_ : Decidable p} {t1 t2 : TS} {D : Ends} {σ : L2.St} {H : Hp} (I : L2.St → Hp → Prop) (h1 : p → ∀ N : L2.St → Hp → Prop, (∀ σ' H', I σ' H' → N σ' H') → t1 { D with nx := N } σ H)
    (h2 : ¬ p → ∀ N : L2.St → Hp → Prop, (∀ σ' H', I σ' H' → N σ' H') → t2 { D with nx := N } σ H) (h : ∀ σ' H', I σ' H' → D.nx σ' H') : if decide p = true then t1 D σ H else t2 D σ H := by
  by_cases c : p
  · rw [if_pos (decide_eq_true c)]
    exact h1 c D.nx h
  · rw [if_neg (by rw [decide_eq_true_eq]; exact c)]
    exact h2 c D.nx h
end Ea
set_option Elab.async false
set_option linter.all false
set_option maxRecDepth 100000
set_option maxHeartbeats 400000
/-! A deck of draws that is a list: what draws leave as it was; comprehensions among them. -/
namespace Ea
open PySem PySem.Spec PyProof.Rows L2
/-- a deck: a list of what is left to be drawn, a number, how often it was drawn from that -/
def DeckL (d l : Addr) (H : Hp) : Prop := ∃ (ns : List Int) (m c : Int),
  H d = some (.lst [.ref l, .int m, .int c]) ∧ H l = some (.lst (ns.map V.int)) ∧ ns.length ≤ 63 ∧ (∀ n ∈ ns, 0 ≤ n) ∧ 0 ≤ m ∧ m < 4294967291
theorem deck_ne {l : Addr} {m c : Int} {ns : List Int} {d : Addr} {H : Hp} (e1 : H d = some (.lst [.ref l, .int m, .int c])) (e2 : H l = some (.lst (ns.map V.int))) : d ≠ l := by
  intro e
  rw [e, e2] at e1
  cases ns with
  | nil => cases e1
  | cons x r => cases e1
structure Gl (d l : Addr) (H H' : Hp) : Prop where
  dk : DeckL d l H'
  kp : ∀ a o, a ≠ d → a ≠ l → H a = some o → H' a = some o
section
variable {d l : Addr} {H H1 H2 : Hp}
theorem DeckL.ne (h : DeckL d l H) : d ≠ l := by
  obtain ⟨ns, m, c, e1, e2, _⟩ := h
  exact deck_ne e1 e2
theorem Gl.refl (h : DeckL d l H) : Gl d l H H := ⟨h, fun _ _ _ _ e => e⟩
theorem Gl.trans (a : Gl d l H H1) (b : Gl d l H1 H2) : Gl d l H H2 := ⟨b.dk, fun p o n1 n2 e => b.kp p o n1 n2 (a.kp p o n1 n2 e)⟩
theorem DeckL.off (h : DeckL d l H) {p : Addr} (e : H p = none) : p ≠ d ∧ p ≠ l := by
  obtain ⟨ns, m, c, e1, e2, _⟩ := h
  exact ⟨fun z => (by rw [z, e1] at e; cases e), fun z => (by rw [z, e2] at e; cases e)⟩
theorem DeckL.upd (h : DeckL d l H) {p : Addr} {o : HO} (n1 : p ≠ d) (n2 : p ≠ l) : DeckL d l (upd H p o) := by
  obtain ⟨ns, m, c, e1, e2, r⟩ := h
  exact ⟨ns, m, c, by rw [upd_ne n1.symm]; exact e1, by rw [upd_ne n2.symm]; exact e2, r⟩
theorem Gl.new (h : DeckL d l H) {p : Addr} {o : HO} (e : H p = none) : Gl d l H (upd H p o) := by
  obtain ⟨n1, n2⟩ := h.off e
  exact ⟨h.upd n1 n2, fun q u _ _ eq => by rw [upd_ne (ne_of_none eq e)]; exact eq⟩
/-- an object that H does not know may change -/
theorem Gl.mut (g : Gl d l H H1) (h : DeckL d l H) {p : Addr} {o : HO} (e : H p = none) : Gl d l H (upd H1 p o) := by
  obtain ⟨n1, n2⟩ := h.off e
  exact ⟨g.dk.upd n1 n2, fun q u m1 m2 eq => by rw [upd_ne (ne_of_none eq e)]; exact g.kp q u m1 m2 eq⟩
theorem Gl.back (g : Gl d l H H1) (h : DeckL d l H) {p : Addr} (e : H1 p = none) : H p = none := by
  obtain ⟨n1, n2⟩ := g.dk.off e
  cases q : H p with
  | none => rfl
  | some o =>
    rw [g.kp p o n1 n2 q] at e
    cases e
/-- a tuple stays -/
theorem Gl.tup {K : PySem.W.Frag} (g : Gl d l H H1) (h : DeckL d l H) {a : Addr} {xs : List V} (t : SqT K H a xs) : SqT K H1 a xs := by
  obtain ⟨ns, m, c, e1, e2, _⟩ := h
  have hn : ∀ {o : HO}, H a = some o → (∀ kv, o ≠ .dK kv) → (∀ ys, o ≠ .lst ys) → H1 a = some o := fun e c1 c2 =>
    g.kp a _ (fun z => (by rw [z, e1] at e; cases e; exact c2 _ rfl)) (fun z => (by rw [z, e2] at e; cases e; exact c2 _ rfl)) e
  rcases t with (t | ⟨o, t⟩) | t
  · exact .inl (.inl (hn t nofun nofun))
  · exact .inl (.inr ⟨o, hn t nofun nofun⟩)
  · exact .inr t
end
section
variable {d l : Addr} {K : PySem.W.Frag} {σ : L2.St} {H : Hp} {Q : VK} {tt : TT} {te : TE} {vs : List Nat} {j : Nat} {σx : V → L2.St} {a : Addr} {xs : List V}
/-- a turn of a comprehension among draws -/
abbrev TurnL (d l : Addr) (H : Hp) (tt : TT) (te : TE) (σx : V → L2.St) (Pv : Nat → List V → Prop) (i : Nat) (x : V) : Prop :=
  ∀ (acc : List V) (H' : Hp) (N : VK) (S : Hp → Prop), Gl d l H H' → Pv i acc →
    (∀ y H3, Gl d l H' H3 → Pv (i + 1) (acc ++ [y]) → N y H3) → (∀ H3, Gl d l H' H3 → Pv (i + 1) acc → S H3) →
    tt (σx x) H' fun b H2 => if b = true then te (σx x) H2 N else S H2
def Cl (d l : Addr) (H : Hp) (Pv : Nat → List V → Prop) (D : Addr) (i : Nat) (H' : Hp) : Prop :=
  ∃ acc, H D = none ∧ Gl d l H H' ∧ H' D = some (.lst acc) ∧ acc.length ≤ i ∧ Pv i acc
theorem cl_start {Pv : Nat → List V → Prop} (hD : DeckL d l H) (h0 : Pv 0 []) {D : Addr} (e : H D = none) : Cl d l H Pv D 0 (upd H D (.lst [])) :=
  ⟨[], e, Gl.new hD e, upd_same, Nat.le_refl _, h0⟩
theorem cl_turn {Pv : Nat → List V → Prop} {D : Addr} {i : Nat} {x : V} {H' : Hp} (hD : DeckL d l H) (hi : i < 100000) (ht : TurnL d l H tt te σx Pv i x) (p : Cl d l H Pv D i H') :
    tt (σx x) H' fun b H3 => if b = true then te (σx x) H3 fun y H4 => ∃ acc, H4 D = some (.lst acc) ∧ acc.length < sizeLine ∧ Cl d l H Pv D (i + 1) (upd H4 D (.lst (acc ++ [y]))) else Cl d l H Pv D (i + 1) H3 := by
  obtain ⟨acc, e, g, ea, hl, hp⟩ := p
  obtain ⟨n1, n2⟩ := hD.off e
  refine ht acc H' _ _ g hp (fun y H3 g3 hp3 => ?_) fun H3 g3 hp3 => ?_
  · refine ⟨acc, g3.kp D _ n1 n2 ea, Evl.sz_lt (by omega), acc ++ [y], e, Gl.mut (g.trans g3) hD e, upd_same, ?_, hp3⟩
    rw [List.length_append, List.length_singleton]
    omega
  · exact ⟨acc, e, g.trans g3, g3.kp D _ n1 n2 ea, by omega, hp3⟩
theorem lc_glT (Pv : Nat → List V → Prop) (hD : DeckL d l H) (hx : SqT K H a xs) (hz : xs.length ≤ 40000) (hσ : ∀ x, (wipe σ vs).set j (some x) = σx x) (hw : ∀ x, wipe (σx x) vs = wipe σ vs)
    (h0 : Pv 0 []) (hs : ∀ i x, xs[i]? = some x → TurnL d l H tt te σx Pv i x)
    (hd : ∀ D acc H', Gl d l H H' → H D = none → H' D = some (.lst acc) → Pv xs.length acc → Q (.ref D) H') : LcR (gName j) tt te vs σ Q (Itt K a) H := fun D hn =>
  lc_tup (xs := xs) (Cl d l H Pv D) (cl_start hD h0 hn) (fun i H' _ ⟨_, _, g, _⟩ => g.tup hD hx) (fun i x H' hi p => by
    rw [show gName j x (wipe σ vs) H' = fun N => N (σx x) H' from funext fun N => by rw [← hσ x] <;> rfl]
    refine ⟨hw x, ?_⟩
    have := (List.getElem?_eq_some_iff.mp hi).1
    exact cl_turn hD (by omega) (hs i x hi) p) fun H' p => by
    obtain ⟨acc, e, g, ea, _, hp⟩ := p
    exact hd D acc H' g e ea hp
theorem lc_glL (Pv : Nat → List V → Prop) (hD : DeckL d l H) (hx : ∀ H', Gl d l H H' → SqL K H' a xs) (hz : xs.length ≤ 40000) (hσ : ∀ x, (wipe σ vs).set j (some x) = σx x) (hw : ∀ x, wipe (σx x) vs = wipe σ vs)
    (h0 : Pv 0 []) (hs : ∀ i x, xs[i]? = some x → TurnL d l H tt te σx Pv i x)
    (hd : ∀ D acc H', Gl d l H H' → H D = none → H' D = some (.lst acc) → Pv xs.length acc → Q (.ref D) H') : LcR (gName j) tt te vs σ Q (Itl K a) H := fun D hn =>
  lc_list (xs := xs) (Cl d l H Pv D) (cl_start hD h0 hn) (fun i H' _ ⟨_, _, g, _⟩ => hx H' g) (fun i x H' hi p => by
    rw [show gName j x (wipe σ vs) H' = fun N => N (σx x) H' from funext fun N => by rw [← hσ x] <;> rfl]
    refine ⟨hw x, ?_⟩
    have := (List.getElem?_eq_some_iff.mp hi).1
    exact cl_turn hD (by omega) (hs i x hi) p) fun H' p => by
    obtain ⟨acc, e, g, ea, _, hp⟩ := p
    exact hd D acc H' g e ea hp
theorem lc_glR {lo : Int} {n : Nat} (Pv : Nat → List V → Prop) (hD : DeckL d l H) (hz : n ≤ 40000) (hσ : ∀ x, (wipe σ vs).set j (some x) = σx x) (hw : ∀ x, wipe (σx x) vs = wipe σ vs)
    (h0 : Pv 0 []) (hs : ∀ i, i < n → TurnL d l H tt te σx Pv i (.int (lo + i)))
    (hd : ∀ D acc H', Gl d l H H' → H D = none → H' D = some (.lst acc) → Pv n acc → Q (.ref D) H') : LcR (gName j) tt te vs σ Q (Itr lo n) H := fun D hn =>
  lc_range (Cl d l H Pv D) (cl_start hD h0 hn) (fun i H' hi p => by
    rw [show gName j (.int (lo + i)) (wipe σ vs) H' = fun N => N (σx (.int (lo + i))) H' from funext fun N => by rw [← hσ (.int (lo + i))] <;> rfl]
    exact ⟨hw _, cl_turn hD (by omega) (hs i hi) p⟩) fun H' p => by
    obtain ⟨acc, e, g, ea, _, hp⟩ := p
    exact hd D acc H' g e ea hp
end

section
variable {d l : Addr} {H H' : Hp}
theorem Gl.ex (e : Evl.Ex H H') (h : DeckL d l H) : Gl d l H H' := by
  obtain ⟨ns, m, c, e1, e2, r⟩ := h
  exact ⟨⟨ns, m, c, e _ _ e1, e _ _ e2, r⟩, fun a o _ _ q => e a o q⟩
end
theorem rd_gsub {to ti : TE} {t : TSet} {v : V} {σ : L2.St} {H : Hp} {N : L2.St → Hp → Prop} (h : to σ H fun o H1 => ti σ H1 fun i H2 => t o i v H2 fun H3 => N σ H3) : gSub to ti t v σ H N := h
end Ea
set_option Elab.async false
set_option linter.all false
set_option maxRecDepth 100000
set_option maxHeartbeats 1000000
/-! enumerate of a tuple; zip of a tuple and a list. -/
namespace Ea
open PySem PySem.Spec PyProof.Rows L2
/-- enumerate(v), v told by how its iterator begins -/
theorem meets_enum1 {v : Value} {o : Obj} {Hh : Heap → Prop} (B : Begins v o Hh) :
    Meets (Builtin.«enumerate.__new__» ⟨[.type "enumerate", v], []⟩) (fun _ R s => Hh s.heap ∧
      R (.ok (.ret (.ref (s.heap.push o).objs.size))) { s with heap := (s.heap.push o).push { cls := .type "enumerate", data := .fields #[.none, .bool false, .ref s.heap.objs.size, rawInt 0, .none, .none] } }) :=
  .of_wp fun prog w A R s h => by
    obtain ⟨hp, g, d, tk, os⟩ := s
    obtain ⟨h1, h⟩ := h
    have hsub := sub_enumerate
    have q1 : ∀ {A' : Around} {E : Value → Shared → Prop} {Q : Value → Shared → Prop}, Q (.ref hp.objs.size) ⟨hp.push o, g, d, tk, os⟩ → wpAny (model prog w) A' (pyIter v) Q E ⟨hp, g, d, tk, os⟩ :=
      fun q => B.iter prog w _ _ ⟨hp, g, d, tk, os⟩ _ h1 q
    wp_walk using q1
    refine wpAny_stack_any fun st => wpAny_pure ?_
    split
    · rename_i c _ _ _ _ _
      cases (c == Value.type "enumerate") <;> (wp_walk using q1; exact ⟨_, rfl, h⟩)
    · wp_walk using q1
      exact ⟨_, rfl, h⟩
theorem call_enum1 {prog : Program} {w : World} {A : Around} {E : Value → Shared → Prop} {s : Shared} {v : Value} {o : Obj} {Hh : Heap → Prop} {Q : Value → Shared → Prop} (B : Begins v o Hh) (h1 : Hh s.heap)
    (h : ∀ h', IsEnum h' (s.heap.objs.size + 1) s.heap.objs.size 0 .none → h'.get? s.heap.objs.size = some o → (∀ b o, s.heap.get? b = some o → h'.get? b = some o) → Q (.ref (s.heap.objs.size + 1)) { s with heap := h' }) :
    wpAny (model prog w) A (call (.type "enumerate") [v]) Q E s := by
  refine callType_new F.called_enumerate (by decide) (F.typeCall_enumerate_1 _) (F.newCall_enumerate_1 _) (fun obj => F.args_object_init_2 obj _) F.entry_enumerate_new (meets_enum1 B) ⟨h1, ?_⟩
  have hz : (s.heap.push o).objs.size = s.heap.objs.size + 1 := Heap.size_push ..
  show _ ∧ _
  rw [hz]
  have he : IsEnum ((s.heap.push o).push { cls := .type "enumerate", data := .fields #[.none, .bool false, .ref s.heap.objs.size, rawInt 0, .none, .none] }) (s.heap.objs.size + 1) s.heap.objs.size 0 .none := by
    have z := Heap.get?_push_size (s.heap.push o) (o := { cls := .type "enumerate", data := .fields #[.none, .bool false, .ref s.heap.objs.size, rawInt 0, .none, .none] }) rfl
    rw [hz] at z
    exact z
  exact ⟨⟨_, he, rfl⟩, h _ he (Heap.get?_push_of_some _ (Heap.get?_push_size _ B.free)) fun b o x => Heap.get?_push_of_some _ (Heap.get?_push_of_some _ x)⟩
/-- the tuple at a, each item in a new pair -/
def IteT (K : PySem.W.Frag) (a : Addr) : It :=
  ⟨fun i H => ∃ (xs : List V) (x : V), SqT K H a xs ∧ xs[i]? = some x, fun i H v H' => ∃ T x, v = .ref T ∧ H T = none ∧ H' = upd H T (.tup [.int (i : Nat), x]) ∧ ∀ xs, SqT K H a xs → xs[i]? = some x, fun i H => ∃ xs : List V, SqT K H a xs ∧ xs.length = i⟩
theorem apart {h : Heap} {a b : Addr} {o u : Obj} (e1 : h.get? a = some o) (e2 : h.get? b = some u) (hc : o.cls ≠ u.cls) : a ≠ b := fun e => by
  rw [e, e2] at e1
  cases e1
  exact hc rfl
theorem turn_enumT {P : Program} {w : World} {K : PySem.W.Frag} {elts : List Expr} {kk : Nat} {tpos : Pos} (a e it : Addr) :
    L2.Turn P w K (.Tuple elts kk tpos) (IteT K a) [e, it] e (fun i h => (∃ old, IsEnum h e it ((i : Nat) : Int) old) ∧ h.IsTupleIter it a i ∧ e ≠ it) where
  mem := by simp
  obj := fun i h st b hb => by
    obtain ⟨⟨old, he⟩, ⟨o, ho, hc, hd⟩, _⟩ := st
    have e' : b = e ∨ b = it := by simpa using hb
    rcases e' with rfl | rfl
    · exact ⟨_, he, fun v q => nomatch q⟩
    · exact ⟨o, ho, fun v q => by rw [hd] at q; cases q⟩
  keep := fun i h h' st k => let ⟨⟨old, he⟩, hi, hne⟩ := st; ⟨⟨old, k e (by simp) _ he⟩, hi.at fun o q => k it (by simp) o q, hne⟩
  item := by
    intro X hP hw hK hc i pins s σ H E I hf st hg
    subst hP hw hK
    obtain ⟨⟨old, he⟩, hit, hne⟩ := st
    obtain ⟨xs, x, hq, hx⟩ := hg
    obtain ⟨its, rv, p, hz⟩ := I.tuple hq
    obtain ⟨u, hu, ru⟩ := rv.get hx
    obtain ⟨oi, hoi, hci, _⟩ := id hit
    obtain ⟨ot, hot, hct, _⟩ := id p
    have hai : a ≠ it := apart hot hoi (by rw [hct, hci]; decide)
    have hea : e ≠ a := apart he hot (by rw [hct]; show Value.type "enumerate" ≠ Value.type "tuple"; decide)
    have hel : e < s.heap.objs.size := Heap.lt_size he
    have hil : it < s.heap.objs.size := Heap.lt_size hoi
    have hlt : i < its.toArray.size := by
      have := (List.getElem?_eq_some_iff.mp hu).1
      simpa using this
    refine wpAny_pyNext_enum_itemD (Draws.tuple (prog := X.prog) (w := X.w) (A := X.A.in1) (I.ok.hd hc) it a hai its.toArray) he ⟨hit, p⟩ hlt hne (by simp [hne, hea]) fun x' h' tk hP ho st' hT hsz hk => ?_
    obtain rfl : u = x' := by
      have z : its[i]? = some x' := by simpa using hP
      rw [hu] at z
      exact Option.some.inj z
    refine ⟨_, rfl, wpAny_letOwnedTupleGo_enum (s := { s with heap := h', toks := tk + 1 }) ho fun h'' he' sb => ?_⟩
    have hT2 : h''.get? s.heap.objs.size = some { cls := .type "tuple", data := .seq #[.int i tk, u] } := (sb.2 _ (Nat.ne_of_gt hel)).trans hT
    have new : ObjOk X.prog X.w (upd H s.heap.objs.size (.tup [.int (i : Nat), x])) h'' s.heap.objs.size (.tup [.int (i : Nat), x]) :=
      ⟨by show 2 ≤ sizeLine; decide, [.int i tk, u], .cons ⟨_, rfl⟩ (.cons ru .nil), ⟨_, hT2, rfl, _, rfl⟩⟩
    have I1 : Inv X pins σ (upd H s.heap.objs.size (.tup [.int (i : Nat), x])) { s with heap := h'', toks := tk + 1 } :=
      I.turnedNew (ch := [e, it]) (fun b ob hb q => (sb.2 b (fun z => hb (by simp [z]))).trans (hk b ob (fun z => hb (by simp [z])) (fun z => hb (by simp [z])) q)) hf (Nat.le_refl _) new
    refine ⟨.ref s.heap.objs.size, _, I1, rfl, ⟨_, x, rfl, I.hok.fresh (Nat.le_refl _), rfl, fun ys hy => by rw [I.tuple_inj hy hq]; exact hx⟩, ⟨⟨u, ?_⟩, st'.1.at fun o q => (sb.2 it (Ne.symm hne)).trans q, hne⟩, fun b hb => ?_⟩
    · have e1 : ((i + 1 : Nat) : Int) = (i : Int) + 1 := by omega
      rw [e1]
      exact he'
    · have hb' : b < s.heap.objs.size := by
        have e' : b = e ∨ b = it := by simpa using hb
        rcases e' with rfl | rfl
        · exact hel
        · exact hil
      rw [upd_ne (Nat.ne_of_lt hb')]
      exact (hf b hb).1
  done := by
    intro X hP hw hK hc i pins s σ H E I hf st hg
    subst hP hw hK
    obtain ⟨⟨old, he⟩, hit, hne⟩ := st
    obtain ⟨xs, hq, hx⟩ := hg
    obtain ⟨its, rv, p, hz⟩ := I.tuple hq
    obtain ⟨oi, hoi, hci, _⟩ := id hit
    obtain ⟨ot, hot, hct, _⟩ := id p
    have hai : a ≠ it := apart hot hoi (by rw [hct, hci]; decide)
    obtain ⟨f0, f1, f2, f3, f4, f5⟩ := hf it (by simp)
    have hl : i = its.toArray.size := by
      have := rv.length
      rw [List.size_toArray]
      omega
    exact wpAny_pyNext_enum_endD (Draws.tuple (prog := X.prog) (w := X.w) (A := X.A.in1) (I.ok.hd hc) it a hai its.toArray) he ⟨hl ▸ hit, p⟩ fun h' eb => ⟨rfl, I.turned (t' := s.toks) (fun b o hb q => eb b o hb q) f0 f1 f3 f4 f5⟩
  self := fun A i s Q E st h => let ⟨⟨_, he⟩, _⟩ := st; wpAny_pyIter_enum he h
def iEnumT (K : PySem.W.Frag) (ta : TA) : TI := fun σ H R => ta σ H fun vs H1 => ∃ a xs, vs = [.ref a] ∧ SqT K H1 a xs ∧ R (IteT K a) H1
theorem pi_enumT {X : Cx} {K : PySem.W.Frag} (hKK : X.K = K) {e : Expr} {ta : TA} {p pos tpos : Pos} {elts : List Expr} {kk : Nat} (hg : L2.Gl X "enumerate") (hm : X.mg "enumerate" = none) (ha : PA X [e] ta) (hs : starEach [e] X.env = [(false, eval e X.env)] := by rfl) :
    PI X (.Tuple elts kk tpos) (.Call (.Name "enumerate" p) [e] [] pos) (iEnumT K ta) := by
  subst hKK
  refine ⟨fun pins s σ H R I h => ?_⟩
  refine Call_ (ld_blt I hg hm boot_enumerate (PyProof.Rows.callWith_type1 (thn (ha.run pos pins s σ H _ I h) fun us s1 ⟨vs, H1, I1, r1, q1⟩ => ?_) hs rfl))
  obtain ⟨a, xs, ex, hq, q⟩ := q1
  subst ex
  cases r1 with
  | cons r rr =>
    cases rr
    cases r
    obtain ⟨its, rv, p', hz⟩ := I1.tuple hq
    refine call_enum1 (begins_tuple a its.toArray) (show s1.heap.IsTuple a its.toArray from p') fun h' he hit hk => wpAny_pyIter_enum he ?_
    have I2 : Inv X pins σ H1 { s1 with heap := h' } := I1.kept (t' := s1.toks) hk
    refine ⟨s1.heap.objs.size + 1, [s1.heap.objs.size + 1, s1.heap.objs.size], _, _, H1, rfl, I2, turn_enumT a (s1.heap.objs.size + 1) s1.heap.objs.size, ⟨⟨.none, he⟩, ⟨_, hit, rfl, rfl⟩, Nat.succ_ne_self _⟩, fun b hb => ?_, q⟩
    have e' : b = s1.heap.objs.size + 1 ∨ b = s1.heap.objs.size := by simpa using hb
    have hle : s1.heap.objs.size ≤ b := by
      rcases e' with rfl | rfl
      · exact Nat.le_add_right _ _
      · exact Nat.le_refl _
    exact I1.fpOk hle (I1.hok.fresh hle)
end Ea
set_option Elab.async false
set_option linter.all false
set_option maxRecDepth 100000
set_option maxHeartbeats 1000000
/-! zip of a tuple and a list. -/
namespace Ea
open PySem PySem.Spec PyProof.Rows L2
/-- the tuple at a and the list at b, the items in new pairs -/
def ItzM (K : PySem.W.Frag) (a b : Addr) : It :=
  ⟨fun i H => ∃ (xs ys : List V) (x y : V), SqT K H a xs ∧ SqL K H b ys ∧ xs[i]? = some x ∧ ys[i]? = some y,
    fun i H v H' => ∃ T x y, v = .ref T ∧ H T = none ∧ H' = upd H T (.tup [x, y]) ∧ (∀ xs, SqT K H a xs → xs[i]? = some x) ∧ ∀ ys, SqL K H b ys → ys[i]? = some y,
    fun i H => ∃ xs ys : List V, SqT K H a xs ∧ SqL K H b ys ∧ i ≤ xs.length ∧ i ≤ ys.length ∧ (i = xs.length ∨ i = ys.length)⟩
structure Cells (z TI TO i1 i2 : Addr) : Prop where
  TIz : TI ≠ z
  TOz : TO ≠ z
  TITO : TI ≠ TO
  TIi1 : TI ≠ i1
  TIi2 : TI ≠ i2
  TOi1 : TO ≠ i1
  TOi2 : TO ≠ i2
  zi1 : z ≠ i1
  zi2 : z ≠ i2
  i12 : i1 ≠ i2
theorem cells_sep {h : Heap} {z TI TO i1 i2 a b : Addr} {k1 k2 : Nat} {xs ys : Array Value} {x y : Value} (C : Cells z TI TO i1 i2) (hz : IsZip h z TI TO .none) (hTO : IsTupOf2 h TO x y)
    (h1 : h.IsTupleIter i1 a k1) (h2 : h.IsListIter i2 b k2) (ha : h.IsTuple a xs) (hb : h.IsList b ys) (hTa : TO ≠ a) : ZipSep2 z TI TO i1 i2 [i1, a] [i2, b] ∧ a ≠ i1 ∧ b ≠ i2 := by
  obtain ⟨o1, e1, c1, _⟩ := h1
  obtain ⟨o2, e2, c2, _⟩ := h2
  obtain ⟨oa, ea, ca, _⟩ := ha
  obtain ⟨ob, eb, cb, _⟩ := hb
  have nza : z ≠ a := apart hz ea (by rw [ca]; show Value.type "zip" ≠ Value.type "tuple"; decide)
  have nzb : z ≠ b := apart hz eb (by rw [cb]; show Value.type "zip" ≠ Value.type "list"; decide)
  have nTb : TO ≠ b := apart hTO eb (by rw [cb]; show Value.type "tuple" ≠ Value.type "list"; decide)
  have n1b : i1 ≠ b := apart e1 eb (by rw [c1, cb]; decide)
  have n2a : i2 ≠ a := apart e2 ea (by rw [c2, ca]; decide)
  have na1 : a ≠ i1 := apart ea e1 (by rw [ca, c1]; decide)
  have nb2 : b ≠ i2 := apart eb e2 (by rw [cb, c2]; decide)
  refine ⟨{ TIz := C.TIz, TOz := C.TOz, TITO := C.TITO, TIi1 := C.TIi1, mem1 := by simp, zf1 := ?_, Tf1 := ?_, TIi2 := C.TIi2, mem2 := by simp, zf2 := ?_, Tf2 := ?_, sep1_2 := ?_, sep2_1 := ?_ }, na1, nb2⟩
  · simp [C.zi1, nza]
  · simp [C.TOi1, hTa]
  · simp [C.zi2, nzb]
  · simp [C.TOi2, nTb]
  · simp [C.i12, n1b]
  · simp [C.i12.symm, n2a]
theorem turn_zipM {P : Program} {w : World} {K : PySem.W.Frag} {elts : List Expr} {kk : Nat} {tpos : Pos} {a b z TI TO i1 i2 : Addr} (C : Cells z TI TO i1 i2) (hTa : TO ≠ a) :
    L2.Turn P w K (.Tuple elts kk tpos) (ItzM K a b) [z, TI, TO, i1, i2] z (fun i h => IsZip h z TI TO .none ∧ IsTupOf2 h TI (.ref i1) (.ref i2) ∧ (∃ x y, IsTupOf2 h TO x y) ∧ h.IsTupleIter i1 a i ∧ h.IsListIter i2 b i) where
  mem := by simp
  obj := fun i h st c hc => by
    obtain ⟨hz, hTI, ⟨x, y, hTO⟩, ⟨o1, e1, _, d1⟩, ⟨o2, e2, _, d2⟩⟩ := st
    have e' : c = z ∨ c = TI ∨ c = TO ∨ c = i1 ∨ c = i2 := by simpa using hc
    rcases e' with rfl | rfl | rfl | rfl | rfl
    · exact ⟨_, hz, fun v q => nomatch q⟩
    · exact ⟨_, hTI, fun v q => nomatch q⟩
    · exact ⟨_, hTO, fun v q => nomatch q⟩
    · exact ⟨o1, e1, fun v q => by rw [d1] at q; cases q⟩
    · exact ⟨o2, e2, fun v q => by rw [d2] at q; cases q⟩
  keep := fun i h h' st k => by
    obtain ⟨hz, hTI, ⟨x, y, hTO⟩, h1, h2⟩ := st
    exact ⟨k z (by simp) _ hz, k TI (by simp) _ hTI, ⟨x, y, k TO (by simp) _ hTO⟩, h1.at fun o q => k i1 (by simp) o q, h2.at fun o q => k i2 (by simp) o q⟩
  item := by
    intro X hP hw hK hc i pins s σ H E I hf st hg
    subst hP hw hK
    obtain ⟨hz, hTI, ⟨x0, y0, hTO⟩, h1, h2⟩ := st
    obtain ⟨xs, ys, x, y, hqx, hqy, hx, hy⟩ := hg
    obtain ⟨its, rv, p, _⟩ := I.tuple hqx
    obtain ⟨its2, rv2, p2, _⟩ := I.list hqy
    obtain ⟨u, hu, ru⟩ := rv.get hx
    obtain ⟨u2, hu2, ru2⟩ := rv2.get hy
    have pt : s.heap.IsTuple a its.toArray := p
    obtain ⟨S, na1, nb2⟩ := cells_sep C hz hTO h1 h2 pt p2.isList hTa
    have hzl : z < s.heap.objs.size := Heap.lt_size hz
    have hlt1 : i < its.toArray.size := by
      have := (List.getElem?_eq_some_iff.mp hu).1
      simpa using this
    have hlt2 : i < its2.toArray.size := by
      have := (List.getElem?_eq_some_iff.mp hu2).1
      simpa using this
    refine wpAny_pyNext_zipD2_item S (Draws.tuple (prog := X.prog) (w := X.w) (A := X.A.in1) (I.ok.hd hc) i1 a na1 its.toArray) (Draws.list (prog := X.prog) (w := X.w) (A := X.A.in1) (I.ok.hd hc) i2 b nb2 its2.toArray) hz hTI hTO ⟨h1, pt⟩ ⟨h2, p2.isList⟩ hlt1 hlt2 fun x1 x2 h' tk hP1 hP2 z' TO' st1 st2 hT hsz hk => ?_
    obtain rfl : u = x1 := by
      have q : its[i]? = some x1 := by simpa using hP1
      rw [hu] at q
      exact Option.some.inj q
    obtain rfl : u2 = x2 := by
      have q : its2[i]? = some x2 := by simpa using hP2
      rw [hu2] at q
      exact Option.some.inj q
    refine ⟨_, rfl, wpAny_letOwnedTupleGo_zip (s := { s with heap := h', toks := tk }) z' fun h'' z'' sb => ?_⟩
    have hT2 : h''.get? s.heap.objs.size = some { cls := .type "tuple", data := .seq #[u, u2] } := (sb.2 _ (Nat.ne_of_gt hzl)).trans hT
    have new : ObjOk X.prog X.w (upd H s.heap.objs.size (.tup [x, y])) h'' s.heap.objs.size (.tup [x, y]) :=
      ⟨by show 2 ≤ sizeLine; decide, [u, u2], .cons ru (.cons ru2 .nil), ⟨_, hT2, rfl, _, rfl⟩⟩
    have I1 : Inv X pins σ (upd H s.heap.objs.size (.tup [x, y])) { s with heap := h'', toks := tk } :=
      I.turnedNew (ch := [z, TI, TO, i1, i2]) (fun c o hb q => (sb.2 c (fun q' => hb (by simp [q']))).trans (hk c o (fun q' => hb (by simp [q'])) (fun q' => hb (by simp [q'])) (fun q' => hb (by simp [q'])) (fun q' => hb (by simp [q'])) q)) hf (Nat.le_refl _) new
    refine ⟨.ref s.heap.objs.size, _, I1, rfl, ⟨_, x, y, rfl, I.hok.fresh (Nat.le_refl _), rfl, fun l hl => by rw [I.tuple_inj hl hqx]; exact hx, fun l hl => by rw [I.list_inj hl hqy]; exact hy⟩, ⟨z'', ?_, ⟨u, u2, ?_⟩, ?_, ?_⟩, fun c hcm => ?_⟩
    · exact (sb.2 _ C.TIz).trans (hk _ _ C.TIz C.TITO C.TIi1 C.TIi2 hTI)
    · exact (sb.2 _ C.TOz).trans TO'
    · exact st1.1.at fun o q => (sb.2 _ C.zi1.symm).trans q
    · exact st2.1.at fun o q => (sb.2 _ C.zi2.symm).trans q
    · have hlt : c < s.heap.objs.size := by
        have e' : c = z ∨ c = TI ∨ c = TO ∨ c = i1 ∨ c = i2 := by simpa using hcm
        rcases e' with rfl | rfl | rfl | rfl | rfl
        · exact hzl
        · exact Heap.lt_size hTI
        · exact Heap.lt_size hTO
        · obtain ⟨_, e1, _⟩ := h1
          exact Heap.lt_size e1
        · obtain ⟨_, e2, _⟩ := h2
          exact Heap.lt_size e2
      rw [upd_ne (Nat.ne_of_lt hlt)]
      exact (hf c hcm).1
  done := by
    intro X hP hw hK hc i pins s σ H E I hf st hg
    subst hP hw hK
    obtain ⟨hz, hTI, ⟨x0, y0, hTO⟩, h1, h2⟩ := st
    obtain ⟨xs, ys, hqx, hqy, l1, l2, hend⟩ := hg
    obtain ⟨its, rv, p, _⟩ := I.tuple hqx
    obtain ⟨its2, rv2, p2, _⟩ := I.list hqy
    have pt : s.heap.IsTuple a its.toArray := p
    obtain ⟨S, na1, nb2⟩ := cells_sep C hz hTO h1 h2 pt p2.isList hTa
    have k1 := rv.length
    have k2 := rv2.length
    have m1 : i ≤ its.toArray.size := by rw [List.size_toArray]; omega
    have m2 : i ≤ its2.toArray.size := by rw [List.size_toArray]; omega
    have m3 : i = its.toArray.size ∨ i = its2.toArray.size := by rw [List.size_toArray, List.size_toArray]; omega
    exact wpAny_pyNext_zipD2_end S (Draws.tuple (prog := X.prog) (w := X.w) (A := X.A.in1) (I.ok.hd hc) i1 a na1 its.toArray) (Draws.list (prog := X.prog) (w := X.w) (A := X.A.in1) (I.ok.hd hc) i2 b nb2 its2.toArray) hz hTI hTO ⟨h1, pt⟩ ⟨h2, p2.isList⟩ m1 m2 m3 fun h' tk hk => ⟨rfl, I.turnedL (t' := tk) (ch := [z, TI, TO, i1, i2]) (fun c o hb q =>
      hk c o (fun q' => hb (by simp [q'])) (fun q' => hb (by simp [q'])) (fun q' => hb (by simp [q'])) (fun q' => hb (by simp [q'])) q) hf⟩
  self := fun A i s Q E st h => wpAny_pyIter_zip st.1 h
def iZipM (K : PySem.W.Frag) (ta : TA) : TI := fun σ H R => ta σ H fun vs H1 => ∃ a b xs ys, vs = [.ref a, .ref b] ∧ SqT K H1 a xs ∧ SqL K H1 b ys ∧ R (ItzM K a b) H1
theorem pi_zipM {X : Cx} {K : PySem.W.Frag} (hKK : X.K = K) {e e2 : Expr} {ta : TA} {p pos tpos : Pos} {elts : List Expr} {kk : Nat} (hg : L2.Gl X "zip") (hm : X.mg "zip" = none) (ha : PA X [e, e2] ta)
    (hs : starEach [e, e2] X.env = (false, eval e X.env) :: starEach [e2] X.env := by rfl) (hpl : (backTo pos (starEach [e2] X.env)).any (·.1) = false := by rfl) :
    PI X (.Tuple elts kk tpos) (.Call (.Name "zip" p) [e, e2] [] pos) (iZipM K ta) := by
  subst hKK
  refine ⟨fun pins s σ H R I h => ?_⟩
  refine Call_ (ld_blt I hg hm PyProof.Rows.boot_zip (PyProof.Rows.callWith_type1 (thn (ha.run pos pins s σ H _ I h) fun us s1 ⟨vs, H1, I1, r1, q1⟩ => ?_) hs hpl))
  obtain ⟨a, b, xs, ys, ex, hqx, hqy, q⟩ := q1
  subst ex
  cases r1 with
  | cons r rr =>
    cases rr with
    | cons r' rr =>
      cases rr
      cases r
      cases r'
      obtain ⟨its, rv, p1, _⟩ := I1.tuple hqx
      obtain ⟨its2, rv2, p2, _⟩ := I1.list hqy
      obtain ⟨o1, ho1, _⟩ := id p1
      refine zip_begins2 (begins_tuple a its.toArray) (begins_list b its2.toArray) (show s1.heap.IsTuple a its.toArray from p1) p2.isList fun h' hz hTI hTO h1 h2 hsz hk => wpAny_pyIter_zip hz ?_
      have I2 : Inv X pins σ H1 { s1 with heap := h' } := I1.kept (t' := s1.toks) hk
      have C : Cells (s1.heap.objs.size + 4) (s1.heap.objs.size + 2) (s1.heap.objs.size + 3) s1.heap.objs.size (s1.heap.objs.size + 1) := by
        constructor <;> (intro e; have e : (_ : Nat) = _ := e; omega)
      have hTa : (s1.heap.objs.size + 3 : Nat) ≠ a := Nat.ne_of_gt (Nat.lt_of_lt_of_le (Heap.lt_size ho1) (Nat.le_add_right _ _))
      refine ⟨s1.heap.objs.size + 4, [s1.heap.objs.size + 4, s1.heap.objs.size + 2, s1.heap.objs.size + 3, s1.heap.objs.size, s1.heap.objs.size + 1], _, _, H1, rfl, I2, turn_zipM C hTa, ⟨hz, hTI, ⟨_, _, hTO⟩, ⟨_, h1, rfl, rfl⟩, ⟨_, h2, rfl, rfl⟩⟩, fun c hcm => ?_, q⟩
      have e' : c = s1.heap.objs.size + 4 ∨ c = s1.heap.objs.size + 2 ∨ c = s1.heap.objs.size + 3 ∨ c = s1.heap.objs.size ∨ c = s1.heap.objs.size + 1 := by simpa using hcm
      have hle : s1.heap.objs.size ≤ c := by
        rcases e' with rfl | rfl | rfl | rfl | rfl
        · exact Nat.le_add_right _ _
        · exact Nat.le_add_right _ _
        · exact Nat.le_add_right _ _
        · exact Nat.le_refl _
        · exact Nat.le_add_right _ _
      exact I1.fpOk hle (I1.hok.fresh hle)
end Ea
set_option Elab.async false
set_option linter.all false
set_option maxRecDepth 100000
set_option maxHeartbeats 400000
/-! Comprehensions over pairs, where nothing else is changed. -/
namespace Ea
open PySem PySem.Spec PyProof.Rows L2
section
variable {K : PySem.W.Frag} {σ : L2.St} {H : Hp} {Q : VK} {tt : TT} {te : TE} {vs : List Nat} {j1 j2 k : Nat} {σx : V → V → L2.St} {a b : Addr} {n : Nat} {px py : Nat → V} {f : Nat → Bool} {g : Nat → V} {J : It}
theorem range_snoc (f : Nat → Bool) (g : Nat → V) (i : Nat) : ((List.range (i + 1)).filter f).map g = ((List.range i).filter f).map g ++ (if f i = true then [g i] else []) := by
  rw [List.range_succ, List.filter_append, List.map_append]
  congr 1
  by_cases h : f i = true
  · rw [if_pos h, List.filter_cons, if_pos h] <;> rfl
  · rw [if_neg h, List.filter_cons, if_neg h] <;> rfl
abbrev TurnP (H : Hp) (tt : TT) (te : TE) (σx : V → V → L2.St) (px py : Nat → V) (f : Nat → Bool) (g : Nat → V) (i : Nat) : Prop :=
  ∀ (H' : Hp) (N : VK) (S : Hp → Prop), Evl.Ex H H' → (f i = true → ∀ H3, Evl.Ex H' H3 → N (g i) H3) → (f i = false → ∀ H3, Evl.Ex H' H3 → S H3) →
    tt (σx (px i) (py i)) H' fun b H2 => if b = true then te (σx (px i) (py i)) H2 N else S H2
theorem lc_pairs (hk : k = 2) (hz : n ≤ 40000) (go : ∀ i H', Evl.Ex H H' → i < n → J.go i H') (stop : ∀ H', Evl.Ex H H' → J.stop n H')
    (yld : ∀ i H1 x H2, Evl.Ex H H1 → i < n → J.yld i H1 x H2 → ∃ T, x = .ref T ∧ H1 T = none ∧ H2 = upd H1 T (.tup [px i, py i]))
    (hσ : ∀ x y, ((wipe σ vs).set j1 (some x)).set j2 (some y) = σx x y) (hw : ∀ x y, wipe (σx x y) vs = wipe σ vs)
    (hs : ∀ i, i < n → TurnP H tt te σx px py f g i)
    (hd : ∀ D H', Evl.Ex H H' → H D = none → H' D = some (.lst (((List.range n).filter f).map g)) → Q (.ref D) H') : LcR (gTup K k (gCons (gName j1) (gCons (gName j2) gNil))) tt te vs σ Q J H := fun D hn => by
  refine ⟨fun i m H' => i + m = n ∧ Evl.Ex H H' ∧ H' D = some (.lst (((List.range i).filter f).map g)), ⟨n, by omega, Evl.Ex.new hn, upd_same⟩, fun i m H' hW => ?_⟩
  obtain ⟨em, e, ed⟩ := hW
  have hlen : (((List.range i).filter f).map g).length < 100000 := by
    rw [List.length_map]
    have h1 := List.length_filter_le f (List.range i)
    rw [List.length_range] at h1
    omega
  by_cases hi : i < n
  · refine .inr ⟨go i H' e hi, fun H3 => Evl.Ex H H3 ∧ H3 D = some (.lst (((List.range (i + 1)).filter f).map g)), fun H3 h3 => ⟨m - 1, by omega, by omega, h3⟩, fun x H2 hy => ?_⟩
    obtain ⟨T, rfl, hT, rfl⟩ := yld i H' x H2 e hi hy
    have eT := Evl.Ex.new (o := .tup [px i, py i]) hT
    refine rd_gtup2 (x := px i) (y := py i) (SqT.of upd_same) hk (hσ _ _) ⟨hw _ _, hs i hi _ _ _ (e.trans eT) (fun hf H3 e3 => ?_) fun hf H3 e3 => ?_⟩
    · refine ⟨_, e3 D _ (eT D _ ed), Evl.sz_lt hlen, Evl.Ex.mut ((e.trans eT).trans e3) hn, ?_⟩
      rw [upd_same, range_snoc, if_pos hf]
    · refine ⟨(e.trans eT).trans e3, ?_⟩
      rw [range_snoc, if_neg (by rw [hf]; decide), List.append_nil]
      exact e3 D _ (eT D _ ed)
  · have hin : i = n := by omega
    subst hin
    exact .inl ⟨stop H' e, hd D H' e hn ed⟩
theorem lc_enumT {xs : List V} (hk : k = 2) (hx : SqT K H a xs) (hz : xs.length ≤ 40000) (hσ : ∀ x y, ((wipe σ vs).set j1 (some x)).set j2 (some y) = σx x y) (hw : ∀ x y, wipe (σx x y) vs = wipe σ vs)
    (f : Nat → Bool) (g : Nat → V) (hs : ∀ i, i < xs.length → TurnP H tt te σx (fun i => .int (i : Nat)) (fun i => xs.getD i .non) f g i)
    (hd : ∀ D H', Evl.Ex H H' → H D = none → H' D = some (.lst (((List.range xs.length).filter f).map g)) → Q (.ref D) H') : LcR (gTup K k (gCons (gName j1) (gCons (gName j2) gNil))) tt te vs σ Q (IteT K a) H :=
  lc_pairs hk hz (fun i H' e hi => ⟨xs, xs[i], Evl.ex_t e hx, List.getElem?_eq_getElem hi⟩) (fun H' e => ⟨xs, Evl.ex_t e hx, rfl⟩)
    (fun i H1 x H2 e hi hy => by
      obtain ⟨T, y, rfl, hT, rfl, h⟩ := hy
      have := h xs (Evl.ex_t e hx)
      refine ⟨T, rfl, hT, ?_⟩
      show _ = upd H1 T (.tup [.int (i : Nat), xs.getD i .non])
      rw [List.getD_eq_getElem?_getD, this] <;> rfl) hσ hw hs hd
theorem lc_enumL {xs : List V} (hk : k = 2) (hx : SqL K H a xs) (hz : xs.length ≤ 40000) (hσ : ∀ x y, ((wipe σ vs).set j1 (some x)).set j2 (some y) = σx x y) (hw : ∀ x y, wipe (σx x y) vs = wipe σ vs)
    (f : Nat → Bool) (g : Nat → V) (hs : ∀ i, i < xs.length → TurnP H tt te σx (fun i => .int (i : Nat)) (fun i => xs.getD i .non) f g i)
    (hd : ∀ D H', Evl.Ex H H' → H D = none → H' D = some (.lst (((List.range xs.length).filter f).map g)) → Q (.ref D) H') : LcR (gTup K k (gCons (gName j1) (gCons (gName j2) gNil))) tt te vs σ Q (Ite K a) H :=
  lc_pairs hk hz (fun i H' e hi => ⟨xs, xs[i], Evl.ex_l e hx, List.getElem?_eq_getElem hi⟩) (fun H' e => ⟨xs, Evl.ex_l e hx, Nat.le_refl _⟩)
    (fun i H1 x H2 e hi hy => by
      obtain ⟨T, y, rfl, hT, rfl, h⟩ := hy
      have := h xs (Evl.ex_l e hx)
      refine ⟨T, rfl, hT, ?_⟩
      show _ = upd H1 T (.tup [.int (i : Nat), xs.getD i .non])
      rw [List.getD_eq_getElem?_getD, this] <;> rfl) hσ hw hs hd
theorem lc_zipM {xs ys : List V} (hk : k = 2) (hx : SqT K H a xs) (hy : SqL K H b ys) (hl : xs.length = ys.length) (hz : xs.length ≤ 40000) (hσ : ∀ x y, ((wipe σ vs).set j1 (some x)).set j2 (some y) = σx x y) (hw : ∀ x y, wipe (σx x y) vs = wipe σ vs)
    (f : Nat → Bool) (g : Nat → V) (hs : ∀ i, i < xs.length → TurnP H tt te σx (fun i => xs.getD i .non) (fun i => ys.getD i .non) f g i)
    (hd : ∀ D H', Evl.Ex H H' → H D = none → H' D = some (.lst (((List.range xs.length).filter f).map g)) → Q (.ref D) H') : LcR (gTup K k (gCons (gName j1) (gCons (gName j2) gNil))) tt te vs σ Q (ItzM K a b) H :=
  lc_pairs hk hz (fun i H' e hi => ⟨xs, ys, xs[i], ys[i]'(hl ▸ hi), Evl.ex_t e hx, Evl.ex_l e hy, List.getElem?_eq_getElem hi, List.getElem?_eq_getElem (hl ▸ hi)⟩)
    (fun H' e => ⟨xs, ys, Evl.ex_t e hx, Evl.ex_l e hy, Nat.le_refl _, by omega, .inl rfl⟩)
    (fun i H1 x H2 e hi hq => by
      obtain ⟨T, u, v, rfl, hT, rfl, h1, h2⟩ := hq
      have q1 := h1 xs (Evl.ex_t e hx)
      have q2 := h2 ys (Evl.ex_l e hy)
      refine ⟨T, rfl, hT, ?_⟩
      show _ = upd H1 T (.tup [xs.getD i .non, ys.getD i .non])
      rw [List.getD_eq_getElem?_getD, q1, List.getD_eq_getElem?_getD, q2] <;> rfl) hσ hw hs hd
variable {R : It → Hp → Prop} {ta : TA}
theorem rd_iRng2 (h : ta σ H fun vs H1 => ∃ i j : Int, vs = [.int i, .int j] ∧ (-(2 ^ 62) ≤ i ∧ i < 2 ^ 62 ∧ -(2 ^ 62) ≤ j ∧ j < 2 ^ 62) ∧ R (Itr i (j - i).toNat) H1) : iRng2 ta σ H R := h
theorem rd_iEnumT (h : ta σ H fun vs H1 => ∃ a xs, vs = [.ref a] ∧ SqT K H1 a xs ∧ R (IteT K a) H1) : iEnumT K ta σ H R := h
theorem rd_iEnum (h : ta σ H fun vs H1 => ∃ a xs, vs = [.ref a] ∧ SqL K H1 a xs ∧ R (Ite K a) H1) : iEnum K ta σ H R := h
theorem rd_iZipM (h : ta σ H fun vs H1 => ∃ a b xs ys, vs = [.ref a, .ref b] ∧ SqT K H1 a xs ∧ SqL K H1 b ys ∧ R (ItzM K a b) H1) : iZipM K ta σ H R := h
end
section
variable {X : Cx} {K : PySem.W.Frag}
theorem pi_enumL (hKK : X.K = K) {e : Expr} {ta : TA} {p pos tpos : Pos} {elts : List Expr} {kk : Nat} (hg : L2.Gl X "enumerate") (hm : X.mg "enumerate" = none) (ha : PA X [e] ta) (hs : starEach [e] X.env = [(false, eval e X.env)] := by rfl) :
    PI X (.Tuple elts kk tpos) (.Call (.Name "enumerate" p) [e] [] pos) (iEnum K ta) := hKK ▸ pi_enum hg hm ha hs
theorem pgk_tup (hKK : X.K = K) {pos : Pos} {es : List Expr} {k : Nat} {t : TGs} {n : Nat} (hc : X.calm = true) (h : PGs X es t)
    (hn : (assignEach es X.env).length = n := by rfl) (hst : (assignEach es X.env).findIdx? (·.1) = none := by rfl) : PG X (.Tuple es k pos) (gTup K n t) := hKK ▸ pg_tup hc h hn hst
end
end Ea
set_option Elab.async false
set_option linter.all false
set_option maxRecDepth 100000
set_option maxHeartbeats 400000
/-! sorted by key=abs, a tuple whose object is known, dict of it, all, comprehensions and loops over tuples of pairs. -/
namespace Ea
open PySem PySem.Spec PyProof.Rows L2

/-! ### sorted(xs, key=abs) of a list of ints -/
def rSortAbs (K : PySem.W.Frag) : List V → Hp → VK → Prop := fun xs H Q => ∃ (a : Addr) (ns : List Int), xs = [.ref a] ∧ SqL K H a (ns.map V.int) ∧
  ∀ (ms : List Int) (p : Addr), ms.Perm ns → ms.Pairwise (fun x y => x.natAbs ≤ y.natAbs) → H p = none → Q (.ref p) (upd H p (.lst (ms.map V.int)))
theorem each_of_ints : ∀ {its : List Value} {ns : List Int}, Vals (ns.map V.int) its → PySem.W.EachIs (fun v x => ∃ t, v = Value.int x t) its ns
  | _, [], r => by
    cases r
    exact .nil
  | _, n :: ns, r => by
    rw [List.map_cons] at r
    cases r with
    | cons h t => exact .cons h (each_of_ints t)
theorem vals_of_each : ∀ {its : List Value} {ns : List Int}, PySem.W.EachIs (fun v x => ∃ t, v = Value.int x t) its ns → Vals (ns.map V.int) its
  | _, _, .nil => .nil
  | _, _, .cons h t => .cons h (vals_of_each t)
theorem sort_absK {X : Cx} {K : PySem.W.Frag} (hK : X.K = K) (hu : X.A.units + 64 < cLine) {pins : List (Addr × Obj)} {s : Shared} {σ : L2.St} {H : Hp} {xs : List V} {us : List Value} {Q : VK}
    (I : Inv X pins σ H s) (r : Vals xs us) (h : rSortAbs K xs H Q) : wpAny (model X.prog X.w) X.A (call (.builtin "sorted") us [(Str.ofString "key", .builtin "abs")]) (EP X pins σ Q) X.xe s := by
  subst hK
  obtain ⟨a, ns, rfl, hs, q⟩ := h
  rw [Vals.ref1 r]
  obtain ⟨its, rv, hl, hz⟩ := I.list hs
  have hlen : ns.length ≤ sizeLine := by
    rw [List.length_map] at hz
    exact hz
  refine PySem.W.sorted_key_data (β := Int) (R := fun v x => ∃ t, v = Value.int x t) (bs := ns) (b := false) (f := .builtin "abs") (fun n => .int (n.natAbs : Int)) hl.isList (each_of_ints rv) ?_ ?_ hlen (fun x _ => ?_)
    (PyProof.Rows.ksk_s1 _ _) (fun _ => PyProof.Rows.ksk_l1 _ _) (fun x => PyProof.Rows.ksk_t4 "abs" x) (fun v x hv hx h tk kp => ?_) fun out c h' tk kp hf hD ho he => ?_
  · intro d hd d' hd'
    obtain ⟨x, _, rfl⟩ := List.mem_map.mp hd
    obtain ⟨y, _, rfl⟩ := List.mem_map.mp hd'
    rfl
  · refine .inr fun d hd => ?_
    obtain ⟨x, _, rfl⟩ := List.mem_map.mp hd
    exact ⟨nofun, nofun⟩
  · have e : (PyData.int (x.natAbs : Int)).depth = 0 := rfl
    omega
  · obtain ⟨t, rfl⟩ := hv
    refine call_abs_int fun u tk' => ⟨h, tk', rfl, fun _ _ e => e, ?_⟩
    have e : (if x < 0 then -x else x) = (x.natAbs : Int) := by split <;> omega
    rw [e]
    exact .int _ _
  · rw [PySem.W.dataLe_int (β := Int) fun n => (n.natAbs : Int)] at he
    generalize hm : ns.mergeSort (fun a b => decide ((a.natAbs : Int) ≤ (b.natAbs : Int))) = ms at he
    have pm : ms.Perm ns := hm ▸ List.mergeSort_perm _ _
    have so : ms.Pairwise fun x y => x.natAbs ≤ y.natAbs := by
      rw [← hm]
      refine (List.pairwise_mergeSort (le := fun a b : Int => decide ((a.natAbs : Int) ≤ (b.natAbs : Int))) (fun a b c h1 h2 => ?_) (fun a b => ?_) ns).imp fun {a b} h => ?_
      · have := of_decide_eq_true h1
        have := of_decide_eq_true h2
        exact decide_eq_true (by omega)
      · rw [Bool.or_eq_true, decide_eq_true_eq, decide_eq_true_eq]
        omega
      · have := of_decide_eq_true h
        omega
    have hl2 : (ms.map V.int).length ≤ sizeLine := by
      rw [List.length_map, pm.length_eq]
      exact hlen
    exact ⟨.ref _, upd H (s.heap.objs.size + 1) (.lst (ms.map V.int)), I.laid (t' := tk) kp (Nat.le_succ _) ⟨hl2, out, c, vals_of_each he, hD⟩, rfl, q _ _ pm so (I.hok.fresh (Nat.le_succ _))⟩
theorem pe_sortAbs {X : Cx} {K : PySem.W.Frag} {e : Expr} {ta : TA} {p pos kpos apos : Pos} (hK : X.K = K) (hu : X.A.units + 64 < cLine) (hg : L2.Gl X "sorted") (hm : X.mg "sorted" = none) (hga : L2.Gl X "abs") (hma : X.mg "abs" = none) (ha : PA X [e] ta)
    (he : backTo pos (starEach [e] X.env) = (false, eval e X.env) :: backTo pos (starEach [] X.env) := by rfl) (hpl : (backTo pos (starEach [e] X.env)).any (·.1) = false := by rfl)
    (hall : (backToKw pos (keywordEach [⟨some "key", .Name "abs" apos, kpos⟩] X.env)).all (·.1.isSome) = true := by rfl) (hnone : (backToKw pos (keywordEach [⟨some "key", .Name "abs" apos, kpos⟩] X.env)).any (·.1.isNone) = false := by rfl) (hks : (backToKw pos (keywordEach [⟨some "key", .Name "abs" apos, kpos⟩] X.env)).filterMap (·.1) = [Str.ofString "key"] := by rfl) :
    PE X (.Call (.Name "sorted" p) [e] [⟨some "key", .Name "abs" apos, kpos⟩] pos) (tCB (rSortAbs K) ta) := by
  refine ⟨fun pins s σ H Q I h => ?_⟩
  refine wpAny_Call_Name_kw (ld_blt (u := .builtin "sorted") I hg hm rfl ?_)
  refine PyProof.Rows.callWith_kw (thn (ha.run pos pins s σ H _ I h) fun us s1 ⟨vs, H1, I1, r1, q1⟩ => ?_) he hpl hall hnone
  rw [hks]
  show wpAny _ _ (evalAll [do let v ← eval (.Name "abs" apos) X.env; standAt pos; pure v]) _ _ s1
  refine wpAny_evalAll_cons (wpAny_bind (ld_blt (u := .builtin "abs") I1 hga hma rfl (wpAny_bind (wpAny_standAt (wpAny_pure ?_)))))
  exact wpAny_evalAll_nil (sort_absK hK hu I1 r1 q1)
theorem rd_sortAbs {K : PySem.W.Frag} {H : Hp} {Q : VK} {a : Addr} {ns : List Int} (s : SqL K H a (ns.map V.int))
    (h : ∀ (ms : List Int) (p : Addr), ms.Perm ns → ms.Pairwise (fun x y => x.natAbs ≤ y.natAbs) → H p = none → Q (.ref p) (upd H p (.lst (ms.map V.int)))) : rSortAbs K [.ref a] H Q := ⟨a, ns, rfl, s, h⟩

/-! ### a tuple whose object is known -/
def Fz (H : Hp) (a : Addr) (xs : List V) : Prop := ∃ o, H a = some (.frz o (.tup xs)) ∧ o.dict = none
theorem Fz.sq {K : PySem.W.Frag} {H : Hp} {a : Addr} {xs : List V} (h : Fz H a xs) : SqT K H a xs := by
  obtain ⟨o, h, _⟩ := h
  exact .inl (.inr ⟨o, h⟩)
def rTupFz (K : PySem.W.Frag) : List V → Hp → VK → Prop := fun xs H Q => ∃ p ys, xs = [.ref p] ∧ SqL K H p ys ∧ ∀ (l : Addr) (o : Obj), H l = none → o.dict = none → Q (.ref l) (upd H l (.frz o (.tup ys)))
theorem c_tupFz {X : Cx} {K : PySem.W.Frag} (hK : X.K = K) : CallR X (.type "tuple") (rTupFz K) := by
  subst hK
  intro pins s σ H xs us Q I r h
  obtain ⟨p, ys, rfl, hq, q⟩ := h
  obtain ⟨u, rfl, rx⟩ := vals1 r
  cases rx
  obtain ⟨its, r', pl, hz⟩ := I.list hq
  have hlen := r'.length
  refine call_tuple_list pl.isList (fun h' kp => ?_) (by simp only [List.size_toArray] <;> omega)
  have I1 : Inv X pins σ H { s with heap := h' } := I.kept (t' := s.toks) kp
  have I2 : Inv X pins σ (upd H h'.objs.size (.frz { cls := .type "tuple", data := .seq its.toArray } (.tup ys))) { s with heap := h'.push { cls := .type "tuple", data := .seq its.toArray } } :=
    I1.laid (t' := s.toks) (fun b o e => Heap.get?_push_of_some _ e) (Nat.le_refl _) (show ObjOk X.prog X.w _ _ _ (.frz _ (.tup ys)) from ⟨Heap.get?_push_size _ rfl, hz, its, r', IsTup.new _ _⟩)
  exact ⟨.ref h'.objs.size, _, I2, rfl, q _ _ (I1.hok.fresh (Nat.le_refl _)) rfl⟩
theorem rd_tupFz {K : PySem.W.Frag} {H : Hp} {Q : VK} {p : Addr} {ys : List V} (s : SqL K H p ys) (h : ∀ (l : Addr) (o : Obj), H l = none → o.dict = none → Q (.ref l) (upd H l (.frz o (.tup ys)))) : rTupFz K [.ref p] H Q := ⟨p, ys, rfl, s, h⟩

/-! ### dict of such a tuple of pairs -/
def rDictFz (K : PySem.W.Frag) : List V → Hp → VK → Prop := fun xs H Q => ∃ (a : Addr) (ps : List Addr) (kvs : List (Key × V)), xs = [.ref a] ∧ Fz H a (ps.map V.ref) ∧ Paired (fun p kv => SqT K H p [kV kv.1, kv.2]) ps kvs ∧
    ∀ p, H p = none → Q (.ref p) (upd H p (.dK (mergeK [] kvs)))
theorem c_dictFz {X : Cx} {K : PySem.W.Frag} (hK : X.K = K) (hcalm : X.calm = true) : CallR X (.type "dict") (rDictFz K) := by
  subst hK
  intro pins s σ H xs us Q I r q
  obtain ⟨a, ps, kvs, ex, ⟨o, ho, hod⟩, hp, q⟩ := q
  subst ex
  obtain ⟨u, eu, rx⟩ := vals1 r
  subst eu
  cases rx
  obtain ⟨hoa, hz, its, rv, pl⟩ := I.hok a _ ho
  have ei := refs_at rv
  subst ei
  rw [List.length_map] at hz
  obtain ⟨prs, rel, hl, hpr⟩ := pairs_of I hp
  obtain ⟨o2, ho2, hc, n, hdat⟩ := pl
  rw [hoa] at ho2
  cases ho2
  have hps : (prs.map fun q => ((default : Value), q.2)).length = prs.length := List.length_map _
  have hun : ∀ (j : Nat) (q : Key × Value), prs[j]? = some q → ∃ (b : Addr) (u : Value), ps[j]? = some b ∧ IsTup s.heap b #[u, q.2] ∧ keyIs q.1 u = true := hpr
  -- the pairs as values
  have hex : ∃ pv : List (Value × Value), pv.length = prs.length ∧ ∀ (j : Nat) (k v : Value), pv[j]? = some (k, v) → ∃ b q, prs[j]? = some q ∧ q.2 = v ∧ ps[j]? = some b ∧ IsTup s.heap b #[k, v] ∧ keyIs q.1 k = true := by
    clear rel hps
    have key : ∀ (m : Nat), m ≤ prs.length → ∃ pv : List (Value × Value), pv.length = m ∧ ∀ (j : Nat) (k v : Value), pv[j]? = some (k, v) → ∃ b q, prs[j]? = some q ∧ q.2 = v ∧ ps[j]? = some b ∧ IsTup s.heap b #[k, v] ∧ keyIs q.1 k = true := by
      intro m
      induction m with
      | zero => exact fun _ => ⟨[], rfl, fun j k v e => by simp at e⟩
      | succ m ih =>
        intro hm
        obtain ⟨pv, e1, e2⟩ := ih (by omega)
        have hj : prs[m]? = some prs[m] := List.getElem?_eq_getElem (by omega)
        obtain ⟨b, u, h1, h2, h3⟩ := hun m _ hj
        refine ⟨pv ++ [(u, prs[m].2)], by rw [List.length_append, e1] <;> rfl, fun j k v e => ?_⟩
        by_cases c : j < m
        · rw [List.getElem?_append_left (by omega)] at e
          exact e2 j k v e
        · rw [List.getElem?_append_right (by omega), e1] at e
          have : j = m := by
            have := (List.getElem?_eq_some_iff.mp e).1
            rw [List.length_singleton] at this
            omega
          subst this
          rw [Nat.sub_self] at e
          cases Option.some.inj e
          exact ⟨b, prs[j], hj, rfl, h1, h2, h3⟩
    exact key _ (Nat.le_refl _)
  obtain ⟨pv, hpv, hpv2⟩ := hex
  have P := PySem.PairArg.tuple (prog := X.prog) (w := X.w) a (ps.map Value.ref).toArray (fun j => ps.getD j 0) pv
  refine PySem.call_dict_pairs (knd := mixKind X.prog X.w) (kvs := prs) P (I.ok.hd hcalm) ⟨⟨o, n, hoa, hc, hod, hdat⟩, ?_, ?_⟩ ⟨hpv.symm, ?_⟩ (by rw [hpv, hl]; exact hz) fun h' tk hd' k => ?_
  · rw [List.size_toArray, List.length_map, hpv, hl]
  · intro j k v e
    obtain ⟨b, q2, h1, h2, h3, h4, h5⟩ := hpv2 j k v e
    have e3 : ps.getD j 0 = b := by rw [List.getD_eq_getElem?_getD, h3] <;> rfl
    refine ⟨by show (ps.map Value.ref).toArray[j]? = some (Value.ref (ps.getD j 0)); rw [e3]; simp [h3], .inl ?_⟩
    show s.heap.IsTuple (ps.getD j 0) #[k, v]
    rw [e3]
    exact h4
  · intro j k v e
    obtain ⟨b, q2, h1, h2, h3, h4, h5⟩ := hpv2 j k v e
    exact ⟨q2.1, by rw [h1, ← h2], h5⟩
  · have hm : (s.heap.objs.size == sysModules) = false := beq_eq_false_iff_ne.mpr (Nat.ne_of_gt I.big)
    have hlen : (mergeK [] kvs).length ≤ sizeLine := by
      refine Nat.le_trans (length_mergeK kvs []) ?_
      rw [List.length_nil, Nat.zero_add, rel.length, hl]
      exact hz
    exact ⟨.ref s.heap.objs.size, upd H s.heap.objs.size (.dK (mergeK [] kvs)), I.laid (t' := tk) (fun b o e => k b o (fun h => nomatch h) e) (Nat.le_refl _) (show ObjOk X.prog X.w _ _ _ (.dK (mergeK [] kvs)) from ⟨hlen, hm, merged [] prs, KV.merge rel .nil, hd'⟩), rfl, q _ (I.hok.fresh (Nat.le_refl _))⟩
theorem rd_dictFz {K : PySem.W.Frag} {H : Hp} {Q : VK} {a : Addr} {ps : List Addr} {kvs : List (Key × V)} (s : Fz H a (ps.map V.ref)) (hp : Paired (fun p kv => SqT K H p [kV kv.1, kv.2]) ps kvs)
    (h : ∀ p, H p = none → Q (.ref p) (upd H p (.dK (mergeK [] kvs)))) : rDictFz K [.ref a] H Q := ⟨a, ps, kvs, rfl, s, hp, h⟩

/-! ### all -/
theorem c_all {X : Cx} {K : PySem.W.Frag} (h : X.K = K) (hc : X.calm = true) : CallR X (.builtin "all") (rAll K) := h ▸ cr_all hc
theorem c_any {X : Cx} {K : PySem.W.Frag} (h : X.K = K) (hc : X.calm = true) : CallR X (.builtin "any") (rAny K) := h ▸ cr_any hc
theorem rd_all {K : PySem.W.Frag} {H : Hp} {Q : VK} {a : Addr} {bs : List Bool} (s : SqL K H a (bs.map V.bl)) (h : Q (.bl (bs.all id)) H) : rAll K [.ref a] H Q := ⟨a, bs, rfl, s, h⟩
theorem rd_any {K : PySem.W.Frag} {H : Hp} {Q : VK} {a : Addr} {bs : List Bool} (s : SqL K H a (bs.map V.bl)) (h : Q (.bl (bs.any id)) H) : rAny K [.ref a] H Q := ⟨a, bs, rfl, s, h⟩

/-! ### repr of an int -/
def rReprI : List V → Hp → VK → Prop := fun xs H Q => ∃ i : Int, xs = [.int i] ∧ i.natAbs.log2 < 1920 ∧ Q (.str (toString i)) H
theorem c_reprI {X : Cx} : CallR X (.builtin "repr") rReprI := SkE.call_repr_int
theorem rd_reprI {i : Int} {H : Hp} {Q : VK} (h1 : i.natAbs < 10 ^ 12) (h : Q (.str (toString i)) H) : rReprI [.int i] H Q := ⟨i, rfl, log2_small h1, h⟩

/-! ### data without lists stay where tuples stay -/
mutual
def noL : PyData → Bool
  | .list _ => false
  | .dict _ => false
  | .tuple ds => noLs ds
  | _ => true
def noLs : List PyData → Bool
  | [] => true
  | d :: ds => noL d && noLs ds
end
mutual
theorem dp_mono {K : PySem.W.Frag} {H H' : Hp} (e : ∀ a xs, SqT K H a xs → SqT K H' a xs) : ∀ (d : PyData) (v : V), noL d = true → Dp K H v d → Dp K H' v d
  | .none, _, _, h => by cases h; exact .non
  | .bool b, _, _, h => by cases h; exact .bl b
  | .int i, _, _, h => by cases h; exact .int i
  | .str x, _, _, h => by cases h; exact .str x
  | .list _, _, c, _ => nomatch c
  | .tuple ds, _, c, h => by
    cases h with
    | tup hs ha => exact .tup (e _ _ hs) (dps_mono e ds _ c ha)
  | .dict _, _, c, _ => nomatch c
theorem dps_mono {K : PySem.W.Frag} {H H' : Hp} (e : ∀ a xs, SqT K H a xs → SqT K H' a xs) : ∀ (ds : List PyData) (vs : List V), noLs ds = true → DpAll K H vs ds → DpAll K H' vs ds
  | [], _, _, h => by cases h; exact .nil
  | d :: ds, _, c, h => by
    have c2 : noL d = true ∧ noLs ds = true := Bool.and_eq_true _ _ ▸ c
    cases h with
    | cons h1 h2 => exact .cons (dp_mono e d _ c2.1 h1) (dps_mono e ds _ c2.2 h2)
end
theorem noLs_all : ∀ {ds : List PyData}, (∀ d ∈ ds, noL d = true) → noLs ds = true
  | [], _ => rfl
  | d :: ds, h => by
    show (noL d && noLs ds) = true
    rw [h d List.mem_cons_self, noLs_all fun x hx => h x (List.mem_cons_of_mem _ hx)] <;> rfl

/-! ### walks over tuples of pairs -/
section
variable {K : PySem.W.Frag} {σ : L2.St} {H : Hp} {Q : VK} {tt : TT} {te : TE} {tb : TS} {D : Ends} {vs : List Nat} {j1 j2 k : Nat} {σx : V → V → L2.St} {a : Addr} {px py : Nat → V} {f : Nat → Bool} {g : Nat → V}
theorem lc_prT {xs : List V} (hk : k = 2) (hx : SqT K H a xs) (hz : xs.length ≤ 40000) (hp : ∀ i, i < xs.length → ∃ T, xs[i]? = some (.ref T) ∧ SqT K H T [px i, py i])
    (hσ : ∀ x y, ((wipe σ vs).set j1 (some x)).set j2 (some y) = σx x y) (hw : ∀ x y, wipe (σx x y) vs = wipe σ vs) (hs : ∀ i, i < xs.length → TurnP H tt te σx px py f g i)
    (hd : ∀ D H', Evl.Ex H H' → H D = none → H' D = some (.lst (((List.range xs.length).filter f).map g)) → Q (.ref D) H') : LcR (gTup K k (gCons (gName j1) (gCons (gName j2) gNil))) tt te vs σ Q (Itt K a) H := fun D hn =>
  lc_tup (xs := xs) (fun i H' => Evl.Ex H H' ∧ H' D = some (.lst (((List.range i).filter f).map g))) ⟨Evl.Ex.new hn, upd_same⟩ (fun i H' _ ⟨ex, _⟩ => Evl.ex_t ex hx) (fun i x H' hi p => by
    obtain ⟨e, ed⟩ := p
    have hil := (List.getElem?_eq_some_iff.mp hi).1
    obtain ⟨T, hT, sT⟩ := hp i hil
    rw [hT] at hi
    cases hi
    have hlen : (((List.range i).filter f).map g).length < 100000 := by
      rw [List.length_map]
      have h1 := List.length_filter_le f (List.range i)
      rw [List.length_range] at h1
      omega
    refine rd_gtup2 (x := px i) (y := py i) (Evl.ex_t e sT) hk (hσ _ _) ⟨hw _ _, hs i hil _ _ _ e (fun hf H3 e3 => ?_) fun hf H3 e3 => ?_⟩
    · refine ⟨_, e3 D _ ed, Evl.sz_lt hlen, Evl.Ex.mut (e.trans e3) hn, ?_⟩
      rw [upd_same, range_snoc, if_pos hf]
    · refine ⟨e.trans e3, ?_⟩
      rw [range_snoc, if_neg (by rw [hf]; decide), List.append_nil]
      exact e3 D _ ed) fun H' p => hd D H' p.1 hn p.2
theorem fr_tupP {xs : List V} {px py : Nat → V} (hk : k = 2) (Pv : Nat → L2.St → Hp → Prop) (h0 : Pv 0 σ H) (hl : ∀ i σ H, i ≤ xs.length → Pv i σ H → SqT K H a xs)
    (hs : ∀ i σ H, i < xs.length → Pv i σ H → ∃ T, xs[i]? = some (.ref T) ∧ SqT K H T [px i, py i] ∧ tb { D with nx := Pv (i + 1), ct := Pv (i + 1), bk := D.nx } ((σ.set j1 (some (px i))).set j2 (some (py i))) H) (hd : ∀ σ H, Pv xs.length σ H → D.nx σ H) :
    ForR (gTup K k (gCons (gName j1) (gCons (gName j2) gNil))) tb D σ (Itt K a) H := for_tup Pv h0 hl (fun i x σ H hi p => by
      obtain ⟨T, hT, sT, q⟩ := hs i σ H (List.getElem?_eq_some_iff.mp hi).1 p
      rw [hT] at hi
      cases hi
      exact rd_gtup2 sT hk rfl q) hd
/-- a comprehension over a range, nothing else being changed -/
theorem lc_fmR {lo : Int} {n j : Nat} {σx : V → L2.St} (f : Nat → Bool) (g : Nat → V) (hz : n ≤ 40000) (hσ : ∀ x, (wipe σ vs).set j (some x) = σx x) (hw : ∀ x, wipe (σx x) vs = wipe σ vs)
    (hs : ∀ i, i < n → ∀ (H' : Hp) (N : VK) (S : Hp → Prop), Evl.Ex H H' → (f i = true → ∀ H3, Evl.Ex H' H3 → N (g i) H3) → (f i = false → ∀ H3, Evl.Ex H' H3 → S H3) →
      tt (σx (.int (lo + i))) H' fun b H2 => if b = true then te (σx (.int (lo + i))) H2 N else S H2)
    (hd : ∀ D H', Evl.Ex H H' → H D = none → H' D = some (.lst (((List.range n).filter f).map g)) → Q (.ref D) H') : LcR (gName j) tt te vs σ Q (Itr lo n) H := fun D hn =>
  lc_range (fun i H' => Evl.Ex H H' ∧ H' D = some (.lst (((List.range i).filter f).map g))) ⟨Evl.Ex.new hn, upd_same⟩ (fun i H' hi p => by
    obtain ⟨e, ed⟩ := p
    have hlen : (((List.range i).filter f).map g).length < 100000 := by
      rw [List.length_map]
      have h1 := List.length_filter_le f (List.range i)
      rw [List.length_range] at h1
      omega
    rw [show gName j (.int (lo + i)) (wipe σ vs) H' = fun N => N (σx (.int (lo + i))) H' from funext fun N => by rw [← hσ (.int (lo + i))] <;> rfl]
    refine ⟨hw _, hs i hi _ _ _ e (fun hf H3 e3 => ?_) fun hf H3 e3 => ?_⟩
    · refine ⟨_, e3 D _ ed, Evl.sz_lt hlen, Evl.Ex.mut (e.trans e3) hn, ?_⟩
      rw [upd_same, range_snoc, if_pos hf]
    · refine ⟨e.trans e3, ?_⟩
      rw [range_snoc, if_neg (by rw [hf]; decide), List.append_nil]
      exact e3 D _ ed) fun H' p => hd D H' p.1 hn p.2
end
end Ea
set_option Elab.async false
set_option linter.all false
set_option maxRecDepth 100000
set_option maxHeartbeats 1000000
/-! enumerate of a text; list of a dict; walks over a locked dict's keys; triples. -/
namespace Ea
open PySem PySem.Spec PyProof.Rows L2
/-- the text z, each sign in a new pair -/
def IteS (z : Str) : It :=
  ⟨fun i _ => i < z.cps.size, fun i H v H' => ∃ T c, v = .ref T ∧ H T = none ∧ H' = upd H T (.tup [.int (i : Nat), .str ⟨#[c]⟩]) ∧ z.cps[i]? = some c, fun i _ => i = z.cps.size⟩
theorem turn_enumS {P : Program} {w : World} {K : PySem.W.Frag} {elts : List Expr} {kk : Nat} {tpos : Pos} (z : Str) (tz : Tok) (e it : Addr) :
    L2.Turn P w K (.Tuple elts kk tpos) (IteS z) [e, it] e (fun i h => (∃ old, IsEnum h e it ((i : Nat) : Int) old) ∧ h.IsStrIter it (strIterType z) z tz i ∧ e ≠ it) where
  mem := by simp
  obj := fun i h st b hb => by
    obtain ⟨⟨old, he⟩, ⟨o, ho, hc, hd⟩, _⟩ := st
    have e' : b = e ∨ b = it := by simpa using hb
    rcases e' with rfl | rfl
    · exact ⟨_, he, fun v q => nomatch q⟩
    · exact ⟨o, ho, fun v q => by rw [hd] at q; cases q⟩
  keep := fun i h h' st k => let ⟨⟨old, he⟩, hi, hne⟩ := st; ⟨⟨old, k e (by simp) _ he⟩, let ⟨o, ho, r⟩ := hi; ⟨o, k it (by simp) o ho, r⟩, hne⟩
  item := by
    intro X hP hw hK hc i pins s σ H E I hf st hg
    subst hP hw hK
    obtain ⟨⟨old, he⟩, hit, hne⟩ := st
    have hg : i < z.cps.size := hg
    obtain ⟨oi, hoi, hci, _⟩ := id hit
    have hel : e < s.heap.objs.size := Heap.lt_size he
    have hil : it < s.heap.objs.size := Heap.lt_size hoi
    refine wpAny_pyNext_enum_itemD (Draws.text (prog := X.prog) (w := X.w) (A := X.A.in1) (I.ok.hd hc) it z tz) he hit hg hne (by simp [hne]) fun x' h' tk hP ho st' hT hsz hk => ?_
    obtain ⟨c, u, hcx, rfl⟩ := hP
    refine ⟨_, rfl, wpAny_letOwnedTupleGo_enum (s := { s with heap := h', toks := tk + 1 }) ho fun h'' he' sb => ?_⟩
    have hT2 : h''.get? s.heap.objs.size = some { cls := .type "tuple", data := .seq #[.int i tk, .str ⟨#[c]⟩ u] } := (sb.2 _ (Nat.ne_of_gt hel)).trans hT
    have new : ObjOk X.prog X.w (upd H s.heap.objs.size (.tup [.int (i : Nat), .str ⟨#[c]⟩])) h'' s.heap.objs.size (.tup [.int (i : Nat), .str ⟨#[c]⟩]) :=
      ⟨by show 2 ≤ sizeLine; decide, [.int i tk, .str ⟨#[c]⟩ u], .cons ⟨_, rfl⟩ (.cons ⟨_, rfl⟩ .nil), ⟨_, hT2, rfl, _, rfl⟩⟩
    have I1 : Inv X pins σ (upd H s.heap.objs.size (.tup [.int (i : Nat), .str ⟨#[c]⟩])) { s with heap := h'', toks := tk + 1 } :=
      I.turnedNew (ch := [e, it]) (fun b ob hb q => (sb.2 b (fun z => hb (by simp [z]))).trans (hk b ob (fun z => hb (by simp [z])) (fun z => hb (by simp [z])) q)) hf (Nat.le_refl _) new
    refine ⟨.ref s.heap.objs.size, _, I1, rfl, ⟨_, c, rfl, I.hok.fresh (Nat.le_refl _), rfl, hcx⟩, ⟨⟨.str ⟨#[c]⟩ u, ?_⟩, (let ⟨o, ho, r⟩ := st'; ⟨o, (sb.2 it (Ne.symm hne)).trans ho, r⟩), hne⟩, fun b hb => ?_⟩
    · have e1 : ((i + 1 : Nat) : Int) = (i : Int) + 1 := by omega
      rw [e1]
      exact he'
    · have hb' : b < s.heap.objs.size := by
        have e' : b = e ∨ b = it := by simpa using hb
        rcases e' with rfl | rfl
        · exact hel
        · exact hil
      rw [upd_ne (Nat.ne_of_lt hb')]
      exact (hf b hb).1
  done := by
    intro X hP hw hK hc i pins s σ H E I hf st hg
    subst hP hw hK
    obtain ⟨⟨old, he⟩, hit, hne⟩ := st
    have hg : i = z.cps.size := hg
    obtain ⟨f0, f1, f2, f3, f4, f5⟩ := hf it (by simp)
    exact wpAny_pyNext_enum_endD (Draws.text (prog := X.prog) (w := X.w) (A := X.A.in1) (I.ok.hd hc) it z tz) he (hg ▸ hit) fun h' eb => ⟨rfl, I.turned (t' := s.toks) (fun b o hb q => eb b o hb q) f0 f1 f3 f4 f5⟩
  self := fun A i s Q E st h => let ⟨⟨_, he⟩, _⟩ := st; wpAny_pyIter_enum he h
def iEnumS (ta : TA) : TI := fun σ H R => ta σ H fun vs H1 => ∃ z, vs = [.str z] ∧ R (IteS z) H1
theorem pi_enumS {X : Cx} {e : Expr} {ta : TA} {p pos tpos : Pos} {elts : List Expr} {kk : Nat} (hg : L2.Gl X "enumerate") (hm : X.mg "enumerate" = none) (ha : PA X [e] ta) (hs : starEach [e] X.env = [(false, eval e X.env)] := by rfl) :
    PI X (.Tuple elts kk tpos) (.Call (.Name "enumerate" p) [e] [] pos) (iEnumS ta) := by
  refine ⟨fun pins s σ H R I h => ?_⟩
  refine Call_ (ld_blt I hg hm boot_enumerate (PyProof.Rows.callWith_type1 (thn (ha.run pos pins s σ H _ I h) fun us s1 ⟨vs, H1, I1, r1, q1⟩ => ?_) hs rfl))
  obtain ⟨z, ex, q⟩ := q1
  subst ex
  cases r1 with
  | cons r rr =>
    cases rr
    obtain ⟨tz, rfl⟩ := r
    refine call_enum1 (begins_text z tz) True.intro fun h' he hit hk => wpAny_pyIter_enum he ?_
    have I2 : Inv X pins σ H1 { s1 with heap := h' } := I1.kept (t' := s1.toks) hk
    refine ⟨s1.heap.objs.size + 1, [s1.heap.objs.size + 1, s1.heap.objs.size], _, _, H1, rfl, I2, turn_enumS z tz (s1.heap.objs.size + 1) s1.heap.objs.size, ⟨⟨.none, he⟩, ⟨_, hit, rfl, rfl⟩, Nat.succ_ne_self _⟩, fun b hb => ?_, q⟩
    have e' : b = s1.heap.objs.size + 1 ∨ b = s1.heap.objs.size := by simpa using hb
    have hle : s1.heap.objs.size ≤ b := by
      rcases e' with rfl | rfl
      · exact Nat.le_add_right _ _
      · exact Nat.le_refl _
    exact I1.fpOk hle (I1.hok.fresh hle)
theorem rd_iEnumS {ta : TA} {R : It → Hp → Prop} {σ : L2.St} {H : Hp} (h : ta σ H fun vs H1 => ∃ z, vs = [.str z] ∧ R (IteS z) H1) : iEnumS ta σ H R := h
section
variable {K : PySem.W.Frag} {σ : L2.St} {H : Hp} {Q : VK} {tt : TT} {te : TE} {vs : List Nat} {j1 j2 k : Nat} {σx : V → V → L2.St} {a b : Addr} {n : Nat} {px py : Nat → V} {f : Nat → Bool} {g : Nat → V} {J : It}
theorem lc_enumS {z : Str} (hk : k = 2) (hz : z.cps.size ≤ 40000) (hσ : ∀ x y, ((wipe σ vs).set j1 (some x)).set j2 (some y) = σx x y) (hw : ∀ x y, wipe (σx x y) vs = wipe σ vs)
    (f : Nat → Bool) (g : Nat → V) (hs : ∀ i, i < z.cps.size → TurnP H tt te σx (fun i => .int (i : Nat)) (fun i => .str ⟨#[z.cps.toList.getD i 0]⟩) f g i)
    (hd : ∀ D H', Evl.Ex H H' → H D = none → H' D = some (.lst (((List.range z.cps.size).filter f).map g)) → Q (.ref D) H') : LcR (gTup K k (gCons (gName j1) (gCons (gName j2) gNil))) tt te vs σ Q (IteS z) H :=
  lc_pairs hk hz (fun i H' e hi => hi) (fun H' e => rfl)
    (fun i H1 x H2 e hi hy => by
      obtain ⟨T, c, rfl, hT, rfl, h⟩ := hy
      refine ⟨T, rfl, hT, ?_⟩
      show _ = upd H1 T (.tup [.int (i : Nat), .str ⟨#[z.cps.toList.getD i 0]⟩])
      have e : z.cps.toList.getD i 0 = c := by
        rw [List.getD_eq_getElem?_getD, Array.getElem?_toList, h] <;> rfl
      rw [e]) hσ hw hs hd
end

/-! ### list of a dict with ints for keys -/
def KeysI (kvs : List (Key × V)) (ks : List Int) : Prop := kvs.map (·.1) = ks.map Sum.inl
def rListD : List V → Hp → VK → Prop := fun xs H Q => ∃ (a : Addr) (kvs : List (Key × V)) (ks : List Int), xs = [.ref a] ∧ Rd H a (.dK kvs) ∧ KeysI kvs ks ∧ ∀ p : Addr, H p = none → Q (.ref p) (upd H p (.lst (ks.map V.int)))
theorem c_listD {X : Cx} (hcalm : X.calm = true) : CallR X (.type "list") rListD := by
  intro pins s σ H xs us Q I r q
  obtain ⟨a, kvs, ks, ex, hd, hks, q⟩ := q
  subst ex
  obtain ⟨u, eu, rx⟩ := vals1 r
  subst eu
  cases rx
  obtain ⟨z, lo, vs, rel, dd⟩ := dk_rd I.hok hd
  obtain ⟨ep, hat⟩ := dd.dictAt
  have hkeys : vs.map (·.1) = ks.map Sum.inl := rel.keys.symm.trans hks
  have hl : vs.length = ks.length := by
    have e := congrArg List.length hkeys
    rw [List.length_map, List.length_map] at e
    exact e
  have h16 : vs.length ≤ sizeLine := by
    rw [← rel.length]
    exact z
  refine PySem.W.kdl_call (PySem.W.kdl_dict (knd := mixKind X.prog X.w) (kvs := vs) (ep := ep) lo) (I.ok.hd hcalm) hat h16 fun h' tk acc c' hk hS hacc => ?_
  have hal : acc.toList.length = ks.length := by rw [Array.length_toList, hacc.1, hl]
  have hI : IntsAre acc.toList ks := ints_each hal fun j v e => by
    obtain ⟨k, x, e1, e2⟩ := hacc.2 j v (by rw [← Array.getElem?_toList]; exact e)
    have e3 : (vs.map (·.1))[j]? = some k := by rw [List.getElem?_map, e1]; rfl
    rw [hkeys, List.getElem?_map] at e3
    cases e4 : ks[j]? with
    | none => rw [e4] at e3; cases e3
    | some y =>
      rw [e4] at e3
      have e5 : Sum.inl y = k := Option.some.inj e3
      subst e5
      rcases keyIs_shape (show keyIs (Sum.inl y) v = true from e2) with ⟨i, t, ek, ev⟩ | ⟨z, t, ek, ev⟩
      · cases ek
        exact ⟨y, t, rfl, ev⟩
      · cases ek
  refine ⟨.ref s.heap.objs.size, upd H s.heap.objs.size (.lst (ks.map V.int)), I.laid (t' := tk) hk (Nat.le_refl _)
    (show ObjOk X.prog X.w _ _ _ (.lst (ks.map V.int)) from ⟨by rw [List.length_map, ← hl]; exact h16, acc.toList, c', vals_of_ints hI, by rw [Array.toArray_toList]; exact hS⟩), rfl, q _ (I.hok.fresh (Nat.le_refl _))⟩
theorem rd_listD {H : Hp} {Q : VK} {a : Addr} {kvs : List (Key × V)} {ks : List Int} (h : H a = some (.dK kvs)) (hk : KeysI kvs ks) (q : ∀ p : Addr, H p = none → Q (.ref p) (upd H p (.lst (ks.map V.int)))) : rListD [.ref a] H Q := ⟨a, kvs, ks, rfl, .inl h, hk, q⟩

/-! ### keys of a dict -/
theorem rd_din {ty td : TE} {σ : L2.St} {H : Hp} {Q : VK} (h : ty σ H fun y H1 => td σ H1 fun x H2 => ∃ a o, x = .ref a ∧ DGet H2 a y o ∧ Q (.bl o.isSome) H2) : tDIn ty td σ H Q := h
theorem rd_dnotin {ty td : TE} {σ : L2.St} {H : Hp} {Q : VK} (h : ty σ H fun y H1 => td σ H1 fun x H2 => ∃ a o, x = .ref a ∧ DGet H2 a y o ∧ Q (.bl (!o.isSome)) H2) : tDNotIn ty td σ H Q := h
theorem val_some {kvs : List (Key × V)} {ks : List Int} {x : Int} (h : KeysI kvs ks) : (valV kvs (Sum.inl x)).isSome = decide (x ∈ ks) := by
  unfold valV
  rw [Option.isSome_map]
  have key : (kvs.find? fun kv => decide (kv.1 = Sum.inl x)).isSome = true ↔ x ∈ ks := by
    rw [List.find?_isSome]
    constructor
    · rintro ⟨kv, hm, e⟩
      have e2 : kv.1 = Sum.inl x := of_decide_eq_true e
      have h1 : kv.1 ∈ ks.map Sum.inl := h ▸ List.mem_map_of_mem hm
      obtain ⟨y, hy, e3⟩ := List.mem_map.mp h1
      rw [e2] at e3
      cases e3
      exact hy
    · intro hx
      have h1 : (Sum.inl x : Key) ∈ kvs.map (·.1) := h ▸ List.mem_map_of_mem hx
      obtain ⟨kv, hm, e⟩ := List.mem_map.mp h1
      exact ⟨kv, hm, decide_eq_true e⟩
  by_cases c : x ∈ ks
  · rw [decide_eq_true c]
    exact key.mpr c
  · rw [decide_eq_false c]
    cases e : (kvs.find? fun kv => decide (kv.1 = Sum.inl x)).isSome with
    | false => rfl
    | true => exact absurd (key.mp e) c
theorem KeysI.nil : KeysI [] [] := rfl
theorem KeysI.len {kvs : List (Key × V)} {ks : List Int} (h : KeysI kvs ks) : kvs.length = ks.length := by
  have e := congrArg List.length h
  rw [List.length_map, List.length_map] at e
  exact e
/-- what stands among the keys when x is put -/
def putI (ks : List Int) (x : Int) : List Int := if x ∈ ks then ks else ks ++ [x]
theorem putI_mem {ks : List Int} {x y : Int} : y ∈ putI ks x ↔ y ∈ ks ∨ y = x := by
  unfold putI
  by_cases c : x ∈ ks
  · rw [if_pos c]
    exact ⟨.inl, fun h => h.elim id fun e => e ▸ c⟩
  · rw [if_neg c, List.mem_append, List.mem_singleton]
theorem putI_nodup {ks : List Int} {x : Int} (h : ks.Nodup) : (putI ks x).Nodup := by
  unfold putI
  by_cases c : x ∈ ks
  · rw [if_pos c]
    exact h
  · rw [if_neg c, List.nodup_append]
    exact ⟨h, by simp, fun a ha b hb => by rw [List.mem_singleton.mp hb]; exact fun q => c (q ▸ ha)⟩
theorem KeysI.put {kvs : List (Key × V)} {ks : List Int} (h : KeysI kvs ks) (x : Int) (v : V) : KeysI (putK kvs (Sum.inl x) v) (putI ks x) := by
  unfold KeysI
  rw [keys_put]
  have e : ((kvs.any fun kv => decide (kv.1 = Sum.inl x)) = true) ↔ x ∈ ks := by
    rw [any_key, h]
    constructor
    · intro hm
      obtain ⟨y, hy, e⟩ := List.mem_map.mp hm
      cases e
      exact hy
    · exact fun hx => List.mem_map_of_mem hx
  unfold putI
  by_cases c : x ∈ ks
  · rw [if_pos (e.mpr c), if_pos c]
    exact h
  · rw [if_neg fun q => c (e.mp q), if_neg c, List.map_append, h] <;> rfl
theorem KeysI.get {kvs : List (Key × V)} {ks : List Int} {i : Nat} {k : Key} {v : V} (h : KeysI kvs ks) (e : kvs[i]? = some (k, v)) : ∃ x, k = Sum.inl x ∧ ks[i]? = some x := by
  have e1 : (kvs.map (·.1))[i]? = some k := by rw [List.getElem?_map, e] <;> rfl
  rw [h, List.getElem?_map] at e1
  obtain ⟨x, hx, e2⟩ := Option.map_eq_some_iff.mp e1
  exact ⟨x, e2.symm, hx⟩

/-! ### a dict made of another one's keys -/
theorem rd_lockE {t : TE} {σ : L2.St} {H : Hp} {Q : VK} (h : ∃ d u, H d = some u ∧ Mut (some u) ∧ ∀ od, t σ (upd H d (.frz od u)) fun v H' => H' d = some (.frz od u) ∧ Q v (upd H' d u)) : tLockE t σ H Q := h
theorem rd_iKeys {td : TE} {σ : L2.St} {H : Hp} {R : It → Hp → Prop} (h : td σ H fun x H1 => ∃ d o, x = .ref d ∧ ((∃ kvs, H1 d = some (.frz o (.dK kvs)) ∧ R (Itk d o kvs) H1) ∨ ∃ kvs, H1 d = some (.frz o (.dT kvs)) ∧ R (Itkt d o kvs) H1)) : iKeys td σ H R := h
section
variable {σ : L2.St} {H : Hp} {Q : VK} {tt : TT} {tk tv : TE} {vs : List Nat} {j : Nat} {σx : V → L2.St} {d : Addr} {od : Obj} {kvs : List (Key × V)} {ks : List Int}
abbrev TurnK (H : Hp) (tt : TT) (tk tv : TE) (σx : V → L2.St) (f : Int → Bool) (x : Int) : Prop :=
  ∀ (H' : Hp) (N : V → V → Hp → Prop) (S : Hp → Prop), Evl.Ex H H' → (f x = true → ∀ v H3, Evl.Ex H' H3 → N (.int x) v H3) → (f x = false → ∀ H3, Evl.Ex H' H3 → S H3) →
    tt (σx (.int x)) H' fun b H2 => if b = true then tk (σx (.int x)) H2 fun y H4 => tv (σx (.int x)) H4 fun z H5 => N y z H5 else S H2
/-- {k: .. for k in d if f k}: the new dict has the keys that f lets -/
theorem dc_keys (f : Int → Bool) (hd : H d = some (.frz od (.dK kvs))) (hk : KeysI kvs ks) (hz : ks.length ≤ 1000) (hn : ks.Nodup) (hσ : ∀ x, (wipe σ vs).set j (some x) = σx x) (hw : ∀ x, wipe (σx x) vs = wipe σ vs)
    (hs : ∀ x ∈ ks, TurnK H tt tk tv σx f x)
    (hq : ∀ D kvs' H', Evl.Ex H H' → H D = none → H' D = some (.dK kvs') → KeysI kvs' (ks.filter f) → Q (.ref D) H') : DcR (gName j) tt tk tv vs σ Q (Itk d od kvs) H := fun D hD => by
  have hl := hk.len
  refine ⟨fun i m H' => i + m = kvs.length ∧ Evl.Ex H H' ∧ ∃ kvs', H' D = some (.dK kvs') ∧ KeysI kvs' ((ks.take i).filter f), ⟨kvs.length, by omega, Evl.Ex.new hD, [], upd_same, rfl⟩, fun i m H' hW => ?_⟩
  obtain ⟨em, e, kvs', ed, hk'⟩ := hW
  by_cases hi : i < kvs.length
  · refine .inr ⟨⟨e _ _ hd, hi⟩, fun H3 => Evl.Ex H H3 ∧ ∃ kvs', H3 D = some (.dK kvs') ∧ KeysI kvs' ((ks.take (i + 1)).filter f), fun H3 h3 => ⟨m - 1, by omega, by omega, h3⟩, fun x H2 hy => ?_⟩
    obtain ⟨rfl, k, v, hkv, rfl⟩ := hy
    obtain ⟨y, rfl, hy⟩ := hk.get hkv
    show gName j (.int y) (wipe σ vs) H2 _
    rw [show gName j (.int y) (wipe σ vs) H2 = fun N => N (σx (.int y)) H2 from funext fun N => by rw [← hσ (.int y)] <;> rfl]
    have hm : y ∈ ks := List.mem_of_getElem? hy
    have ht : ks.take (i + 1) = ks.take i ++ [y] := by rw [List.take_add_one, hy] <;> rfl
    have hny : y ∉ (ks.take i).filter f := fun q => by
      have h1 := (List.mem_filter.mp q).1
      have h2 : (ks.take (i + 1)).Nodup := hn.sublist (List.take_sublist _ _)
      rw [ht, List.nodup_append] at h2
      exact h2.2.2 y h1 y (List.mem_singleton.mpr rfl) rfl
    have hlen : kvs'.length ≤ 1000 := by
      rw [hk'.len]
      have h1 := List.length_filter_le f (ks.take i)
      have h2 := List.length_take_le i ks
      have h3 : (ks.take i).length ≤ ks.length := by rw [List.length_take]; omega
      omega
    refine ⟨hw _, hs y hm H2 (fun yv z H5 => ∃ kvs k, yv = kV k ∧ H5 D = some (.dK kvs) ∧ kvs.length < sizeLine ∧ (Evl.Ex H (upd H5 D (.dK (putK kvs k z))) ∧ ∃ kvs', (upd H5 D (.dK (putK kvs k z))) D = some (.dK kvs') ∧ KeysI kvs' ((ks.take (i + 1)).filter f)))
      (fun H3 => Evl.Ex H H3 ∧ ∃ kvs', H3 D = some (.dK kvs') ∧ KeysI kvs' ((ks.take (i + 1)).filter f)) e (fun hf v H3 e3 => ?_) fun hf H3 e3 => ?_⟩
    · refine ⟨kvs', Sum.inl y, rfl, e3 _ _ ed, by rw [sizeLine_eq]; omega, Evl.Ex.mut (e.trans e3) hD, _, upd_same, ?_⟩
      have h1 := hk'.put y v
      unfold putI at h1
      rw [if_neg hny] at h1
      rw [ht, List.filter_append, List.filter_cons_of_pos hf, List.filter_nil]
      exact h1
    · refine ⟨e.trans e3, kvs', e3 _ _ ed, ?_⟩
      rw [ht, List.filter_append, List.filter_cons_of_neg (by rw [hf]; decide), List.filter_nil, List.append_nil]
      exact hk'
  · have hik : i = kvs.length := by omega
    subst hik
    rw [hl, List.take_of_length_le (Nat.le_refl _)] at hk'
    exact .inl ⟨⟨e _ _ hd, Nat.le_refl _⟩, hq D kvs' H' e hD ed hk'⟩
end
/-! ### triples -/
theorem rd_gtup3 {K : PySem.W.Frag} {σ σ' : L2.St} {H : Hp} {p : Addr} {x y z : V} {n i j k : Nat} {N : L2.St → Hp → Prop} (s : SqT K H p [x, y, z]) (hn : n = 3) (hs : ((σ.set i (some x)).set j (some y)).set k (some z) = σ') (h : N σ' H) :
    gTup K n (gCons (gName i) (gCons (gName j) (gCons (gName k) gNil))) (.ref p) σ H N := ⟨p, [x, y, z], rfl, s, hn.symm, x, [y, z], rfl, y, [z], rfl, z, [], rfl, rfl, by subst hs; exact h⟩
theorem rd_lockS {t : TS} {D : Ends} {σ : L2.St} {H : Hp} (h : tLock t D σ H) : tLock t D σ H := h
end Ea
set_option Elab.async false
set_option linter.all false
set_option maxRecDepth 100000
set_option maxHeartbeats 400000
/-! Comprehensions over rows of data: some left out, each turned into a row. -/
namespace Ea
open PySem PySem.Spec PyProof.Rows L2
theorem pairw_len {α β : Type} {R : α → β → Prop} : ∀ {l : List α} {m : List β}, Paired R l m → l.length = m.length
  | _, _, .nil => rfl
  | _, _, .cons _ t => congrArg (· + 1) (pairw_len t)
section
variable {K : PySem.W.Frag} {σ : L2.St} {H : Hp} {Q : VK} {tt : TT} {te : TE} {vs : List Nat} {j : Nat} {σx : V → L2.St} {a : Addr} {xs : List V} {ρ : Type} {F : ρ → PyData} {rs : List ρ} {f : ρ → Bool} {g : ρ → ρ}
theorem dpAll_at : ∀ {xs : List V} {ds : List PyData} {i : Nat} {x : V}, DpAll K H xs ds → xs[i]? = some x → ∃ d, ds[i]? = some d ∧ Dp K H x d
  | _, _, 0, x, .cons h _, e => by
    obtain rfl : _ = x := Option.some.inj e
    exact ⟨_, rfl, h⟩
  | _, _, i + 1, x, .cons _ h, e => dpAll_at (i := i) h e
  | _, _, i, _, .nil, e => by simp at e
theorem dpAll_size : ∀ {xs : List V} {ds : List PyData}, DpAll K H xs ds → xs.length = ds.length
  | _, _, .nil => rfl
  | _, _, .cons _ h => congrArg (· + 1) (dpAll_size h)
theorem dpAll_cat : ∀ {xs ys : List V} {ds es : List PyData}, DpAll K H xs ds → DpAll K H ys es → DpAll K H (xs ++ ys) (ds ++ es)
  | _, _, _, _, .nil, h => h
  | _, _, _, _, .cons h t, h2 => .cons h (dpAll_cat t h2)
/-- a turn over a row of data -/
abbrev TurnR (K : PySem.W.Frag) (H : Hp) (tt : TT) (te : TE) (σx : V → L2.St) (F : ρ → PyData) (f : ρ → Bool) (g : ρ → ρ) (r : ρ) : Prop :=
  ∀ (v : V) (H' : Hp) (N : VK) (S : Hp → Prop), Evl.Ex H H' → Dp K H' v (F r) → (f r = true → ∀ v' H3, Evl.Ex H' H3 → Dp K H3 v' (F (g r)) → N v' H3) → (f r = false → ∀ H3, Evl.Ex H' H3 → S H3) →
    tt (σx v) H' fun b H2 => if b = true then te (σx v) H2 N else S H2
def Cr (K : PySem.W.Frag) (H : Hp) (rs : List ρ) (F : ρ → PyData) (f : ρ → Bool) (g : ρ → ρ) (D : Addr) (i : Nat) (H' : Hp) : Prop :=
  H D = none ∧ Evl.Ex H H' ∧ ∃ acc, H' D = some (.lst acc) ∧ DpAll K H' acc ((((rs.take i).filter f).map g).map F)
theorem cr_turn {D : Addr} {i : Nat} {r : ρ} {v : V} {H' : Hp} (hF : ∀ r, noL (F r) = true) (hi : rs[i]? = some r) (hz : rs.length ≤ 40000) (ht : TurnR K H tt te σx F f g r) (hv : Dp K H v (F r)) (p : Cr K H rs F f g D i H') :
    tt (σx v) H' fun b H3 => if b = true then te (σx v) H3 fun y H4 => ∃ acc, H4 D = some (.lst acc) ∧ acc.length < sizeLine ∧ Cr K H rs F f g D (i + 1) (upd H4 D (.lst (acc ++ [y]))) else Cr K H rs F f g D (i + 1) H3 := by
  obtain ⟨e, ex, acc, ea, hd⟩ := p
  have hl : acc.length < 100000 := by
    have h0 := dpAll_size hd
    rw [List.length_map, List.length_map] at h0
    have h1 := List.length_filter_le f (rs.take i)
    have h3 := List.length_take (i := i) (l := rs)
    omega
  refine ht v H' _ _ ex (dp_ex ex _ _ hv) (fun hf v' H3 e3 hv' => ?_) fun hf H3 e3 => ?_
  · have eD := e3 D _ ea
    refine ⟨acc, eD, Evl.sz_lt hl, e, Evl.Ex.mut (ex.trans e3) e, acc ++ [v'], upd_same, ?_⟩
    have : ((some r).toList.filter f) = [r] := by simp [hf]
    rw [List.take_add_one, hi, List.filter_append, List.map_append, List.map_append, this]
    have hn : noLs (((((rs.take i).filter f).map g).map F) ++ [F (g r)]) = true := noLs_all fun d h => by
      rcases List.mem_append.mp h with h | h
      · obtain ⟨q, _, rfl⟩ := List.mem_map.mp h
        exact hF q
      · rw [List.mem_singleton.mp h]
        exact hF _
    exact dps_mono (fun _ _ t => tup_upd eD lst_not t) _ _ hn (dpAll_cat (dpAll_ex e3 _ _ hd) (.cons hv' .nil))
  · refine ⟨e, ex.trans e3, acc, e3 D _ ea, ?_⟩
    have : ((some r).toList.filter f) = [] := by simp [hf]
    rw [List.take_add_one, hi, List.filter_append, this, List.append_nil]
    exact dpAll_ex e3 _ _ hd
theorem lc_dpL (hF : ∀ r, noL (F r) = true) (f : ρ → Bool) (g : ρ → ρ) (hx : SqL K H a xs) (hd : DpAll K H xs (rs.map F)) (hz : rs.length ≤ 40000) (hσ : ∀ x, (wipe σ vs).set j (some x) = σx x) (hw : ∀ x, wipe (σx x) vs = wipe σ vs)
    (hs : ∀ r ∈ rs, TurnR K H tt te σx F f g r)
    (hq : ∀ D H' ys, Evl.Ex H H' → H D = none → H' D = some (.lst ys) → DpAll K H' ys (((rs.filter f).map g).map F) → Q (.ref D) H') : LcR (gName j) tt te vs σ Q (Itl K a) H := fun D hn =>
  lc_list (xs := xs) (Cr K H rs F f g D) ⟨hn, Evl.Ex.new hn, [], upd_same, .nil⟩ (fun i H' _ ⟨_, ex, _⟩ => Evl.ex_l ex hx) (fun i x H' hi p => by
    obtain ⟨d, h1, h2⟩ := dpAll_at hd hi
    rw [List.getElem?_map] at h1
    obtain ⟨r, hr, rfl⟩ := Option.map_eq_some_iff.mp h1
    rw [show gName j x (wipe σ vs) H' = fun N => N (σx x) H' from funext fun N => by rw [← hσ x] <;> rfl]
    exact ⟨hw _, cr_turn hF hr hz (hs r (List.mem_of_getElem? hr)) h2 p⟩) fun H' p => by
    obtain ⟨e, ex, acc, ea, hp⟩ := p
    have lx := dpAll_size hd
    rw [List.length_map] at lx
    rw [lx, List.take_of_length_le (Nat.le_refl _)] at hp
    exact hq D H' acc ex e ea hp
theorem lc_dpT (hF : ∀ r, noL (F r) = true) (f : ρ → Bool) (g : ρ → ρ) (hx : SqT K H a xs) (hd : DpAll K H xs (rs.map F)) (hz : rs.length ≤ 40000) (hσ : ∀ x, (wipe σ vs).set j (some x) = σx x) (hw : ∀ x, wipe (σx x) vs = wipe σ vs)
    (hs : ∀ r ∈ rs, TurnR K H tt te σx F f g r)
    (hq : ∀ D H' ys, Evl.Ex H H' → H D = none → H' D = some (.lst ys) → DpAll K H' ys (((rs.filter f).map g).map F) → Q (.ref D) H') : LcR (gName j) tt te vs σ Q (Itt K a) H := fun D hn =>
  lc_tup (xs := xs) (Cr K H rs F f g D) ⟨hn, Evl.Ex.new hn, [], upd_same, .nil⟩ (fun i H' _ ⟨_, ex, _⟩ => Evl.ex_t ex hx) (fun i x H' hi p => by
    obtain ⟨d, h1, h2⟩ := dpAll_at hd hi
    rw [List.getElem?_map] at h1
    obtain ⟨r, hr, rfl⟩ := Option.map_eq_some_iff.mp h1
    rw [show gName j x (wipe σ vs) H' = fun N => N (σx x) H' from funext fun N => by rw [← hσ x] <;> rfl]
    exact ⟨hw _, cr_turn hF hr hz (hs r (List.mem_of_getElem? hr)) h2 p⟩) fun H' p => by
    obtain ⟨e, ex, acc, ea, hp⟩ := p
    have lx := dpAll_size hd
    rw [List.length_map] at lx
    rw [lx, List.take_of_length_le (Nat.le_refl _)] at hp
    exact hq D H' acc ex e ea hp
end
end Ea
set_option Elab.async false
set_option linter.all false
set_option maxRecDepth 100000
set_option maxHeartbeats 400000
/-! A text turned round. -/
namespace Ea
open PySem PySem.Spec PyProof PyProof.Rows L2
theorem fm_congr {α β : Type} {f g : α → Option β} : ∀ {l : List α}, (∀ x ∈ l, f x = g x) → l.filterMap f = l.filterMap g
  | [], _ => rfl
  | x :: t, h => by
    rw [List.filterMap_cons, List.filterMap_cons, h x List.mem_cons_self, fm_congr fun y hy => h y (List.mem_cons_of_mem _ hy)]
theorem rev_picked (L : List Nat) : (List.range L.length).filterMap (fun k => L[L.length - 1 - k]?) = L.reverse := by
  have e : (List.range L.length).filterMap (fun k => L[L.length - 1 - k]?) = (List.range L.length).filterMap (fun k => some (L.reverse.getD k 0)) := by
    refine fm_congr fun k hk => ?_
    have hk := List.mem_range.mp hk
    rw [List.getElem?_eq_getElem (by omega), List.getD_eq_getElem?_getD, List.getElem?_eq_getElem (by rw [List.length_reverse]; exact hk), Option.getD_some, List.getElem_reverse]
  rw [e, List.filterMap_eq_map']
  refine List.ext_getElem (by simp) fun i h1 h2 => ?_
  rw [List.getElem_map, List.getElem_range, List.getD_eq_getElem?_getD, List.getElem?_eq_getElem h2, Option.getD_some]
def revT (z : Str) : Str := ⟨z.cps.toList.reverse.toArray⟩
theorem revT_length (z : Str) : (revT z).length = z.length := by
  show z.cps.toList.reverse.toArray.size = z.cps.size
  rw [List.size_toArray, List.length_reverse, Array.length_toList]
def tRevS (te : TE) : TE := fun σ H Q => te σ H fun x H1 => ∃ z, x = .str z ∧ z.length ≤ sizeLine ∧ Q (.str (revT z)) H1
theorem pe_revS {X : Cx} {e : Expr} {te : TE} {k : Nat} {p1 p2 p3 pos : Pos} (he : PE X e te) :
    PE X (e.Subscript (Expr.Slice none none (some (Expr.UnaryOp UnaryOp.USub (Expr.Constant (Const.int 1) k p1) p2)) p3) pos) (tRevS te) :=
  ⟨fun pins s σ H Q I h => Subscript_ (thn (he.run pins s σ H _ I h) fun v s1 ⟨x, H1, I1, r1, z, ex, hz, q⟩ => (by
    subst ex
    obtain ⟨t, rfl⟩ := r1
    have hst := po_some (X := X) (e := Expr.UnaryOp UnaryOp.USub (Expr.Constant (Const.int 1) k p1) p2) (pe_un un_neg pe_int)
    refine wpAny_Slice (thn (po_none.run pins s1 σ H1 (fun o H2 => o = none ∧ H2 = H1) I1 ⟨rfl, rfl⟩) fun vl s2 ⟨l, H2, I2, pl, el, e2⟩ => ?_)
    subst el e2
    refine thn (po_none.run pins s2 σ H2 (fun o H3 => o = none ∧ H3 = H2) I2 ⟨rfl, rfl⟩) fun vu s3 ⟨u, H3, I3, pu, eu, e3⟩ => ?_
    subst eu e3
    refine thn (hst.run pins s3 σ H3 (fun o H4 => o = some (-1) ∧ H4 = H3) I3 ?hp) fun vs s4 ⟨st, H4, I4, ps, es, e4⟩ => ?hq
    case hp => exact rd_part (rd_un (rd_c (rd_U (rd_parti ⟨rfl, rfl⟩))))
    case hq =>
    subst es e4
    have I5 := Inv.kept (t' := s4.toks) I4 fun b ob q => Heap.get?_push_of_some { cls := Value.type "slice", data := Data.fields #[vl, vu, vs] } q
    cases pl
    cases pu
    cases ps with
    | int _ ts =>
    refine tail_any (T := "str") (id := "str.__getitem__") ?ht ?hk ?hg rfl
    case ht => exact rfl
    case hk => exact F.slot_str_getitem.lookup
    case hg =>
    refine wpAny_getItem_str_slice (l := none) (u := none) (st := some (-1, ts)) ?hs rfl ?hm
    case hs => exact Heap.IsSliceOf.new s4.heap Value.none Value.none (Value.int (-1) ts)
    case hm =>
    have hc : ¬ (((Option.map (fun x : Int × Tok => x.fst) (some ((-1 : Int), ts))).getD 1 == 1 && (slicePicked z none none (some (-1, ts))).length == z.length) = true) := fun h => by
      have h := (Bool.and_eq_true _ _ |>.mp h).1
      cases h
    have ez : (⟨(List.filterMap (fun i => z.cps[i]?) (slicePicked z none none (some (-1, ts)))).toArray⟩ : Str) = revT z := by
      have e1 : slicePicked z none none (some (-1, ts)) = (List.range z.length).map fun k => z.length - 1 - k := picked_rev z.length
      have e2 : (fun i => z.cps[i]?) = fun i => z.cps.toList[i]? := funext fun i => (Array.getElem?_toList ..).symm
      rw [e1, List.filterMap_map, e2]
      unfold revT
      have := rev_picked z.cps.toList
      have hl : z.cps.toList.length = z.length := rfl
      rw [hl] at this
      rw [← this] <;> rfl
    unfold sliceMade
    rw [if_neg hc, ez]
    exact ⟨by rw [revT_length]; exact hz, .str (revT z), H4, I5.tok _, ⟨_, rfl⟩, q⟩))⟩
theorem rd_revS {te : TE} {σ : L2.St} {H : Hp} {Q : VK} (h : te σ H fun x H1 => ∃ z, x = .str z ∧ z.length ≤ sizeLine ∧ Q (.str (revT z)) H1) : tRevS te σ H Q := h
end Ea
set_option Elab.async false
set_option linter.all false
set_option maxRecDepth 100000
set_option maxHeartbeats 400000
/-! Data of all kinds, dicts too: what it is, shown; a list beside the empty one; a tuple turned round. -/
namespace Ea
open PySem PySem.Spec PyProof PyProof.Rows L2

/-! ### xs != [], whatever stands in xs -/
def rNe0 (K : PySem.W.Frag) : R2 := fun x y H Q => ∃ a b xs, x = .ref a ∧ y = .ref b ∧ SqL K H a xs ∧ SqL K H b [] ∧ Q (.bl (!xs.isEmpty)) H
theorem op_ne0 {X : Cx} {K : PySem.W.Frag} (hK : X.K = K) (hu : X.A.units + 64 < cLine) : OpR X (compareOp .NotEq) (rNe0 K) := by
  subst hK
  intro pins s σ H x y v u Q I rx ry h
  obtain ⟨a, b, xs, rfl, rfl, ha, hb, q⟩ := h
  cases rx
  cases ry
  obtain ⟨its, r, hp, hz⟩ := I.list ha
  obtain ⟨its2, r2, hp2, _⟩ := I.list hb
  cases r2
  have hlen := r.length
  have z : SeqAt.RcNeAt X.A s (.ref a) (.ref b) (!xs.isEmpty) := by
    cases xs with
    | nil =>
      cases r
      exact SeqAt.RcNeAt.lists (e := fun _ => true) hp.isList hp2.isList rfl (by omega) fun j h1 => absurd h1 (Nat.not_lt_zero _)
    | cons x t =>
      refine SeqAt.RcNeAt.lists_lengths hp.isList hp2.isList ?_ (by omega)
      rw [bne_iff_ne]
      simp only [List.size_toArray, List.length_nil, List.length_cons] at hlen ⊢
      omega
  exact z X.prog X.w _ _ ⟨.bl _, H, I, rfl, q⟩
theorem rd_ne0 {K : PySem.W.Frag} {H : Hp} {Q : VK} {a b : Addr} {xs : List V} (ha : SqL K H a xs) (hb : SqL K H b []) (q : Q (.bl (!xs.isEmpty)) H) : rNe0 K (.ref a) (.ref b) H Q := ⟨a, b, xs, rfl, rfl, ha, hb, q⟩

/-! ### a list that is made is not the table of modules -/
def tLstZ (t : TA) : TE := fun σ H Q => t σ H fun xs H1 => xs.length ≤ sizeLine ∧ ∀ p, H1 p = none → p ≠ sysModules → Q (.ref p) (upd H1 p (.lst xs))
theorem pe_lstZ {X : Cx} {es : List Expr} {t : TA} {pos : Pos} (h : PA X es t) : PE X (.List es pos) (tLstZ t) := by
  refine ⟨fun pins s σ H Q I hq => ?_⟩
  refine wpAny_List_spliced (thn (h.run pos pins s σ H _ I hq) fun us s1 ⟨xs, H1, I1, r, z, q⟩ => ⟨by rw [← r.length]; exact z, ?_⟩)
  have hf : H1 s1.heap.objs.size = none := I1.hok.fresh (Nat.le_refl _)
  refine ⟨.ref s1.heap.objs.size, upd H1 s1.heap.objs.size (.lst xs), I1.laid (t' := s1.toks) (fun b u e => Heap.get?_push_of_some _ e) (Nat.le_refl _) ?_, rfl, q _ hf (Nat.ne_of_gt I1.big)⟩
  exact ⟨z, us, 0, r, Heap.get?_push_size _ rfl⟩
theorem rd_lstZ {t : TA} {σ : L2.St} {H : Hp} {Q : VK} (h : t σ H fun xs H1 => xs.length ≤ sizeLine ∧ ∀ p, H1 p = none → p ≠ sysModules → Q (.ref p) (upd H1 p (.lst xs))) : tLstZ t σ H Q := h

/-! ### data with dicts -/
def kD : Key → PyData
  | .inl i => .int i
  | .inr x => .str x
mutual
inductive Dz (K : PySem.W.Frag) (H : Hp) : V → PyData → Prop
  | non : Dz K H .non .none
  | bl (b : Bool) : Dz K H (.bl b) (.bool b)
  | int (i : Int) : Dz K H (.int i) (.int i)
  | str (x : Str) : Dz K H (.str x) (.str x)
  | lst {a : Addr} {xs : List V} {ds : List PyData} : a ≠ sysModules → SqL K H a xs → DzAll K H xs ds → Dz K H (.ref a) (.list ds)
  | tup {a : Addr} {xs : List V} {ds : List PyData} : SqT K H a xs → DzAll K H xs ds → Dz K H (.ref a) (.tuple ds)
  | dic {a : Addr} {kvs : List (Key × Int)} : H a = some (.dK (kvs.map fun kv => (kv.1, V.int kv.2))) → Dz K H (.ref a) (.dict (kvs.map fun kv => (kD kv.1, .int kv.2)))
inductive DzAll (K : PySem.W.Frag) (H : Hp) : List V → List PyData → Prop
  | nil : DzAll K H [] []
  | cons {v : V} {vs : List V} {d : PyData} {ds : List PyData} : Dz K H v d → DzAll K H vs ds → DzAll K H (v :: vs) (d :: ds)
end
theorem key_rel {k : Key} {v : Value} (h : keyIs k v = true) : RelV (kV k) v := by
  rcases keyIs_shape h with ⟨i, t, rfl, rfl⟩ | ⟨x, t, rfl, rfl⟩
  · exact ⟨_, rfl⟩
  · exact ⟨_, rfl⟩
theorem key_reads {h : Heap} {k : Key} {v : Value} (e : keyIs k v = true) : Reads h v (kD k) [] := by
  rcases keyIs_shape e with ⟨i, t, rfl, rfl⟩ | ⟨x, t, rfl, rfl⟩
  · exact Reads.int i t
  · exact Reads.str x t
theorem reads_val {h : Heap} {v u : Value} {i : Int} (e : v = u) (r : RelV (.int i) u) : Reads h v (.int i) [] := by
  obtain ⟨t, r⟩ := r
  rw [e, r]
  exact Reads.int i t
theorem pairs_reads {h : Heap} {P : Program} {w : World} : ∀ (kvs : List (Key × Int)) (es : List DictEntry) (vs : List (Key × Value)), PySem.Pairs (mixKind P w) es vs → KV (kvs.map fun kv => (kv.1, V.int kv.2)) vs →
    ReadsAll h (es.map (·.key)) ((kvs.map fun kv => (kD kv.1, PyData.int kv.2)).map (·.1)) [] ∧ ReadsAll h (es.map (·.val)) ((kvs.map fun kv => (kD kv.1, PyData.int kv.2)).map (·.2)) [] := by
  intro kvs
  induction kvs with
  | nil =>
    intro es vs hp hk
    cases hk
    cases hp
    exact ⟨.nil, .nil⟩
  | cons kv kvs ih =>
    intro es vs hp hk
    cases hk with
    | cons r s =>
      cases hp with
      | cons h1 h2 t =>
        obtain ⟨a, b⟩ := ih _ _ t s
        obtain ⟨r1, r2⟩ := r
        rw [← r1] at h1
        exact ⟨ReadsAll.cons (as := []) (bs := []) (key_reads h1) a, ReadsAll.cons (as := []) (bs := []) (reads_val h2 r2) b⟩
section
variable {X : Cx} {pins : List (Addr × Obj)} {σ : L2.St} {H : Hp} {s : Shared}
mutual
theorem Dz.reads (I : Inv X pins σ H s) : ∀ (d : PyData) (v : V) (u : Value), Dz X.K H v d → RelV v u → ∃ as, Reads s.heap u d as ∧ sysModules ∉ as
  | .none, _, _, h, r => by
    cases h
    cases r
    exact ⟨_, Reads.none, nofun⟩
  | .bool b, _, _, h, r => by
    cases h
    cases r
    exact ⟨_, Reads.bool b, nofun⟩
  | .int i, _, _, h, r => by
    cases h
    obtain ⟨t, rfl⟩ := r
    exact ⟨_, Reads.int i t, nofun⟩
  | .str x, _, _, h, r => by
    cases h
    obtain ⟨t, rfl⟩ := r
    exact ⟨_, Reads.str x t, nofun⟩
  | .list ds, _, _, h, r => by
    cases h with
    | lst hn hs ha =>
      cases r
      obtain ⟨its, rv, ⟨o, n, ho, hc, _, hd⟩, _⟩ := I.list hs
      obtain ⟨as, hr, hm⟩ := Dz.readsAll I ds _ its ha rv
      exact ⟨_, Reads.list ho hc hd hr, fun z => (List.mem_cons.mp z).elim (fun e => hn e.symm) hm⟩
  | .tuple ds, _, _, h, r => by
    cases h with
    | tup hs ha =>
      cases r
      obtain ⟨its, rv, ⟨o, ho, hc, n, hd⟩, _⟩ := I.tuple hs
      obtain ⟨as, hr, hm⟩ := Dz.readsAll I ds _ its ha rv
      exact ⟨_, Reads.tuple ho hc hd hr, hm⟩
  | .dict ds, _, _, h, r => by
    cases h with
    | dic hs =>
      cases r
      obtain ⟨_, hn, vs, rel, o, es, ep, h1, h2, h3, _, hp, _⟩ := dk_of I.hok hs
      obtain ⟨z1, z2⟩ := pairs_reads (h := s.heap) _ _ _ hp rel
      refine ⟨_, Reads.dict h1 h2.1 h3 z1 z2, fun z => ?_⟩
      have z : sysModules ∈ [_] := z
      exact (beq_eq_false_iff_ne.mp hn) (List.mem_singleton.mp z).symm
theorem Dz.readsAll (I : Inv X pins σ H s) : ∀ (ds : List PyData) (vs : List V) (us : List Value), DzAll X.K H vs ds → Vals vs us → ∃ as, ReadsAll s.heap us ds as ∧ sysModules ∉ as
  | [], _, _, h, r => by
    cases h
    cases r
    exact ⟨_, ReadsAll.nil, nofun⟩
  | d :: ds, _, _, h, r => by
    cases h with
    | cons h1 h2 =>
      cases r with
      | cons r1 r2 =>
        obtain ⟨as, q1, m1⟩ := Dz.reads I d _ _ h1 r1
        obtain ⟨bs, q2, m2⟩ := Dz.readsAll I ds _ _ h2 r2
        exact ⟨_, ReadsAll.cons q1 q2, fun z => (List.mem_append.mp z).elim m1 m2⟩
end
end
/-- a datum of any kind -/
def Dv (K : PySem.W.Frag) (H : Hp) (v : V) (d : PyData) : Prop := Dp K H v d ∨ Dz K H v d
mutual
theorem Dp.noDict {K : PySem.W.Frag} {H : Hp} : ∀ (d : PyData) (v : V), Dp K H v d → d.hasDict = false
  | .none, _, _ => rfl
  | .bool _, _, _ => rfl
  | .int _, _, _ => rfl
  | .str _, _, _ => rfl
  | .list ds, _, h => by
    cases h with
    | lst _ ha => exact Dp.noDictAll ds _ ha
  | .tuple ds, _, h => by
    cases h with
    | tup _ ha => exact Dp.noDictAll ds _ ha
  | .dict _, _, h => by cases h
theorem Dp.noDictAll {K : PySem.W.Frag} {H : Hp} : ∀ (ds : List PyData) (vs : List V), DpAll K H vs ds → PyData.hasDictAll ds = false
  | [], _, _ => rfl
  | d :: ds, _, h => by
    cases h with
    | cons h1 h2 =>
      show (d.hasDict || PyData.hasDictAll ds) = false
      rw [Dp.noDict d _ h1, Dp.noDictAll ds _ h2] <;> rfl
end
theorem Dv.reads {X : Cx} {pins : List (Addr × Obj)} {σ : L2.St} {H : Hp} {s : Shared} (I : Inv X pins σ H s) {d : PyData} {v : V} {u : Value} (h : Dv X.K H v d) (r : RelV v u) :
    ∃ as, Reads s.heap u d as ∧ (d.hasDict = true → sysModules ∉ as) := by
  rcases h with h | h
  · obtain ⟨as, q⟩ := Dp.reads I d v u h r
    exact ⟨as, q, fun z => absurd z (by rw [Dp.noDict d v h]; decide)⟩
  · obtain ⟨as, q, m⟩ := Dz.reads I d v u h r
    exact ⟨as, q, fun _ => m⟩
/-! ### data are shown -/
structure Fair (n k : Nat) (d : PyData) : Prop where
  bulk : d.bulk ≤ n
  depth : d.depth ≤ k
  show_ : d.showable = true
  short : d.leavesShort 40 = true
structure FairAll (n k : Nat) (ds : List PyData) : Prop where
  bulk : PyData.bulkAll ds ≤ n
  depth : PyData.depthAll ds ≤ k
  show_ : PyData.showableAll ds = true
  short : PyData.leavesShortAll 40 ds = true
theorem Fair.mono {n k m j : Nat} {d : PyData} (h : Fair n k d) (a : n ≤ m) (b : k ≤ j) : Fair m j d := ⟨Nat.le_trans h.bulk a, Nat.le_trans h.depth b, h.show_, h.short⟩
theorem FairAll.mono {n k m j : Nat} {d : List PyData} (h : FairAll n k d) (a : n ≤ m) (b : k ≤ j) : FairAll m j d := ⟨Nat.le_trans h.bulk a, Nat.le_trans h.depth b, h.show_, h.short⟩
theorem FairAll.nil {k : Nat} : FairAll 0 k [] := ⟨Nat.le_refl _, Nat.zero_le _, rfl, rfl⟩
theorem FairAll.cons {n m k : Nat} {d : PyData} {ds : List PyData} (h : Fair n k d) (hs : FairAll m k ds) : FairAll (n + 1 + m) k (d :: ds) := by
  refine ⟨?_, ?_, ?_, ?_⟩
  · show d.bulk + 1 + PyData.bulkAll ds ≤ _
    have := h.bulk
    have := hs.bulk
    omega
  · show max d.depth (PyData.depthAll ds) ≤ _
    have := h.depth
    have := hs.depth
    omega
  · show (d.showable && PyData.showableAll ds) = true
    rw [h.show_, hs.show_] <;> rfl
  · show (d.leavesShort 40 && PyData.leavesShortAll 40 ds) = true
    rw [h.short, hs.short] <;> rfl
theorem Fair.tup {n k : Nat} {ds : List PyData} (h : FairAll n k ds) : Fair n (k + 1) (.tuple ds) := ⟨h.bulk, Nat.succ_le_succ h.depth, h.show_, h.short⟩
theorem Fair.lst {n k : Nat} {ds : List PyData} (h : FairAll n k ds) : Fair n (k + 1) (.list ds) := ⟨h.bulk, Nat.succ_le_succ h.depth, h.show_, h.short⟩
mutual
theorem short_mono : ∀ d : PyData, d.leavesShort 13 = true → d.leavesShort 40 = true
  | .none, _ => rfl
  | .bool _, _ => rfl
  | .int i, h => decide_eq_true (Nat.le_trans (of_decide_eq_true h) (by decide))
  | .str _, h => h
  | .list xs, h => short_monoAll xs h
  | .tuple xs, h => short_monoAll xs h
  | .dict xs, h => short_monoKv xs h
theorem short_monoAll : ∀ ds : List PyData, PyData.leavesShortAll 13 ds = true → PyData.leavesShortAll 40 ds = true
  | [], _ => rfl
  | d :: ds, h => by
    have h : (d.leavesShort 13 && PyData.leavesShortAll 13 ds) = true := h
    rw [Bool.and_eq_true] at h
    show (d.leavesShort 40 && PyData.leavesShortAll 40 ds) = true
    rw [short_mono d h.1, short_monoAll ds h.2] <;> rfl
theorem short_monoKv : ∀ ds : List (PyData × PyData), PyData.leavesShortKv 13 ds = true → PyData.leavesShortKv 40 ds = true
  | [], _ => rfl
  | (k, v) :: ds, h => by
    have h : (k.leavesShort 13 && v.leavesShort 13 && PyData.leavesShortKv 13 ds) = true := h
    rw [Bool.and_eq_true, Bool.and_eq_true] at h
    show (k.leavesShort 40 && v.leavesShort 40 && PyData.leavesShortKv 40 ds) = true
    rw [short_mono k h.1.1, short_mono v h.1.2, short_monoKv ds h.2] <;> rfl
end
theorem Nice.fair {n k : Nat} {d : PyData} (h : Nice n k d) : Fair n k d := ⟨h.bulk, h.depth, h.show_, short_mono d h.short⟩
theorem Fair.fits {n k : Nat} {d : PyData} (h : Fair n k d) (hn : n ≤ 2 ^ 18) : d.shown.length ≤ sizeLine := by
  have z := PyData.shown_le_bulk 40 (by decide) d h.short
  have hb := h.bulk
  rw [sizeLine_eq]
  omega
def rReprV (K : PySem.W.Frag) : List V → Hp → VK → Prop := fun xs H Q => ∃ (x : V) (d : PyData), xs = [x] ∧ Dv K H x d ∧ d.showable = true ∧ d.depth ≤ 40 ∧ d.shown.length ≤ sizeLine ∧ Q (.str d.shown) H
theorem c_reprV {X : Cx} {K : PySem.W.Frag} (hK : X.K = K) (hg : X.A.guards = some []) (hu : X.A.units + 64 < cLine) : CallR X (.builtin "repr") (rReprV K) := by
  subst hK
  intro pins s σ H xs us Q I r h
  obtain ⟨x, d, rfl, hd, h1, h4, h5, q⟩ := h
  obtain ⟨u, rfl, ru⟩ := vals1 r
  obtain ⟨as, rd, hm⟩ := hd.reads I ru
  cases rd with
  | none => exact P.repr_of_none ⟨.str _, H, I.tok _, ⟨_, rfl⟩, q⟩
  | bool b => exact P.repr_of_bool ⟨.str _, H, I.tok _, ⟨_, rfl⟩, q⟩
  | int i t => exact P.repr_of_int (of_decide_eq_true h1) ⟨.str _, H, I.tok _, ⟨_, rfl⟩, q⟩
  | str y t => exact P.repr_of_str (hsz := h5) ⟨.str _, H, I.tok _, ⟨_, rfl⟩, q⟩
  | list a b c e => exact repr_of_reads' (.list a b c e) h1 hm hg (by omega) (fun _ _ e => e) (fun h' tk u hk => ⟨.str _, H, I.kept hk, ⟨_, rfl⟩, q⟩) h5
  | tuple a b c e => exact repr_of_reads' (.tuple a b c e) h1 hm hg (by omega) (fun _ _ e => e) (fun h' tk u hk => ⟨.str _, H, I.kept hk, ⟨_, rfl⟩, q⟩) h5
  | dict a b c e f => exact repr_of_reads' (.dict a b c e f) h1 hm hg (by omega) (fun _ _ e => e) (fun h' tk u hk => ⟨.str _, H, I.kept hk, ⟨_, rfl⟩, q⟩) h5
theorem rd_reprV {K : PySem.W.Frag} {H : Hp} {Q : VK} {x : V} {d : PyData} {n k : Nat} (hx : Dv K H x d) (h : Fair n k d) (hn : n ≤ 2 ^ 18) (hk : k ≤ 40) (q : Q (.str d.shown) H) : rReprV K [x] H Q :=
  ⟨x, d, rfl, hx, h.show_, Nat.le_trans h.depth hk, h.fits hn, q⟩
/-! ### of which class a datum is -/
def tyD : PyData → String
  | .none => "NoneType"
  | .bool _ => "bool"
  | .int _ => "int"
  | .str _ => "str"
  | .list _ => "list"
  | .tuple _ => "tuple"
  | .dict _ => "dict"
theorem ty_l {K : PySem.W.Frag} {H : Hp} {a : Addr} {xs : List V} (h : SqL K H a xs) : TyX K H (.ref a) (.type "list") := by
  rcases h with h | ⟨o, _, _, hk, hc, _⟩
  · rcases h with h | ⟨o, h⟩
    · exact .base (.lst h)
    · exact .base (.frz h)
  · exact .kList hk hc
theorem ty_t {K : PySem.W.Frag} {H : Hp} {a : Addr} {xs : List V} (h : SqT K H a xs) : TyX K H (.ref a) (.type "tuple") := by
  rcases h with h | ⟨o, _, _, hk, hc, _⟩
  · rcases h with h | ⟨o, h⟩
    · exact .base (.tup h)
    · exact .fTuple h
  · exact .kTuple hk hc
theorem Dv.ty {K : PySem.W.Frag} {H : Hp} {v : V} {d : PyData} (h : Dv K H v d) : TyX K H v (.type (tyD d)) := by
  rcases h with h | h
  · cases h with
    | non => exact .base .non
    | bl b => exact .base (.bl b)
    | int i => exact .base (.int i)
    | str x => exact .base (.str x)
    | lst h _ => exact ty_l h
    | tup h _ => exact ty_t h
  · cases h with
    | non => exact .base .non
    | bl b => exact .base (.bl b)
    | int i => exact .base (.int i)
    | str x => exact .base (.str x)
    | lst _ h _ => exact ty_l h
    | tup h _ => exact ty_t h
    | dic h => exact .base (.dK h)
theorem c_isi {X : Cx} {K : PySem.W.Frag} (hK : X.K = K) : CallR X (.builtin "isinstance") (rIsi K) := hK ▸ call_isi
/-- isinstance(x, T), T a built-in type -/
def isD (T : String) (d : PyData) : Bool := (kitB (tyD d) T).getD false
theorem rd_isD {K : PySem.W.Frag} {H : Hp} {Q : VK} {v : V} {d : PyData} {T : String} (h : Dv K H v d) (hT : ∀ t ∈ ["NoneType", "bool", "int", "str", "list", "tuple", "dict"], (kitB t T).isSome = true) (q : Q (.bl (isD T d)) H) :
    rIsi K [v, .ty T] H Q := by
  have hs : (kitB (tyD d) T).isSome = true := hT _ (by cases d <;> simp [tyD])
  refine ⟨v, .ty T, .type (tyD d), .type T, isD T d, rfl, .ty T, h.ty, kit_ty ?_, q⟩
  unfold isD
  obtain ⟨b, e⟩ := Option.isSome_iff_exists.mp hs
  rw [e] <;> rfl
/-! ### data stay -/
mutual
theorem dz_ex {K : PySem.W.Frag} {H H' : Hp} (e : Evl.Ex H H') : ∀ (d : PyData) (v : V), Dz K H v d → Dz K H' v d
  | .none, _, h => by
    cases h
    exact .non
  | .bool b, _, h => by
    cases h
    exact .bl b
  | .int i, _, h => by
    cases h
    exact .int i
  | .str x, _, h => by
    cases h
    exact .str x
  | .list ds, _, h => by
    cases h with
    | lst hn hs ha => exact .lst hn (Evl.ex_l e hs) (dzAll_ex e ds _ ha)
  | .tuple ds, _, h => by
    cases h with
    | tup hs ha => exact .tup (Evl.ex_t e hs) (dzAll_ex e ds _ ha)
  | .dict ds, _, h => by
    cases h with
    | dic hs => exact .dic (e _ _ hs)
theorem dzAll_ex {K : PySem.W.Frag} {H H' : Hp} (e : Evl.Ex H H') : ∀ (ds : List PyData) (vs : List V), DzAll K H vs ds → DzAll K H' vs ds
  | [], _, h => by
    cases h
    exact .nil
  | d :: ds, _, h => by
    cases h with
    | cons h1 h2 => exact .cons (dz_ex e d _ h1) (dzAll_ex e ds _ h2)
end
theorem Dv.ex {K : PySem.W.Frag} {H H' : Hp} (e : Evl.Ex H H') {d : PyData} {v : V} (h : Dv K H v d) : Dv K H' v d := h.elim (fun h => .inl (dp_ex e d v h)) fun h => .inr (dz_ex e d v h)
theorem dz_get {K : PySem.W.Frag} {H : Hp} {x : V} : ∀ {xs : List V} {ds : List PyData} {i : Nat}, DzAll K H xs ds → xs[i]? = some x → ∃ d, ds[i]? = some d ∧ Dz K H x d
  | _, _, 0, .cons h _, e => by
    obtain rfl : _ = x := Option.some.inj e
    exact ⟨_, rfl, h⟩
  | _, _, i + 1, .cons _ h, e => dz_get (i := i) h e
  | _, _, i, .nil, e => by simp at e
theorem dz_len {K : PySem.W.Frag} {H : Hp} : ∀ {xs : List V} {ds : List PyData}, DzAll K H xs ds → xs.length = ds.length
  | _, _, .nil => rfl
  | _, _, .cons _ h => congrArg (· + 1) (dz_len h)
theorem dp_get {K : PySem.W.Frag} {H : Hp} {x : V} : ∀ {xs : List V} {ds : List PyData} {i : Nat}, DpAll K H xs ds → xs[i]? = some x → ∃ d, ds[i]? = some d ∧ Dp K H x d
  | _, _, 0, .cons h _, e => by
    obtain rfl : _ = x := Option.some.inj e
    exact ⟨_, rfl, h⟩
  | _, _, i + 1, .cons _ h, e => dp_get (i := i) h e
  | _, _, i, .nil, e => by simp at e
theorem dp_len {K : PySem.W.Frag} {H : Hp} : ∀ {xs : List V} {ds : List PyData}, DpAll K H xs ds → xs.length = ds.length
  | _, _, .nil => rfl
  | _, _, .cons _ h => congrArg (· + 1) (dp_len h)
/-- a tuple of data -/
theorem Dv.tuple {K : PySem.W.Frag} {H : Hp} {v : V} {ds : List PyData} (h : Dv K H v (.tuple ds)) :
    ∃ a xs, v = .ref a ∧ SqT K H a xs ∧ xs.length = ds.length ∧ ∀ (i : Nat) (x : V), xs[i]? = some x → ∃ d, ds[i]? = some d ∧ Dv K H x d := by
  rcases h with h | h
  · cases h with
    | tup hs ha => exact ⟨_, _, rfl, hs, dp_len ha, fun i x e => let ⟨d, h1, h2⟩ := dp_get ha e; ⟨d, h1, .inl h2⟩⟩
  · cases h with
    | tup hs ha => exact ⟨_, _, rfl, hs, dz_len ha, fun i x e => let ⟨d, h1, h2⟩ := dz_get ha e; ⟨d, h1, .inr h2⟩⟩
theorem Dv.int {K : PySem.W.Frag} {H : Hp} {v : V} {i : Int} (h : Dv K H v (.int i)) : v = .int i := by
  rcases h with h | h <;> cases h <;> rfl
theorem dz_ints {K : PySem.W.Frag} {H : Hp} : ∀ (ns : List Int), DzAll K H (ns.map V.int) (dI ns)
  | [] => .nil
  | n :: r => .cons (.int n) (dz_ints r)
theorem dz_app {K : PySem.W.Frag} {H : Hp} : ∀ {xs ys : List V} {ds es : List PyData}, DzAll K H xs ds → DzAll K H ys es → DzAll K H (xs ++ ys) (ds ++ es)
  | _, _, _, _, .nil, h => h
  | _, _, _, _, .cons h t, h2 => .cons h (dz_app t h2)
theorem dp_app {K : PySem.W.Frag} {H : Hp} : ∀ {xs ys : List V} {ds es : List PyData}, DpAll K H xs ds → DpAll K H ys es → DpAll K H (xs ++ ys) (ds ++ es)
  | _, _, _, _, .nil, h => h
  | _, _, _, _, .cons h t, h2 => .cons h (dp_app t h2)
/-! ### t[::-1] -/
theorem rev_pickedV (L : List Value) : (List.range L.length).filterMap (fun k => L[L.length - 1 - k]?) = L.reverse := by
  have e : (List.range L.length).filterMap (fun k => L[L.length - 1 - k]?) = (List.range L.length).filterMap (fun k => some (L.reverse.getD k Value.none)) := by
    refine fm_congr fun k hk => ?_
    have hk := List.mem_range.mp hk
    rw [List.getElem?_eq_getElem (by omega), List.getD_eq_getElem?_getD, List.getElem?_eq_getElem (by rw [List.length_reverse]; exact hk), Option.getD_some, List.getElem_reverse]
  rw [e, List.filterMap_eq_map']
  refine List.ext_getElem (by simp) fun i h1 h2 => ?_
  rw [List.getElem_map, List.getElem_range, List.getD_eq_getElem?_getD, List.getElem?_eq_getElem h2, Option.getD_some]
section
variable {prog : Program} {w : World} {A : Around} {E : Value → Shared → Prop} {s : Shared}
theorem sliceApplied_rev {sl : Addr} {vl vu vs : Value} {n : Nat} {Q : Int × Int × Nat → Shared → Prop} (hs : s.heap.IsSliceOf sl vl vu vs) (pl : IsPart vl none) (pu : IsPart vu none) (ps : IsPart vs (some (-1)))
    (h : Q ((n : Int) - 1, -1, n) s) : wpAny (model prog w) A (Builtin.Slice.sliceApplied (.ref sl) (pure (n : Int))) Q E s := by
  obtain ⟨os, hos, hcs, hds⟩ := id hs
  unfold Builtin.Slice.sliceApplied Builtin.Slice.sliceFields
  refine wpAny_bind (wpAny_bind (wpAny_field hos hds (x := vl) rfl (wpAny_bind (wpAny_field hos hds (x := vu) rfl (wpAny_bind (wpAny_field hos hds (x := vs) rfl (wpAny_pure ?_)))))))
  refine wpAny_bind (HT.slicePart_ ps ?_)
  show wpAny _ _ (if ((-1 : Int) == 0) = true then _ else _) _ _ s
  rw [if_neg (by decide)]
  refine wpAny_bind (HT.slicePart_ pl (wpAny_bind (HT.slicePart_ pu (wpAny_bind (wpAny_pure ?_)))))
  show wpAny _ _ (match Builtin.Slice.sliceAdjust none none (-1) (n : Int) with | (lo, hi) => pure (lo, (-1 : Int), Builtin.Slice.slicePlaces lo hi (-1))) _ _ s
  have e1 : Builtin.Slice.sliceAdjust none none (-1) (n : Int) = ((n : Int) - 1, -1) := rfl
  have e2 : Builtin.Slice.slicePlaces ((n : Int) - 1) (-1) (-1) = n := by
    unfold Builtin.Slice.slicePlaces
    rw [if_neg (by decide)]
    by_cases h0 : (n : Int) - 1 > -1
    · rw [if_pos h0]
      have : -(-1 : Int) = 1 := rfl
      rw [this, Int.ediv_one]
      omega
    · rw [if_neg h0]
      omega
  rw [e1]
  show wpAny _ _ (pure ((n : Int) - 1, (-1 : Int), Builtin.Slice.slicePlaces ((n : Int) - 1) (-1) (-1))) _ _ s
  rw [e2]
  exact wpAny_pure h
theorem getItem_tuple_rev {t sl : Addr} {items : Array Value} {vl vu vs : Value} {Q : Value → Shared → Prop} (ht : IsTup s.heap t items) (hs : s.heap.IsSliceOf sl vl vu vs) (pl : IsPart vl none) (pu : IsPart vu none) (ps : IsPart vs (some (-1)))
    (h : Q (.ref s.heap.objs.size) { s with heap := s.heap.push { cls := .type "tuple", data := .seq items.toList.reverse.toArray } })
    (hsz : items.size ≤ sizeLine) : wpAny (model prog w) A (getItem (.ref t) (.ref sl)) Q E s := by
  have hdrop : sizeOk (.seq items.toList.reverse.toArray) := by
    show items.toList.reverse.toArray.size ≤ sizeLine
    rw [List.size_toArray, List.length_reverse, Array.length_toList]
    exact hsz
  obtain ⟨os, hos, hcs, hds⟩ := id hs
  have hTs : s.TypeIs (.ref sl) "slice" := ⟨os, hos, hcs⟩
  unfold getItem
  try with_reducible refine wpAny_holding ?_
  first | refine wpAny_bind (wpAny_pure ?_) | skip
  refine wpAny_bind (wpAny_sequenceKey ht.typeIs (by decide) ?_)
  refine wpAny_bind (wpAny_callSpecial?_slot (name := Str.ofString "__getitem__") ht.typeIs PyProof.Rows.slot_tuple_getitem
    (wpAny_call_entry PyProof.Rows.slot_tuple_getitem ht.typeIs entry_tuple_getitem ?_ (args_tuple_getitem _ _)))
  show wpAny _ _ (Builtin.Tuple.tupleItemsOf (.ref t) >>= _) _ _ s
  refine wpAny_bind (tupleItemsOf_ ht ?_)
  refine wpAny_bind (wpAny_typeOf hTs ?_)
  rw [if_pos (by decide)]
  refine wpAny_bind (sliceApplied_rev hs pl pu ps ?_)
  have hno : ¬ ((((items.size : Int) - 1) == 0 && (-1 : Int) == 1 && items.size == items.size) = true) := by
    intro z
    have z := (Bool.and_eq_true _ _ |>.mp z).1
    have z := (Bool.and_eq_true _ _ |>.mp z).2
    cases z
  show wpAny _ _ (if (((items.size : Int) - 1) == 0 && (-1 : Int) == 1 && items.size == items.size) = true then _ else _) _ _ s
  have hp : ((List.range items.size).filterMap fun (k : Nat) => items[((items.size : Int) - 1 + (k : Int) * -1).toNat]?).toArray = items.toList.reverse.toArray := by
    congr 1
    rw [← rev_pickedV items.toList, Array.length_toList]
    refine fm_congr fun k hk => ?_
    have hk := List.mem_range.mp hk
    rw [Array.getElem?_toList]
    congr 1
    omega
  rw [if_neg hno, hp]
  first
    | exact wpAny_bind (m := Builtin.Tuple.tupleExact _) (wpAny_newObj_type (wpAny_pure ⟨_, rfl, wpAny_pure h⟩) hdrop)
    | exact wpAny_bind (m := Builtin.Tuple.tupleExact _) (wpAny_newObj_type (wpAny_bind (wpAny_pure (wpAny_pure ⟨_, rfl, wpAny_pure h⟩))) hdrop)
    | exact wpAny_bind (wpAny_bind (m := Builtin.Tuple.tupleExact _) (wpAny_newObj_type (wpAny_pure (wpAny_pure ⟨_, rfl, wpAny_pure h⟩)) hdrop))
    | exact wpAny_bind (wpAny_bind (m := Builtin.Tuple.tupleExact _) (wpAny_newObj_type (wpAny_pure ⟨_, rfl, wpAny_pure h⟩) hdrop))
end
def tRevT (K : PySem.W.Frag) (te : TE) : TE := fun σ H Q => te σ H fun x H1 => ∃ a xs, x = .ref a ∧ SqT K H1 a xs ∧ ∀ p, H1 p = none → Q (.ref p) (upd H1 p (.tup xs.reverse))
theorem pe_revT {X : Cx} {K : PySem.W.Frag} (hK : X.K = K) {e : Expr} {te : TE} {k : Nat} {p1 p2 p3 pos : Pos} (he : PE X e te) :
    PE X (.Subscript e (.Slice none none (some (.UnaryOp .USub (.Constant (.int 1) k p1) p2)) p3) pos) (tRevT K te) := by
  subst hK
  refine ⟨fun pins s σ H Q I h => ?_⟩
  refine Subscript_ (thn (he.run pins s σ H _ I h) fun v s1 ⟨x, H1, I1, r1, q1⟩ => ?_)
  obtain ⟨a, xs, ex, hx, q⟩ := q1
  subst ex
  cases r1
  have hst : PO X (some (.UnaryOp .USub (.Constant (.int 1) k p1) p2)) (tPart (tUn (rU fun i => .int (-i)) (tC (.int 1)))) := po_some (pe_un un_neg pe_int)
  refine wpAny_Slice (thn (po_none.run pins s1 σ H1 (fun o H2 => o = none ∧ H2 = H1) I1 ⟨rfl, rfl⟩) fun vl s2 ⟨l, H2, I2, pl, el, e2⟩ => ?_)
  subst el e2
  refine thn (po_none.run pins s2 σ H2 (fun o H3 => o = none ∧ H3 = H2) I2 ⟨rfl, rfl⟩) fun vu s3 ⟨u, H3, I3, pu, eu, e3⟩ => ?_
  subst eu e3
  refine thn (hst.run pins s3 σ H3 (fun o H4 => o = some (-1) ∧ H4 = H3) I3 ⟨1, rfl, -1, rfl, rfl, rfl⟩) fun vs s4 ⟨o, H4, I4, ps, eo, e4⟩ => ?_
  subst eo e4
  have I5 : Inv X pins σ H4 { s4 with heap := s4.heap.push { cls := .type "slice", data := .fields #[vl, vu, vs] } } := I4.kept (t' := s4.toks) fun b ob q => Heap.get?_push_of_some _ q
  obtain ⟨its, r, ht, hz⟩ := I5.tuple hx
  have hlen := r.length
  show wpAny (model X.prog X.w) X.A (subscriptTail e (.Slice none none (some (.UnaryOp .USub (.Constant (.int 1) k p1) p2)) p3) (.ref a) (.ref s4.heap.objs.size)) (EP X pins σ Q) X.xe { s4 with heap := s4.heap.push { cls := .type "slice", data := .fields #[vl, vu, vs] } }
  refine tail_any (ops := [.ref a, .ref s4.heap.objs.size]) ht.typeIs (PyProof.Rows.slot_tuple_getitem.lookup) ?_ (by with_unfolding_all rfl)
  refine getItem_tuple_rev ht (Heap.IsSliceOf.new _ vl vu vs) pl pu ps ?_ (by rw [List.size_toArray]; omega)
  refine ⟨.ref _, _, I5.laid (t' := s4.toks) (o := .tup xs.reverse) (fun b ob q => Heap.get?_push_of_some _ q) (Nat.le_refl _) ?_, rfl, q _ (I5.hok.fresh (Nat.le_refl _))⟩
  exact ⟨by rw [List.length_reverse]; exact hz, its.reverse, r.reverse, ⟨_, Heap.get?_push_size _ rfl, rfl, 0, rfl⟩⟩
theorem rd_revT {K : PySem.W.Frag} {te : TE} {σ : L2.St} {H : Hp} {Q : VK} (h : te σ H fun x H1 => ∃ a xs, x = .ref a ∧ SqT K H1 a xs ∧ ∀ p, H1 p = none → Q (.ref p) (upd H1 p (.tup xs.reverse))) : tRevT K te σ H Q := h
end Ea
set_option Elab.async false
set_option linter.all false
set_option maxRecDepth 100000
set_option maxHeartbeats 400000
/-! A for over enumerate of a tuple; what lies off the deck. -/
namespace Ea
open PySem PySem.Spec PyProof PyProof.Rows L2
theorem rd_ifV {tt : TT} {te tz : TE} {σ : L2.St} {H : Hp} {Q : VK} (I : V → Hp → Prop) (h1 : ∀ Q' : VK, (∀ v H', I v H' → Q' v H') → tIf tt te tz σ H Q') (h : ∀ v H', I v H' → Q v H') : tIf tt te tz σ H Q := h1 Q h
section
variable {K : PySem.W.Frag} {σ : L2.St} {H : Hp} {tb : TS} {D : Ends} {j1 j2 k : Nat} {n : Nat} {px py : Nat → V} {J : It}
/-- a for over pairs that are made for it -/
theorem fr_pairs (hk : k = 2) (Pv : Nat → L2.St → Hp → Prop) (h0 : Pv 0 σ H) (go : ∀ i σ H', Pv i σ H' → i < n → J.go i H') (stop : ∀ σ H', Pv n σ H' → J.stop n H')
    (yld : ∀ i σ H1 x H2, Pv i σ H1 → i < n → J.yld i H1 x H2 → ∃ T, x = .ref T ∧ H1 T = none ∧ H2 = upd H1 T (.tup [px i, py i]))
    (hs : ∀ i σ H1 T, i < n → Pv i σ H1 → H1 T = none → tb { D with nx := Pv (i + 1), ct := Pv (i + 1), bk := D.nx } ((σ.set j1 (some (px i))).set j2 (some (py i))) (upd H1 T (.tup [px i, py i])))
    (hd : ∀ σ H, Pv n σ H → D.nx σ H) : ForR (gTup K k (gCons (gName j1) (gCons (gName j2) gNil))) tb D σ J H := by
  refine ⟨fun i m σ' H' => i + m = n ∧ Pv i σ' H', ⟨n, by omega, h0⟩, fun i m σ' H' hW => ?_⟩
  obtain ⟨em, hp⟩ := hW
  by_cases hi : i < n
  · refine .inr ⟨go i σ' H' hp hi, Pv (i + 1), fun σ2 H2 h2 => ⟨m - 1, by omega, by omega, h2⟩, fun x H2 hy => ?_⟩
    obtain ⟨T, rfl, hT, rfl⟩ := yld i σ' H' x H2 hp hi hy
    exact rd_gtup2 (x := px i) (y := py i) (SqT.of upd_same) hk rfl (hs i σ' H' T hi hp hT)
  · have hin : i = n := by omega
    subst hin
    exact .inl ⟨stop σ' H' hp, hd σ' H' hp⟩
theorem fr_enumT {a : Addr} {xs : List V} (hk : k = 2) (Pv : Nat → L2.St → Hp → Prop) (h0 : Pv 0 σ H) (hl : ∀ i σ H, Pv i σ H → SqT K H a xs)
    (hs : ∀ i σ H1 T, i < xs.length → Pv i σ H1 → H1 T = none → tb { D with nx := Pv (i + 1), ct := Pv (i + 1), bk := D.nx } ((σ.set j1 (some (.int (i : Nat)))).set j2 (some (xs.getD i .non))) (upd H1 T (.tup [.int (i : Nat), xs.getD i .non])))
    (hd : ∀ σ H, Pv xs.length σ H → D.nx σ H) : ForR (gTup K k (gCons (gName j1) (gCons (gName j2) gNil))) tb D σ (IteT K a) H :=
  fr_pairs (px := fun i => .int (i : Nat)) (py := fun i => xs.getD i .non) hk Pv h0 (fun i σ H' p hi => ⟨xs, xs[i], hl i σ H' p, List.getElem?_eq_getElem hi⟩) (fun σ H' p => ⟨xs, hl _ σ H' p, rfl⟩)
    (fun i σ H1 x H2 p hi hy => by
      obtain ⟨T, y, rfl, hT, rfl, h⟩ := hy
      have := h xs (hl i σ H1 p)
      refine ⟨T, rfl, hT, ?_⟩
      show _ = upd H1 T (.tup [.int (i : Nat), xs.getD i .non])
      rw [List.getD_eq_getElem?_getD, this] <;> rfl) hs hd
end
/-! ### off the deck -/
def off (d l : Addr) (H : Hp) : Hp := fun a => if a = d ∨ a = l then none else H a
section
variable {d l : Addr} {H H' : Hp} {K : PySem.W.Frag}
theorem off_ex : Evl.Ex (off d l H) H := fun a o e => by
  unfold off at e
  by_cases h : a = d ∨ a = l
  · rw [if_pos h] at e
    cases e
  · rw [if_neg h] at e
    exact e
theorem off_mono (h : ∀ a o, a ≠ d → a ≠ l → H a = some o → H' a = some o) : Evl.Ex (off d l H) (off d l H') := fun a o e => by
  unfold off at e ⊢
  by_cases q : a = d ∨ a = l
  · rw [if_pos q] at e
    cases e
  · rw [if_neg q] at e ⊢
    exact h a o (fun z => q (.inl z)) (fun z => q (.inr z)) e
theorem Gl.off (g : Gl d l H H') : Evl.Ex (off d l H) (off d l H') := off_mono g.kp
theorem off_at {p : Addr} {o : HO} (h1 : p ≠ d) (h2 : p ≠ l) (e : H p = some o) : Ea.off d l H p = some o := by
  unfold Ea.off
  rw [if_neg fun z => z.elim h1 h2]
  exact e
theorem off_tup {a : Addr} {xs : List V} (hD : DeckL d l H) (h : SqT K H a xs) : SqT K (Ea.off d l H) a xs := by
  obtain ⟨ns, m, c, e1, e2, _⟩ := hD
  have hn : ∀ {o : HO}, H a = some o → (∀ ys, o ≠ .lst ys) → Ea.off d l H a = some o := fun e c2 =>
    off_at (fun z => (by rw [z, e1] at e; cases e; exact c2 _ rfl)) (fun z => (by rw [z, e2] at e; cases e; exact c2 _ rfl)) e
  rcases h with (t | ⟨o, t⟩) | t
  · exact .inl (.inl (hn t nofun))
  · exact .inl (.inr ⟨o, hn t nofun⟩)
  · exact .inr t
mutual
theorem off_dp (hD : DeckL d l H) : ∀ (e : PyData) (v : V), noL e = true → Dp K H v e → Dp K (Ea.off d l H) v e
  | .none, _, _, h => by
    cases h
    exact .non
  | .bool b, _, _, h => by
    cases h
    exact .bl b
  | .int i, _, _, h => by
    cases h
    exact .int i
  | .str x, _, _, h => by
    cases h
    exact .str x
  | .list ds, _, c, _ => by cases c
  | .dict ds, _, c, _ => by cases c
  | .tuple ds, _, c, h => by
    cases h with
    | tup hs ha => exact .tup (off_tup hD hs) (off_dps hD ds _ c ha)
theorem off_dps (hD : DeckL d l H) : ∀ (es : List PyData) (vs : List V), noLs es = true → DpAll K H vs es → DpAll K (Ea.off d l H) vs es
  | [], _, _, h => by
    cases h
    exact .nil
  | e :: es, _, c, h => by
    have c : (noL e && noLs es) = true := c
    rw [Bool.and_eq_true] at c
    cases h with
    | cons h1 h2 => exact .cons (off_dp hD e _ c.1 h1) (off_dps hD es _ c.2 h2)
end
theorem Dv.on {v : V} {e : PyData} (h : Dv K (Ea.off d l H) v e) : Dv K H v e := h.ex off_ex
theorem Dv.gl {v : V} {e : PyData} (g : Gl d l H H') (h : Dv K (Ea.off d l H) v e) : Dv K (Ea.off d l H') v e := h.ex g.off
end
/-! ### comprehensions over rows of data, each turned into a plain value -/
section
variable {K : PySem.W.Frag} {σ : L2.St} {H : Hp} {Q : VK} {tt : TT} {te : TE} {vs : List Nat} {j : Nat} {σx : V → L2.St} {a : Addr} {xs : List V} {ρ : Type} {F : ρ → PyData} {rs : List ρ} {f : ρ → Bool} {g : ρ → V}
abbrev TurnW (K : PySem.W.Frag) (H : Hp) (tt : TT) (te : TE) (σx : V → L2.St) (F : ρ → PyData) (f : ρ → Bool) (g : ρ → V) (r : ρ) : Prop :=
  ∀ (v : V) (H' : Hp) (N : VK) (S : Hp → Prop), Evl.Ex H H' → Dp K H' v (F r) → (f r = true → ∀ H3, Evl.Ex H' H3 → N (g r) H3) → (f r = false → ∀ H3, Evl.Ex H' H3 → S H3) →
    tt (σx v) H' fun b H2 => if b = true then te (σx v) H2 N else S H2
def Cw (H : Hp) (rs : List ρ) (f : ρ → Bool) (g : ρ → V) (D : Addr) (i : Nat) (H' : Hp) : Prop := H D = none ∧ Evl.Ex H H' ∧ H' D = some (.lst (((rs.take i).filter f).map g))
theorem cw_turn {D : Addr} {i : Nat} {r : ρ} {v : V} {H' : Hp} (hi : rs[i]? = some r) (hz : rs.length ≤ 40000) (ht : TurnW K H tt te σx F f g r) (hv : Dp K H v (F r)) (p : Cw H rs f g D i H') :
    tt (σx v) H' fun b H3 => if b = true then te (σx v) H3 fun y H4 => ∃ acc, H4 D = some (.lst acc) ∧ acc.length < sizeLine ∧ Cw H rs f g D (i + 1) (upd H4 D (.lst (acc ++ [y]))) else Cw H rs f g D (i + 1) H3 := by
  obtain ⟨e, ex, ea⟩ := p
  have hl : (((rs.take i).filter f).map g).length < 100000 := by
    rw [List.length_map]
    have h1 := List.length_filter_le f (rs.take i)
    have h3 := List.length_take (i := i) (l := rs)
    omega
  refine ht v H' _ _ ex (dp_ex ex _ _ hv) (fun hf H3 e3 => ?_) fun hf H3 e3 => ?_
  · refine ⟨_, e3 D _ ea, Evl.sz_lt hl, e, Evl.Ex.mut (ex.trans e3) e, ?_⟩
    have : ((some r).toList.filter f) = [r] := by simp [hf]
    rw [upd_same, List.take_add_one, hi, List.filter_append, List.map_append, this] <;> rfl
  · refine ⟨e, ex.trans e3, ?_⟩
    have : ((some r).toList.filter f) = [] := by simp [hf]
    rw [List.take_add_one, hi, List.filter_append, this, List.append_nil]
    exact e3 D _ ea
theorem lc_dvT (F : ρ → PyData) (f : ρ → Bool) (g : ρ → V) (hx : SqT K H a xs) (hd : DpAll K H xs (rs.map F)) (hz : rs.length ≤ 40000) (hσ : ∀ x, (wipe σ vs).set j (some x) = σx x) (hw : ∀ x, wipe (σx x) vs = wipe σ vs)
    (hs : ∀ r ∈ rs, TurnW K H tt te σx F f g r)
    (hq : ∀ D H', Evl.Ex H H' → H D = none → H' D = some (.lst ((rs.filter f).map g)) → Q (.ref D) H') : LcR (gName j) tt te vs σ Q (Itt K a) H := fun D hn =>
  lc_tup (xs := xs) (Cw H rs f g D) ⟨hn, Evl.Ex.new hn, upd_same⟩ (fun i H' _ ⟨_, ex, _⟩ => Evl.ex_t ex hx) (fun i x H' hi p => by
    obtain ⟨d, h1, h2⟩ := dpAll_at hd hi
    rw [List.getElem?_map] at h1
    obtain ⟨r, hr, rfl⟩ := Option.map_eq_some_iff.mp h1
    rw [show gName j x (wipe σ vs) H' = fun N => N (σx x) H' from funext fun N => by rw [← hσ x] <;> rfl]
    exact ⟨hw _, cw_turn hr hz (hs r (List.mem_of_getElem? hr)) h2 p⟩) fun H' p => by
    obtain ⟨e, ex, ea⟩ := p
    have lx := dpAll_size hd
    rw [List.length_map] at lx
    rw [lx, List.take_of_length_le (Nat.le_refl _)] at ea
    exact hq D H' ex e ea
theorem lc_dvL (F : ρ → PyData) (f : ρ → Bool) (g : ρ → V) (hx : SqL K H a xs) (hd : DpAll K H xs (rs.map F)) (hz : rs.length ≤ 40000) (hσ : ∀ x, (wipe σ vs).set j (some x) = σx x) (hw : ∀ x, wipe (σx x) vs = wipe σ vs)
    (hs : ∀ r ∈ rs, TurnW K H tt te σx F f g r)
    (hq : ∀ D H', Evl.Ex H H' → H D = none → H' D = some (.lst ((rs.filter f).map g)) → Q (.ref D) H') : LcR (gName j) tt te vs σ Q (Itl K a) H := fun D hn =>
  lc_list (xs := xs) (Cw H rs f g D) ⟨hn, Evl.Ex.new hn, upd_same⟩ (fun i H' _ ⟨_, ex, _⟩ => Evl.ex_l ex hx) (fun i x H' hi p => by
    obtain ⟨d, h1, h2⟩ := dpAll_at hd hi
    rw [List.getElem?_map] at h1
    obtain ⟨r, hr, rfl⟩ := Option.map_eq_some_iff.mp h1
    rw [show gName j x (wipe σ vs) H' = fun N => N (σx x) H' from funext fun N => by rw [← hσ x] <;> rfl]
    exact ⟨hw _, cw_turn hr hz (hs r (List.mem_of_getElem? hr)) h2 p⟩) fun H' p => by
    obtain ⟨e, ex, ea⟩ := p
    have lx := dpAll_size hd
    rw [List.length_map] at lx
    rw [lx, List.take_of_length_le (Nat.le_refl _)] at ea
    exact hq D H' ex e ea
end
theorem rd_noneI {K : PySem.W.Frag} {H : Hp} {Q : VK} {a p : Addr} {ns : List Int} (hx : SqL K H a (ns.map V.int)) (hp : SqL K H p []) (q : Q (.bl ns.isEmpty) H) : rEqD K (.ref a) (.ref p) H Q :=
  ⟨.list (dI ns), .list [], .lst hx (dp_ints ns), .lst hp .nil, shaped_ints ns, rfl, by cases ns <;> exact q⟩
theorem rd_someI {K : PySem.W.Frag} {H : Hp} {Q : VK} {a p : Addr} {ns : List Int} (hx : SqL K H a (ns.map V.int)) (hp : SqL K H p []) (q : Q (.bl (!ns.isEmpty)) H) : rNeD K (.ref a) (.ref p) H Q :=
  ⟨.list (dI ns), .list [], .lst hx (dp_ints ns), .lst hp .nil, shaped_ints ns, rfl, by cases ns <;> exact q⟩
/-! ### without the list at o -/
def wo (o : Addr) (H : Hp) : Hp := fun a => if a = o then none else H a
section
variable {d l o : Addr} {H H' : Hp} {K : PySem.W.Frag}
theorem wo_mono (h : ∀ a u, a ≠ o → H a = some u → H' a = some u) : Evl.Ex (wo o H) (wo o H') := fun a u e => by
  unfold wo at e ⊢
  by_cases q : a = o
  · rw [if_pos q] at e
    cases e
  · rw [if_neg q] at e ⊢
    exact h a u q e
theorem wo_ex : Evl.Ex (wo o H) H := fun a u e => by
  unfold wo at e
  by_cases h : a = o
  · rw [if_pos h] at e
    cases e
  · rw [if_neg h] at e
    exact e
theorem wo_new (h : H o = none) : Evl.Ex H (wo o H) := fun a u e => by
  unfold wo
  rw [if_neg (ne_of_none e h)]
  exact e
theorem wo_tup {a : Addr} {xs ys : List V} (ho : H o = some (.lst ys)) (h : SqT K H a xs) : SqT K (wo o H) a xs := by
  have hn : ∀ {u : HO}, H a = some u → (∀ ys, u ≠ .lst ys) → wo o H a = some u := fun e c => by
    unfold wo
    rw [if_neg fun z => (by rw [z, ho] at e; cases e; exact c _ rfl)]
    exact e
  rcases h with (t | ⟨u, t⟩) | t
  · exact .inl (.inl (hn t nofun))
  · exact .inl (.inr ⟨u, hn t nofun⟩)
  · exact .inr t
theorem wo_at {a : Addr} {u : HO} (h : a ≠ o) (e : H a = some u) : wo o H a = some u := by
  unfold wo
  rw [if_neg h]
  exact e
theorem wo_gl (g : Gl d l H H') : Evl.Ex (wo o (off d l H)) (wo o (off d l H')) := wo_mono fun a u _ e => g.off a u e
theorem wo_mut {u : HO} : Evl.Ex (wo o (off d l H)) (wo o (off d l (upd H o u))) := wo_mono fun a v h e => by
  unfold off at e ⊢
  by_cases q : a = d ∨ a = l
  · rw [if_pos q] at e
    cases e
  · rw [if_neg q] at e ⊢
    rw [upd_ne h]
    exact e
end
end Ea
set_option Elab.async false
set_option linter.all false
set_option maxRecDepth 100000
set_option maxHeartbeats 1000000
/-! A tuple times an int, also times one. -/
namespace Ea
open PySem PySem.Spec PyProof PyProof.Rows L2
theorem tuple_mul1 (l : Addr) (items : Array Value) (n : Nat) (dd : Option Addr) (sl : Array (Option Value)) (x : Int) (u : Tok) (c0 : (decide (x < -(2 ^ 63)) || decide (x ≥ 2 ^ 63)) = false) (c1 : (items.isEmpty || x == 1) = true) :
    Meets (Builtin.«tuple.__mul__» ⟨[.ref l, .int x u], []⟩) (fun _ R s => s.heap.get? l = some { cls := .type "tuple", dict := dd, data := .seq items n, slots := sl } ∧
      R (.ok (.ret (Value.ref l))) s) :=
  .of_wp fun prog w A R s h => by
    obtain ⟨hp, g, d, tk, os⟩ := s
    obtain ⟨hl, h⟩ := h
    have f1 := AutoSeq1.idx_int
    wp_walk using wpAny_loadPart' hl
    repeat (first
      | (refine wpAny_ite_false (decide_eq_false (by rw [c0]; exact Bool.false_ne_true)) ?_; wp_walk using wpAny_loadPart' hl)
      | (refine wpAny_ite_true (decide_eq_true c1) ?_; wp_walk using wpAny_loadPart' hl))
    exact ⟨_, rfl, h⟩
theorem op_repT1 {X : Cx} {K : PySem.W.Frag} (hK : X.K = K) : OpR X (binaryOp .Mult) (fun x y H Q => ∃ l xs, x = .ref l ∧ y = .int 1 ∧ SqT K H l xs ∧ Q (.ref l) H) := by
  subst hK
  intro pins s σ H x y v u Q I rx ry h
  obtain ⟨l, xs, rfl, rfl, hT, q⟩ := h
  cases rx
  obtain ⟨t, rfl⟩ := ry
  obtain ⟨its, r, ⟨⟨cls, dd, data, sl⟩, ho, hc, n, hd⟩, hs⟩ := I.tuple hT
  simp only at hc hd
  subst hc hd
  refine wpAny_binaryOp_repeat_ref (T := "tuple") (U := "int") (by decide) ⟨_, ho, rfl⟩ (fun s' => typeIs_int s' 1 t) noFill_tuple_mul F.fills_int_mul F.slot_int_rmul repeat_tuple F.slot_int_index.lookup
    (call_meets F.slot_int_rmul (typeIs_int s 1 t) F.entry_int_rmul (F.args_int_rmul_2 _ _) (int_rmul_tuple 1 t l its.toArray n dd sl)
      ⟨ho, rfl, ⟨_, ho, rfl⟩, call_meets F.slot_tuple_mul ⟨_, ho, rfl⟩ F.entry_tuple_mul (F.args_tuple_mul_2 _ _) (tuple_mul1 l its.toArray n dd sl 1 t (by decide) (by rw [Bool.or_eq_true]; exact .inr rfl)) ⟨ho, ?_⟩⟩)
  exact ⟨.ref l, H, I, rfl, q⟩
/-- a tuple of at least one, times k from 1 on -/
def rRepA (K : PySem.W.Frag) : R2 := fun x y H Q => ∃ l k xs, x = .ref l ∧ y = .int k ∧ SqT K H l xs ∧ xs ≠ [] ∧ 1 ≤ k ∧ k ≤ 1000 ∧ xs.length ≤ 1000 ∧
  ∀ (p : Addr) (H' : Hp), Evl.Ex H H' → SqT K H' p (List.replicate k.toNat xs).flatten → Q (.ref p) H'
theorem op_repA {X : Cx} {K : PySem.W.Frag} (hK : X.K = K) : OpR X (binaryOp .Mult) (rRepA K) := by
  subst hK
  intro pins s σ H x y v u Q I rx ry h
  obtain ⟨l, k, xs, rfl, rfl, hT, hne, h1, h2, hz, q⟩ := h
  by_cases c : k = 1
  · subst c
    refine op_repT1 rfl pins s σ H _ _ v u Q I rx ry ⟨l, xs, rfl, rfl, hT, q l H (Evl.Ex.refl _) ?_⟩
    have : (List.replicate (1 : Int).toNat xs).flatten = xs := by simp
    rw [this]
    exact hT
  · exact op_repT pins s σ H _ _ v u Q I rx ry ⟨l, k, xs, rfl, rfl, hT, hne, by omega, h2, hz, fun p hp => q p _ (Evl.Ex.new hp) (SqT.of upd_same)⟩
theorem rd_repA {K : PySem.W.Frag} {H : Hp} {Q : VK} {l : Addr} {k : Int} {xs : List V} (hT : SqT K H l xs) (hne : xs ≠ []) (h1 : 1 ≤ k) (h2 : k ≤ 1000) (hz : xs.length ≤ 1000)
    (q : ∀ (p : Addr) (H' : Hp), Evl.Ex H H' → SqT K H' p (List.replicate k.toNat xs).flatten → Q (.ref p) H') : rRepA K (.ref l) (.int k) H Q := ⟨l, k, xs, rfl, rfl, hT, hne, h1, h2, hz, q⟩
end Ea
set_option Elab.async false
set_option linter.all false
set_option maxRecDepth 100000
set_option maxHeartbeats 1000000
/-! An own error over ValueError whose __init__ says super().__init__(text) and keeps what it was given. -/
namespace Ea
open PySem PySem.Spec PyProof PyProof.Rows L2 NdefX
def spSup (C : Addr) (fld : Str) : Sp := fun vs H Q _ => ∃ (a : Addr) (y : V), vs = [.ref a, y] ∧ H a = some (exo a C none) ∧
  ∀ dx, H dx = none → dx ≠ a → Q .non (upd (upd H dx (exd dx [(fld, y)])) a (exo a C (some dx)))
/-- the wrapper's call -/
theorem call_wrap {prog : Program} {w : World} {A : Around} {E : Value → Shared → Prop} {s : Shared} {K : PySem.W.Frag} {C a u t0 : Addr} {rest : List Value} {Q : Value → Shared → Prop} (KX : K.In s.heap)
    (q : PySem.W.excInitIn K C [.type "ValueError", .type "Exception", .type "BaseException", .type "object"] "ValueError.__new__" = true)
    (he : s.heap.get? a = some (PySem.W.excObj C t0 none .none)) (hu : s.heap.get? u = some (PySem.W.kxs_mw "ValueError.__init__" a)) (hz : rest.length ≤ sizeLine)
    (h : ∀ h' t1, (∀ b o, b ≠ a → s.heap.get? b = some o → h'.get? b = some o) → h'.get? a = some (PySem.W.excObj C t1 none .none) → Q .none { s with heap := h' }) :
    wpAny (model prog w) A (call (.ref u) rest) Q E s := by
  obtain ⟨nm, N', qn, bs, bm, hdct, sn, sub, ab, col, dd, k0, k1, k2, k3, k5, hC, hT⟩ := PySem.W.excInit_of KX q
  obtain ⟨hh, g, d, tk, os⟩ := s
  refine wpAny_call (codeAny_of_tree ?_)
  show wpAny _ A.in1 (callAny (.ref u) ⟨rest, []⟩) _ _ _
  simp only [callAny]
  refine wpAny_bind (wpAny_load hu ?_)
  simp only [PySem.W.kxs_mw, show (Value.type "method-wrapper" == Value.type "method" || Value.type "method-wrapper" == Value.type "builtin_function_or_method" || Value.type "method-wrapper" == Value.type "method-wrapper") = true by decide, if_true]
  refine PySem.W.KFB.if_so (by decide) ?_
  refine wpAny_bind (PySem.W.check_bound_init PySem.F.excBase_ValueError.toExcCallFacts hC he rfl ?_)
  refine wpAny_bind (wpAny_pure (wpAny_pure ?_))
  refine ⟨plainId_quiet PySem.F.excBase_ValueError.init.plain _, codeAny_builtin PySem.F.excBase_ValueError.initEntry ?_⟩
  exact PySem.W.exc_init_tree (cls := .ref C) (t0 := t0) (dv := none) (c2 := .none) (c3 := .none) (b4 := .bool false) he hz fun h' k e' t' => h h' _ k e'
theorem cw1 {M : Model} {A : Around} {E : Value → Shared → Prop} {s : Shared} {u x : Addr} {i : String} {pos : Pos} {env : Env} {e : Expr} {rest : List Expr} {Q : Value → Shared → Prop}
    (h : wpAny M A (spliced (backTo pos (starEach (e :: rest) env))) (fun vs s₁ => PySem.W.KxsAt i u x s₁.heap ∧ wpAny M A (call (.ref u) vs) Q E s₁) E s)
    (he : starEach (e :: rest) env = (false, eval e env) :: starEach rest env := by rfl) (hplain : (backTo pos (starEach rest env)).any (·.1) = false := by rfl) :
    wpAny M A (callWith pos (.ref u) [] (backTo pos (starEach (e :: rest) env)) []) Q E s := by
  rw [he] at h ⊢
  refine PySem.W.kxs_callWith (i := i) (x := x) (by show (false || (backTo pos (starEach rest env)).any (·.1)) = false; rw [hplain]; rfl) ?_
  exact Calls.evalArgs_plain h
section
variable {P : Program} {w : World} {K : PySem.W.Frag} {mg : Str → Option Value} {base : Heap} {C fI cc cda : Addr} {nm qual fld msg file self : Str} {args : Arguments} {sc : Scope} {kV doc pm ct oc c1 cl : Value} {an od c2 cld : Option Addr} {osl c3 csl : Array (Option Value)} {vs : Array Value} {tf : Tok}
  {p0 p1 p2 p3 p4 p5 p6 p7 p8 p9 : Pos} {kk : Nat} {k : Nat}
abbrev supCall (msg : Str) (p0 p1 p2 p3 p4 : Pos) (kk : Nat) : Expr := .Call (.Attribute (.Call (.Name "super" p0) [] [] p1) "__init__" p2) [.Constant (.str msg) kk p3] [] p4
abbrev supBody (self fld msg : Str) (p0 p1 p2 p3 p4 p5 p6 p7 p8 p9 : Pos) (kk : Nat) : List Stmt :=
  [.Expr (supCall msg p0 p1 p2 p3 p4 kk) p5, .Assign [.Attribute (.Name self p6) fld p7] (.Name fld p8) p9]
theorem ok_super (T : OexC K C)
    (q : PySem.W.excInitIn K C [.type "ValueError", .type "Exception", .type "BaseException", .type "object"] "ValueError.__new__" = true)
    (lf : K.lookup fI = some ⟨oc, od, .func (PySem.W.ksFn nm qual args (supBody self fld msg p0 p1 p2 p3 p4 p5 p6 p7 p8 p9 kk) sc .none kV doc pm an (.ref cda) ct cc), osl⟩)
    (hcd : PySem.W.codeIn K (.ref cda) qual = true) (lc : K.lookup cda = some ⟨c1, c2, .fields vs, c3⟩) (hvs : vs[2]? = some (.str file tf)) (hfile : ((P.main.file : Str) == file) = true)
    (htop : (P.main.scope.names.lookup ("super" : Str)).isSome = false) (lcell : K.lookup cc = some ⟨cl, cld, .cell (some (.ref C)), csl⟩)
    (hsub : PySem.W.mroIn K C (.ref C) = some true) (hsup : PySem.W.ks_superIn K C C "__init__" = some (some (.builtin "ValueError.__init__")))
    (hB : PySem.W.subIn K (.ref C) (.type "ValueError") = some true) (hop : PySem.W.nsIn K cStatics "thirdparty.any" = some none) (hmg : mg "super" = none)
    (hfind : PySem.W.findIn K (.ref C) fld = some none) (S : NScope [self, fld, "__class__"] [self, fld] ["__class__"] sc)
    (hks : sc.names.lookup ("super" : Str) = some .globalImplicit) {ar : Arg} (ha1 : (args.posonlyargs ++ args.args).head? = some ar) (har : ar.arg = self) (hne : (self == fld) = false) (v1 : Vis sc self) (v2 : Vis sc fld) (n1 : (self == ("__debug__" : Str)) = false) (n2 : (self == ("__classdict__" : Str)) = false) (n3 : (fld == ("__debug__" : Str)) = false) (n4 : (fld == ("__classdict__" : Str)) = false)
    {pl : Addr → Sem Bool} (hev : ∀ L : Addr, eval (supCall msg p0 p1 p2 p3 p4 kk) (PySem.W.envX qual sc L fI (.ref cda) [("__class__", cc)]) = (do
      let ov ← attributeBase (.Call (.Name "super" p0) [] [] p1) "__init__" (PySem.W.envX qual sc L fI (.ref cda) [("__class__", cc)]) (eval (.Call (.Name "super" p0) [] [] p1) (PySem.W.envX qual sc L fI (.ref cda) [("__class__", cc)]))
      standAt p2.atName
      let (f, first) ← holding [ov] (getMethod ov "__init__" (pl L))
      callWith p4 f first (backTo p4 (starEach [.Constant (.str msg) kk p3] (PySem.W.envX qual sc L fI (.ref cda) [("__class__", cc)]))) []))
    (hin : ∀ L : Addr, interactive (PySem.W.envX qual sc L fI (.ref cda) [("__class__", cc)]) = false)
    (hsw : ∀ L : Addr, swapsWith (supCall msg p0 p1 p2 p3 p4 kk) none p5.line (PySem.W.envX qual sc L fI (.ref cda) [("__class__", cc)]) = pure false)
    (hsw2 : ∀ L : Addr, swapsWith (.Name fld p8) (some (.Attribute (.Name self p6) fld p7)) p9.line (PySem.W.envX qual sc L fI (.ref cda) [("__class__", cc)]) = pure false) :
    FnOk P w K mg base CX0 (k + 1) fI (PySem.W.ksFn nm qual args (supBody self fld msg p0 p1 p2 p3 p4 p5 p6 p7 p8 p9 kk) sc .none kV doc pm an (.ref cda) ct cc) [self, fld] (spSup C fld) := by
  refine ⟨fun vs H Q E ⟨_, _, e, _⟩ => by rw [e]; rfl, fun A outer s H ar0 us vals Q E hr e0 hb r hsp => ?_⟩
  obtain ⟨a, y, rfl, ha, hq⟩ := hsp
  obtain ⟨u1, u2, rfl, r1, r2⟩ := vals2 r
  cases (show u1 = Value.ref a from r1)
  have hb : BindsTo s _ ar0 [(self, Value.ref a), (fld, u2)] := hb
  have KX : K.In s.heap := e0.mod.kin.keeps fun b o e => (e0.bs b o e).1
  have lim : s.heap.NoLimit := e0.mod.nolimit.keeps fun b o e => (e0.bs b o e).1
  refine codeAny_call_function hr.depth (KX _ _ lf) rfl S.co S.gen rfl (PySem.W.codeRec_of KX hcd) (hb _ _ _ _ ?_)
  refine wpAny_newFunctionEnv S.nocell (fun y hy => ?_) (fun h₁ hns hsb => ⟨lim.fresh _ hsb, ?_⟩) S.kind
  · simp only [List.mem_cons, List.not_mem_nil, or_false] at hy
    rcases hy with rfl | rfl
    · exact S.par _ (by simp)
    · exact S.par _ (by simp)
  let F : NF := ⟨nm, qual, args, supBody self fld msg p0 p1 p2 p3 p4 p5 p6 p7 p8 p9 kk, sc, [("__class__", cc)], cda⟩
  have kp : ∀ b o, s.heap.get? b = some o → h₁.get? b = some o := fun b o e => hsb.extBut b o (Nat.ne_of_lt (Heap.lt_size e)) (Heap.get?_push_of_some _ e)
  have hHc : H cc = none := (e0.bs _ _ (e0.mod.kin _ _ lcell)).2
  have cells : CellsAt F.cl ["__class__"] [some (.ref C)] s.heap H := {
    len := rfl
    all := fun y c e => by
      have e : List.lookup y [((Str.ofString "__class__"), cc)] = some c := e
      unfold List.lookup at e
      split at e
      · cases e
        exact ⟨hHc, _, _, KX _ _ lcell, rfl⟩
      · cases e
    inj := fun x y c e1 e2 => by
      have e1 : List.lookup x [((Str.ofString "__class__"), cc)] = some c := e1
      have e2 : List.lookup y [((Str.ofString "__class__"), cc)] = some c := e2
      have one : ∀ {x : Str}, List.lookup x [((Str.ofString "__class__"), cc)] = some c → x = Str.ofString "__class__" := fun {x} e => by
        unfold List.lookup at e
        split at e
        · next h => exact eq_of_beq h
        · cases e
      rw [one e1, one e2]
    has := fun i y e => by
      cases i with
      | zero =>
        cases e
        refine ⟨cc, by simp [List.lookup, F], fun v hv => ?_⟩
        cases hv
        exact ⟨.ref C, rfl, _, KX _ _ lcell, rfl⟩
      | succ i => simp at e }
  have I : Inv (ncx CX0 P w K mg base [self, fld, "__class__"] F fI A outer s H E) [] (startF [self, fld, "__class__"] [.ref a, y] [some (.ref C)]) H { s with heap := h₁, toks := s.toks + [(self, Value.ref a), (fld, u2)].length } :=
    inv_startN (us := [.ref a, u2]) S hr.hd e0 rfl r cells hns kp
  have hloc : h₁.Ns s.heap.objs.size fun x => ([(self, Value.ref a), (fld, u2)]).reverse.lookup x := hns
  have hFb : F.body = supBody self fld msg p0 p1 p2 p3 p4 p5 p6 p7 p8 p9 kk := rfl
  have hkc : sc.names.lookup ("__class__" : Str) = some .free := S.frk _ (by simp)
  have hkself : sc.names.lookup self = some .local := S.par _ (by simp)
  have hvself : ([(self, Value.ref a), (fld, u2)]).reverse.lookup self = some (.ref a) := by simp [List.lookup, hne]
  show codeAny _ _ (.func (supBody self fld msg p0 p1 p2 p3 p4 p5 p6 p7 p8 p9 kk) (envF F fI s.heap.objs.size)) _ _
  generalize hs1 : ({ s with heap := h₁, toks := s.toks + [(self, Value.ref a), (fld, u2)].length } : Shared) = s1 at I ⊢
  have hh1 : s1.heap = h₁ := by rw [← hs1]
  clear hs1
  obtain ⟨hh, g, d, tk, os⟩ := s1
  obtain rfl : hh = h₁ := hh1
  obtain ⟨t1, hoe⟩ := exo_at I.hok ha
  obtain ⟨nm1, q1, N1, bs1, bm, sn1, sub1, ab1, col1, dd1, x0, x1, x2, x3, x5, hC, hbm⟩ := T.cls
  have hcl : PySem.W.clsIn K C = some { name := nm1, bases := bs1, mro := .ref C :: bm, ns := N1, qualname := q1, hasDict := true, slotNames := sn1, subclasses := sub1, abstract := ab1, collection := col1, hasDel := false } := by unfold PySem.W.clsIn; rw [hC] <;> rfl
  have hCn : H C = none := (e0.bs _ _ (e0.mod.kin _ _ hC)).2
  obtain ⟨mb, hb1, hb2⟩ := e0.mod.blt
  refine ks_codeAny_funcAt ?_
  refine ks_wpAt_execs_cons ?_
  refine ks_wpAt_mono (Q := fun fl s' => fl = .next ∧ Inv (ncx CX0 P w K mg base [self, fld, "__class__"] F fI A outer s H E) [] (startF [self, fld, "__class__"] [.ref a, y] [some (.ref C)]) H s') ?_ (fun fl s' hs => ?_) fun _ _ z => z
  · refine ks_wpAt_Expr_any (ks_wpAt_MethodCall (ks_wpAt_super_base (env := envF F fI s.heap.objs.size) hks hkc rfl rfl (I.kIn _ _ lf) rfl ha1 rfl (I.kIn _ _ lc) rfl hvs hfile htop ?_) (hev _)) (hin _) (hsw _)
    refine PySem.W.ks_loadName_global S.kind hks (Calls.loadGlobal_builtin (env := envF F fI s.heap.objs.size) (I.mod.glob.keeps I.bk) hmg (hb1.keeps I.bk) ((hb2 _ (by decide)).trans (by rfl)) ⟨rfl, ?_⟩)
    refine wpAny_loadName_free S.kind hkc rfl ⟨_, I.kIn _ _ lcell, rfl⟩ ?_
    rw [har]
    refine wpAny_loadName_local S.kind hkself hloc hvself ?_
    refine ks_wpAny_isType_cls (I.kIn _ _ hC) rfl ⟨rfl, ?_⟩
    refine ks_wpAny_call_super (I.kIn _ _ hC) rfl hoe rfl (fun c e => by cases e) (PySem.W.looks_mroIn I.kIn hsub) fun h' e k => ?_
    have J1 := I.kept (t' := tk) k
    have hal : PySem.W.alongIn K "__init__" (((Value.ref C :: bm).dropWhile (· != .ref C)).drop 1) = some (some (.builtin "ValueError.__init__")) := by
      have z := hsup
      unfold PySem.W.ks_superIn at z
      rw [hcl] at z
      exact z
    have IA : PySem.W.InstAt h' a (PySem.W.excObj C t1 none .none) C none := ⟨k _ _ hoe, rfl, rfl, trivial⟩
    refine PySem.W.kxs_getMethod PySem.W.kxs_ValueError e (PySem.W.looks_opaque J1.kIn hop) (l₀ := .ref C :: bm) (fun A Q E s k q => wpAny_bind ((PySem.W.looks_clsIn J1.kIn hcl) A _ E s k (wpAny_pure q))) rfl J1.kIn hal (IA.type.andThen (PySem.W.looks_subIn J1.kIn hB)) (ne_of_none ha hCn) (by decide) ?_
    have J2 := J1.kept (t' := tk + 1) (h' := h'.push (PySem.W.kxs_mw "ValueError.__init__" a)) fun b o q => Heap.get?_push_of_some _ q
    have hu : (h'.push (PySem.W.kxs_mw "ValueError.__init__" a)).get? h'.objs.size = some (PySem.W.kxs_mw "ValueError.__init__" a) := Heap.get?_push_at rfl rfl
    refine cw1 (i := "ValueError.__init__") (x := a) (PyProof.Rows.spliced_more (Calls.Constant_str (PyProof.Rows.spliced_none ⟨hu, ?_⟩)))
    refine call_wrap (K := K) J2.kIn q (Heap.get?_push_of_some _ (k _ _ hoe)) hu (by show 1 ≤ sizeLine; decide) fun h'' t2 k2 e2 => ⟨rfl, ?_⟩
    have J3 := J2.write (x := a) (e := a) (o := exo a C none) (t' := tk + 1 + 1) (by rw [ha]; exact True.intro) (.inl rfl) k2 ⟨_, e2⟩ (exo_ok e2)
    have eu : upd H a (exo a C none) = H := by
      funext b
      by_cases hb : b = a
      · rw [hb, upd_same, ha]
      · rw [upd_ne hb]
    rw [eu] at J3
    exact J3
  · obtain ⟨rfl, J⟩ := hs
    refine wpAt_of_wpAny ?_
    have hps : PSs (ncx CX0 P w K mg base [self, fld, "__class__"] F fI A outer s H E) [.Assign [.Attribute (.Name self p6) fld p7] (.Name fld p8) p9] (tOst K fld (tVar 0) (tVar 1)) :=
      pss_one (ps_ost (pe_var (i := 0) rfl v1 n1 n2) (pe_var (i := 1) rfl v2 n3 n4) (hsw2 _))
    have hread : tOst K fld (tVar 0) (tVar 1) { nx := fun _ H' => Q .non H', rt := Q } (startF [self, fld, "__class__"] [.ref a, y] [some (.ref C)]) H :=
      ⟨y, rfl, .ref a, rfl, a, C, rfl, T, hfind, .inl ⟨ha, hq⟩⟩
    refine wpAny_mono (hps.run [] _ _ H _ J hread) (fun fl s' hs => ?_) fun e s' hs => hs
    have fin : ∀ {σ' : L2.St} {H' : Hp} {v : V} {u : Value}, Inv (ncx CX0 P w K mg base [self, fld, "__class__"] F fI A outer s H E) [] σ' H' s' → L2.RelV v u → Q v H' → CE outer P w H s Q u s' :=
      fun {σ' H' v u} J rv q => ⟨v, H', J.os, J.bare, J.base, J.hok, rv, q⟩
    cases fl with
    | ret u =>
      obtain ⟨v, σ', H', J, rv, q⟩ := hs
      exact fin J rv q
    | next =>
      obtain ⟨σ', H', J, q⟩ := hs
      exact fin (v := V.non) (u := Value.none) J rfl q
    | brk =>
      obtain ⟨_, _, _, q⟩ := hs
      exact False.elim q
    | cont =>
      obtain ⟨_, _, _, q⟩ := hs
      exact False.elim q
end
end Ea
set_option Elab.async false
set_option linter.all false
set_option maxRecDepth 100000
set_option maxHeartbeats 1000000
/-! A caught error that has a dict: a field of it, isinstance of it. -/
namespace Ea
open PySem PySem.Spec PyProof PyProof.Rows L2
section
variable {X : Cx} {C : Addr} {fld : Str}
/-- e.fld, e the exception that the suite holds -/
def tByF (fld : Str) (C a : Addr) (cls : Value) (d : Option Addr) (te : TE) : TE := fun σ H Q => te σ H fun x H1 => x = .ref a ∧ cls = .ref C ∧ ∃ (dd : Addr) (v : V), d = some dd ∧ H1 dd = some (.xd [(fld, v)]) ∧ Q v H1
theorem pe_byF {a : Addr} {oe : Obj} {cls : Value} {d : Option Addr} {pn : List (Addr × Obj)} {e : Expr} {te : TE} {pos : Pos} (T : ExcC X.K C) (noN : PySem.W.findIn X.K (.ref C) fld = some none) (hz : Zc cls d oe) (hf : ∃ vs, oe.data = .fields vs) (he : PE (X.suite a ((a, oe) :: pn)) e te)
    (hb : attributeBase e fld X.env (eval e X.env) = eval e X.env := by rfl) :
    PE (X.suite a ((a, oe) :: pn)) (.Attribute e fld pos) (tByF fld C a cls d te) := by
  refine ⟨fun pins s σ H Q I h => ?_⟩
  refine attr_of hb (thn (he.run pins s σ H _ I h) fun u s1 hh => ?_)
  obtain ⟨x, H1, I1, rx, ex, ec, dd, v, ed, ea, q⟩ := hh
  subst ex
  obtain rfl : u = Value.ref a := rx
  subst ec
  subst ed
  obtain ⟨ha, _⟩ := I1.pin (a, oe) (List.mem_append_left _ List.mem_cons_self)
  obtain ⟨vs, hd⟩ := hf
  have hx : ObjOk X.prog X.w H1 s1.heap dd (.xd [(fld, v)]) := I1.hok dd _ ea
  obtain ⟨mA, hns, hr⟩ := hx
  obtain ⟨od, ho, hl⟩ := lookIn_ns hns
  have l : List.lookup fld [(fld, v)] = some v := by simp [List.lookup]
  obtain ⟨u, hu, ru⟩ := RelO.some_of (v := v) (o := mA fld) (by rw [← l]; exact hr fld)
  have J : PySem.W.InstAt s1.heap a oe C (some od) := ⟨ha, hz.1, by unfold PySem.W.notCls; rw [hd] <;> rfl, by rw [hz.2]; exact ho⟩
  exact HandSPX.exc_get I1.kIn J T.hg T.hk T.hs (PySem.W.findObj_own T.hd noN rfl (by rw [hl, hu])) (handed_of ru) ⟨v, H1, I1.tok _, ru, q⟩
/-- isinstance(e, c), e with a dict -/
def rIsE2 (K : PySem.W.Frag) (D a : Addr) (cls : Value) (d : Option Addr) : List V → Hp → VK → Prop := fun xs H Q => ∃ (c : V) (cv : Value) (b : Bool), xs = [.ref a, c] ∧ cls = .ref D ∧ (∃ dd fs, d = some dd ∧ H dd = some (.xd fs)) ∧ (∀ u, RelV c u → u = cv) ∧ PySem.W.kitOne K (.ref D) cv = some b ∧ Q (.bl b) H
theorem call_isE2 {a D : Addr} {cls : Value} {d : Option Addr} {oe : Obj} {pn : List (Addr × Obj)} (C : ExcC X.K D) (hz : Zc cls d oe) (hf : ∃ vs, oe.data = .fields vs) : CallR (X.suite a ((a, oe) :: pn)) (.builtin "isinstance") (rIsE2 X.K D a cls d) := by
  intro pins s σ H xs us Q I r h
  obtain ⟨c, cv, b, rfl, ec, ⟨dd, fs, ed, hx⟩, hcv, e, q⟩ := h
  subst ec
  subst ed
  cases r with
  | cons rx rr =>
    cases rr with
    | cons rt rr =>
      cases rr
      cases rx
      have ec := hcv _ rt
      subst ec
      obtain ⟨hget, _⟩ := I.pin (a, oe) (List.mem_append.mpr (.inl List.mem_cons_self))
      obtain ⟨vs, hv⟩ := hf
      obtain ⟨mA, hns, _⟩ := (show ObjOk X.prog X.w H s.heap dd (.xd fs) from I.hok dd _ hx)
      obtain ⟨od, ho, _⟩ := lookIn_ns hns
      have J : PySem.W.InstAt s.heap a oe D (some od) := ⟨hget, hz.1, by unfold PySem.W.notCls; rw [hv] <;> rfl, by rw [hz.2]; exact ho⟩
      have hcl : (PySem.W.clsIn X.K D).isSome = true := by
        obtain ⟨cd, hc, _⟩ := PySem.W.any_some C.hd
        rw [hc] <;> rfl
      exact PySem.W.kia_one (PySem.W.kitx_exc hcl C.hg C.hk C.hs C.ha C.hn C.ht C.hm) I.kIn J e (fun z => nomatch z) fun tk => ⟨.bl b, H, I.kept (t' := tk) fun _ _ z => z, rfl, q⟩
end
end Ea
set_option Elab.async false
set_option linter.all false
set_option maxRecDepth 100000
set_option maxHeartbeats 400000
/-! A comprehension over a tuple, each turn laying what it likes; a chained comparison. -/
namespace Ea
open PySem PySem.Spec PyProof PyProof.Rows L2
section
variable {K : PySem.W.Frag} {σ : L2.St} {H : Hp} {Q : VK} {te : TE} {vs : List Nat} {j : Nat} {σx : V → L2.St} {a : Addr} {xs : List V}
theorem lc_exT (Pv : Nat → List V → Hp → Prop) (stay : ∀ i acc H1 D ys u, H1 D = some (.lst ys) → Pv i acc H1 → Pv i acc (upd H1 D (.lst u)))
    (hx : SqT K H a xs) (hz : xs.length ≤ 40000) (hσ : ∀ x, (wipe σ vs).set j (some x) = σx x) (hw : ∀ x, wipe (σx x) vs = wipe σ vs) (h0 : ∀ H', Evl.Ex H H' → Pv 0 [] H')
    (hs : ∀ i x, xs[i]? = some x → ∀ (acc : List V) (H' : Hp) (N : VK), Evl.Ex H H' → Pv i acc H' → (∀ v H3, Evl.Ex H' H3 → Pv (i + 1) (acc ++ [v]) H3 → N v H3) → te (σx x) H' N)
    (hd : ∀ D acc H', Evl.Ex H H' → H D = none → H' D = some (.lst acc) → Pv xs.length acc H' → Q (.ref D) H') : LcR (gName j) tYes te vs σ Q (Itt K a) H := fun D hn =>
  lc_tup (xs := xs) (fun i H' => i ≤ xs.length ∧ Evl.Ex H H' ∧ ∃ acc, H' D = some (.lst acc) ∧ acc.length = i ∧ Pv i acc H') ⟨Nat.zero_le _, Evl.Ex.new hn, [], upd_same, rfl, h0 _ (Evl.Ex.new hn)⟩ (fun i H' _ ⟨_, ex, _⟩ => Evl.ex_t ex hx) (fun i x H' hi p => by
    obtain ⟨_, ex, acc, ea, hl, hp⟩ := p
    have hlt := (List.getElem?_eq_some_iff.mp hi).1
    rw [show gName j x (wipe σ vs) H' = fun N => N (σx x) H' from funext fun N => by rw [← hσ x] <;> rfl]
    refine ⟨hw _, ?_⟩
    refine rd_yes ?_
    rw [if_pos rfl]
    refine hs i x hi acc H' _ ex hp fun v H3 e3 hp3 => ⟨acc, e3 D _ ea, Evl.sz_lt (by omega), by omega, Evl.Ex.mut (ex.trans e3) hn, acc ++ [v], upd_same, by rw [List.length_append, hl] <;> rfl, stay _ _ _ _ _ _ (e3 D _ ea) hp3⟩) fun H' p => by
    obtain ⟨_, ex, acc, ea, _, hp⟩ := p
    exact hd D acc H' ex hn ea hp
end
theorem rd_chain {r r' : R2} {ta tb tc : TE} {σ : L2.St} {H : Hp} {Q : VK} (h : ta σ H fun x H1 => tb σ H1 fun y H2 => r x y H2 fun z H3 => ∃ k, z = .bl k ∧ (if k = true then tc σ H3 fun w' H4 => r' y w' H4 Q else Q (.bl false) H3)) : tChain r r' ta tb tc σ H Q := h
end Ea
set_option Elab.async false
set_option linter.all false
set_option maxRecDepth 100000
set_option maxHeartbeats 400000
/-! Rows held as cells (keys of a dict want the very cell); a comprehension over a list that makes lists. -/
namespace Ea
open PySem PySem.Spec PyProof PyProof.Rows L2
theorem rd_catC {K : PySem.W.Frag} {H : Hp} {Q : VK} {p p2 : Addr} {xs ys : List V} (s : H p = some (.tup xs)) (s2 : H p2 = some (.tup ys)) (hz : xs.length + ys.length ≤ sizeLine)
    (h : ∀ (q : Addr) (H' : Hp), Evl.Ex H H' → H' q = some (.tup (xs ++ ys)) → Q (.ref q) H') : rCatA K (.ref p) (.ref p2) H Q := by
  refine ⟨p, p2, xs, ys, rfl, rfl, SqT.of s, SqT.of s2, hz, fun e => ?_, fun _ e => ?_, fun _ _ q hq => h q _ (Evl.Ex.new hq) upd_same⟩
  · subst e
    exact h p2 H (Evl.Ex.refl H) s2
  · subst e
    exact h p H (Evl.Ex.refl H) (by rw [List.append_nil]; exact s)
/-- rows as cells -/
def Cs (H : Hp) (vs : List V) (ps : List (List Int)) : Prop := vs.length = ps.length ∧ ∀ (j : Nat) (p : List Int), ps[j]? = some p → ∃ b : Addr, vs[j]? = some (.ref b) ∧ H b = some (.tup (p.map V.int))
theorem Cs.nil {H : Hp} : Cs H [] [] := ⟨rfl, fun j p h => by simp at h⟩
theorem Cs.one {H : Hp} {b : Addr} {p : List Int} (h : H b = some (.tup (p.map V.int))) : Cs H [.ref b] [p] := ⟨rfl, fun j q hq => by
  cases j with
  | zero =>
    obtain rfl : p = q := Option.some.inj hq
    exact ⟨b, rfl, h⟩
  | succ j => simp at hq⟩
theorem Cs.app {H : Hp} {vs us : List V} {ps qs : List (List Int)} (h : Cs H vs ps) (h2 : Cs H us qs) : Cs H (vs ++ us) (ps ++ qs) := ⟨by rw [List.length_append, List.length_append, h.1, h2.1], fun j p hj => by
  rw [List.getElem?_append] at hj
  split at hj
  · next c =>
    obtain ⟨b, h3, h4⟩ := h.2 j p hj
    exact ⟨b, by rw [List.getElem?_append_left (by rw [h.1]; exact c)]; exact h3, h4⟩
  · next c =>
    obtain ⟨b, h3, h4⟩ := h2.2 _ p hj
    exact ⟨b, by rw [List.getElem?_append_right (by rw [h.1]; omega), h.1]; exact h3, h4⟩⟩
theorem Cs.two {H : Hp} {b c : Addr} {p q : List Int} (h : H b = some (.tup (p.map V.int))) (h2 : H c = some (.tup (q.map V.int))) : Cs H [.ref b, .ref c] [p, q] := (Cs.one h).app (Cs.one h2)
theorem Cs.ex {H H' : Hp} {vs : List V} {ps : List (List Int)} (e : Evl.Ex H H') (h : Cs H vs ps) : Cs H' vs ps := ⟨h.1, fun j p hj => by
  obtain ⟨b, h3, h4⟩ := h.2 j p hj
  exact ⟨b, h3, e _ _ h4⟩⟩
theorem Cs.get {H : Hp} {vs : List V} {ps : List (List Int)} (h : Cs H vs ps) {j : Nat} {v : V} (hj : vs[j]? = some v) : ∃ (b : Addr) (p : List Int), v = .ref b ∧ ps[j]? = some p ∧ H b = some (.tup (p.map V.int)) := by
  have hl := (List.getElem?_eq_some_iff.mp hj).1
  obtain ⟨p, hp⟩ : ∃ p, ps[j]? = some p := ⟨_, List.getElem?_eq_getElem (by rw [← h.1]; exact hl)⟩
  obtain ⟨b, h3, h4⟩ := h.2 j p hp
  rw [h3] at hj
  exact ⟨b, p, (Option.some.inj hj).symm, hp, h4⟩
theorem Cs.mut {H : Hp} {vs : List V} {ps : List (List Int)} {D : Addr} {ys u : List V} (h : Cs H vs ps) (hD : H D = some (.lst ys)) : Cs (upd H D (.lst u)) vs ps := ⟨h.1, fun j p hj => by
  obtain ⟨b, h3, h4⟩ := h.2 j p hj
  refine ⟨b, h3, ?_⟩
  rw [upd_ne (fun e => by rw [e, hD] at h4; cases h4)]
  exact h4⟩
/-- lists of rows as cells -/
def Ws (H : Hp) (vs : List V) (ws : List (List (List Int))) : Prop := vs.length = ws.length ∧ ∀ (j : Nat) (w : List (List Int)), ws[j]? = some w → ∃ (b : Addr) (ys : List V), vs[j]? = some (.ref b) ∧ H b = some (.lst ys) ∧ Cs H ys w
theorem Ws.nil {H : Hp} : Ws H [] [] := ⟨rfl, fun j p h => by simp at h⟩
theorem Ws.one {H : Hp} {b : Addr} {ys : List V} {w : List (List Int)} (h : H b = some (.lst ys)) (hc : Cs H ys w) : Ws H [.ref b] [w] := ⟨rfl, fun j q hq => by
  cases j with
  | zero =>
    obtain rfl : w = q := Option.some.inj hq
    exact ⟨b, ys, rfl, h, hc⟩
  | succ j => simp at hq⟩
theorem Ws.app {H : Hp} {vs us : List V} {ps qs : List (List (List Int))} (h : Ws H vs ps) (h2 : Ws H us qs) : Ws H (vs ++ us) (ps ++ qs) := ⟨by rw [List.length_append, List.length_append, h.1, h2.1], fun j p hj => by
  rw [List.getElem?_append] at hj
  split at hj
  · next c =>
    obtain ⟨b, ys, h3, h4⟩ := h.2 j p hj
    exact ⟨b, ys, by rw [List.getElem?_append_left (by rw [h.1]; exact c)]; exact h3, h4⟩
  · next c =>
    obtain ⟨b, ys, h3, h4⟩ := h2.2 _ p hj
    exact ⟨b, ys, by rw [List.getElem?_append_right (by rw [h.1]; omega), h.1]; exact h3, h4⟩⟩
theorem Ws.ex {H H' : Hp} {vs : List V} {ps : List (List (List Int))} (e : Evl.Ex H H') (h : Ws H vs ps) : Ws H' vs ps := ⟨h.1, fun j p hj => by
  obtain ⟨b, ys, h3, h4, h5⟩ := h.2 j p hj
  exact ⟨b, ys, h3, e _ _ h4, h5.ex e⟩⟩
theorem Ws.get {H : Hp} {vs : List V} {ps : List (List (List Int))} (h : Ws H vs ps) {j : Nat} {v : V} (hj : vs[j]? = some v) : ∃ (b : Addr) (ys : List V) (w : List (List Int)), v = .ref b ∧ ps[j]? = some w ∧ H b = some (.lst ys) ∧ Cs H ys w := by
  have hl := (List.getElem?_eq_some_iff.mp hj).1
  obtain ⟨p, hp⟩ : ∃ p, ps[j]? = some p := ⟨_, List.getElem?_eq_getElem (by rw [← h.1]; exact hl)⟩
  obtain ⟨b, ys, h3, h4, h5⟩ := h.2 j p hp
  rw [h3] at hj
  exact ⟨b, ys, p, (Option.some.inj hj).symm, hp, h4, h5⟩
/-- .. while another list is written -/
theorem Ws.mut {H : Hp} {vs : List V} {ps : List (List (List Int))} {D : Addr} {ys u : List V} (h : Ws H vs ps) (hD : H D = some (.lst ys)) (off : ∀ v ∈ vs, v ≠ .ref D) : Ws (upd H D (.lst u)) vs ps := ⟨h.1, fun j p hj => by
  obtain ⟨b, zs, h3, h4, h5⟩ := h.2 j p hj
  refine ⟨b, zs, h3, ?_, h5.mut hD⟩
  rw [upd_ne (fun e => off _ (List.mem_of_getElem? h3) (by rw [e]))]
  exact h4⟩
section
variable {K : PySem.W.Frag} {σ : L2.St} {H : Hp} {Q : VK} {te : TE} {vs : List Nat} {j : Nat} {σx : V → L2.St} {a : Addr} {xs : List V}
/-- .. over a list, what is made may be lists -/
theorem lc_lsL (Pv : Addr → Nat → List V → Hp → Prop) (stay : ∀ i acc H1 D u, H1 D = some (.lst acc) → Pv D i acc H1 → Pv D i acc (upd H1 D (.lst u)))
    (hx : SqL K H a xs) (hz : xs.length ≤ 40000) (hσ : ∀ x, (wipe σ vs).set j (some x) = σx x) (hw : ∀ x, wipe (σx x) vs = wipe σ vs) (h0 : ∀ D H', Evl.Ex H H' → Pv D 0 [] H')
    (hs : ∀ i x, xs[i]? = some x → ∀ (D : Addr) (acc : List V) (H' : Hp) (N : VK), Evl.Ex H H' → H' D = some (.lst acc) → Pv D i acc H' → (∀ v H3, Evl.Ex H' H3 → Pv D (i + 1) (acc ++ [v]) (upd H3 D (.lst (acc ++ [v]))) → N v H3) → te (σx x) H' N)
    (hd : ∀ D acc H', Evl.Ex H H' → H D = none → H' D = some (.lst acc) → Pv D xs.length acc H' → Q (.ref D) H') : LcR (gName j) tYes te vs σ Q (Itl K a) H := fun D hn =>
  lc_list (xs := xs) (fun i H' => i ≤ xs.length ∧ Evl.Ex H H' ∧ ∃ acc, H' D = some (.lst acc) ∧ acc.length = i ∧ Pv D i acc H') ⟨Nat.zero_le _, Evl.Ex.new hn, [], upd_same, rfl, h0 _ _ (Evl.Ex.new hn)⟩ (fun i H' _ ⟨_, ex, _⟩ => Evl.ex_l ex hx) (fun i x H' hi p => by
    obtain ⟨_, ex, acc, ea, hl, hp⟩ := p
    have hlt := (List.getElem?_eq_some_iff.mp hi).1
    rw [show gName j x (wipe σ vs) H' = fun N => N (σx x) H' from funext fun N => by rw [← hσ x] <;> rfl]
    refine ⟨hw _, ?_⟩
    refine rd_yes ?_
    rw [if_pos rfl]
    refine hs i x hi D acc H' _ ex ea hp fun v H3 e3 hp3 => ⟨acc, e3 D _ ea, Evl.sz_lt (by omega), by omega, Evl.Ex.mut (ex.trans e3) hn, acc ++ [v], upd_same, by rw [List.length_append, hl] <;> rfl, hp3⟩) fun H' p => by
    obtain ⟨_, ex, acc, ea, _, hp⟩ := p
    exact hd D acc H' ex hn ea hp
/-- .. over a tuple, what is made may be lists -/
theorem lc_lsT (Pv : Addr → Nat → List V → Hp → Prop) (stay : ∀ i acc H1 D u, H1 D = some (.lst acc) → Pv D i acc H1 → Pv D i acc (upd H1 D (.lst u)))
    (hx : SqT K H a xs) (hz : xs.length ≤ 40000) (hσ : ∀ x, (wipe σ vs).set j (some x) = σx x) (hw : ∀ x, wipe (σx x) vs = wipe σ vs) (h0 : ∀ D H', Evl.Ex H H' → Pv D 0 [] H')
    (hs : ∀ i x, xs[i]? = some x → ∀ (D : Addr) (acc : List V) (H' : Hp) (N : VK), Evl.Ex H H' → H' D = some (.lst acc) → Pv D i acc H' → (∀ v H3, Evl.Ex H' H3 → Pv D (i + 1) (acc ++ [v]) (upd H3 D (.lst (acc ++ [v]))) → N v H3) → te (σx x) H' N)
    (hd : ∀ D acc H', Evl.Ex H H' → H D = none → H' D = some (.lst acc) → Pv D xs.length acc H' → Q (.ref D) H') : LcR (gName j) tYes te vs σ Q (Itt K a) H := fun D hn =>
  lc_tup (xs := xs) (fun i H' => i ≤ xs.length ∧ Evl.Ex H H' ∧ ∃ acc, H' D = some (.lst acc) ∧ acc.length = i ∧ Pv D i acc H') ⟨Nat.zero_le _, Evl.Ex.new hn, [], upd_same, rfl, h0 _ _ (Evl.Ex.new hn)⟩ (fun i H' _ ⟨_, ex, _⟩ => Evl.ex_t ex hx) (fun i x H' hi p => by
    obtain ⟨_, ex, acc, ea, hl, hp⟩ := p
    have hlt := (List.getElem?_eq_some_iff.mp hi).1
    rw [show gName j x (wipe σ vs) H' = fun N => N (σx x) H' from funext fun N => by rw [← hσ x] <;> rfl]
    refine ⟨hw _, ?_⟩
    refine rd_yes ?_
    rw [if_pos rfl]
    refine hs i x hi D acc H' _ ex ea hp fun v H3 e3 hp3 => ⟨acc, e3 D _ ea, Evl.sz_lt (by omega), by omega, Evl.Ex.mut (ex.trans e3) hn, acc ++ [v], upd_same, by rw [List.length_append, hl] <;> rfl, hp3⟩) fun H' p => by
    obtain ⟨_, ex, acc, ea, _, hp⟩ := p
    exact hd D acc H' ex hn ea hp
end
end Ea
set_option Elab.async false
set_option linter.all false
set_option maxRecDepth 100000
set_option maxHeartbeats 400000
/-! x in t, x not in t for a tuple of data of any depth. -/
namespace Ea
open PySem PySem.Spec PyProof PyProof.Rows L2
def rInDT (K : PySem.W.Frag) : R2 := fun x y H Q => ∃ d ds, Dp K H x d ∧ Dp K H y (.tuple ds) ∧ SeqAt.shaped d = true ∧ SeqAt.shaped (.tuple ds) = true ∧ Q (.bl (ds.any fun z => PyData.eqv z d)) H
def rNotInDT (K : PySem.W.Frag) : R2 := fun x y H Q => ∃ d ds, Dp K H x d ∧ Dp K H y (.tuple ds) ∧ SeqAt.shaped d = true ∧ SeqAt.shaped (.tuple ds) = true ∧ Q (.bl (!ds.any fun z => PyData.eqv z d)) H
theorem op_inDT {X : Cx} {K : PySem.W.Frag} (hK : X.K = K) (hu : X.A.units + 65 < cLine) : OpR X (compareOp .In) (rInDT K) := by
  subst hK
  intro pins s σ H x y v u Q I rx ry h
  obtain ⟨d, ds, hd, he, sd, se, q⟩ := h
  obtain ⟨as, r1⟩ := Dp.reads I d x v hd rx
  obtain ⟨bs, r2⟩ := Dp.reads I (.tuple ds) y u he ry
  exact SeqAt.in_tuple_reads r2 r1 (SeqAt.canLay_of_shaped se) (SeqAt.canLay_of_shaped sd) (room_in_shaped sd hu) ⟨.bl _, H, I, rfl, q⟩
theorem op_notInDT {X : Cx} {K : PySem.W.Frag} (hK : X.K = K) (hu : X.A.units + 65 < cLine) : OpR X (compareOp .NotIn) (rNotInDT K) := by
  subst hK
  intro pins s σ H x y v u Q I rx ry h
  obtain ⟨d, ds, hd, he, sd, se, q⟩ := h
  obtain ⟨as, r1⟩ := Dp.reads I d x v hd rx
  obtain ⟨bs, r2⟩ := Dp.reads I (.tuple ds) y u he ry
  exact SeqAt.notIn_tuple_reads r2 r1 (SeqAt.canLay_of_shaped se) (SeqAt.canLay_of_shaped sd) (room_in_shaped sd hu) ⟨.bl _, H, I, rfl, q⟩
end Ea
set_option Elab.async false
set_option linter.all false
set_option maxRecDepth 100000
set_option maxHeartbeats 400000
/-! sorted of a list of alike data (pairs of an int and something). -/
namespace Ea
open PySem PySem.Spec PyProof PyProof.Rows L2
theorem vals_fst {β : Type} : ∀ {ps : List (V × β)} {its : List Value}, Vals (ps.map (·.1)) its → PySem.W.EachIs (fun v (p : V × β) => RelV p.1 v) its ps
  | [], _, r => by
    cases r
    exact .nil
  | p :: ps, _, r => by
    rw [List.map_cons] at r
    cases r with
    | cons h t => exact .cons h (vals_fst t)
theorem fst_vals {β : Type} : ∀ {its : List Value} {ps : List (V × β)}, PySem.W.EachIs (fun v (p : V × β) => RelV p.1 v) its ps → Vals (ps.map (·.1)) its
  | _, _, .nil => .nil
  | _, _, .cons h t => .cons h (fst_vals t)
theorem perm_map_back {α β : Type} (f : α → β) : ∀ {qs : List β} {xs : List α}, qs.Perm (xs.map f) → ∃ ts : List α, ts.Perm xs ∧ qs = ts.map f := by
  intro qs xs h
  have key : ∀ {as bs : List β}, as.Perm bs → ∀ xs : List α, bs = xs.map f → ∃ ts : List α, ts.Perm xs ∧ as = ts.map f := by
    intro as bs h
    induction h with
    | nil =>
      intro xs e
      cases xs with
      | nil => exact ⟨[], .nil, rfl⟩
      | cons x t => cases e
    | cons x p ih =>
      intro xs e
      cases xs with
      | nil => cases e
      | cons y t =>
        rw [List.map_cons] at e
        injection e with e1 e2
        obtain ⟨ts, p2, e3⟩ := ih t e2
        exact ⟨y :: ts, p2.cons y, by rw [List.map_cons, e1, e3]⟩
    | swap x y l =>
      intro xs e
      match xs, e with
      | a :: b :: t, e =>
        rw [List.map_cons, List.map_cons] at e
        injection e with e1 e2
        injection e2 with e2 e3
        exact ⟨b :: a :: t, .swap a b t, by rw [List.map_cons, List.map_cons, e1, e2, e3]⟩
    | trans p1 p2 ih1 ih2 =>
      intro xs e
      obtain ⟨ts, p3, e3⟩ := ih2 xs e
      obtain ⟨us, p4, e4⟩ := ih1 ts e3
      exact ⟨us, p4.trans p3, e4⟩
  exact key h xs rfl
def rSortDt (K : PySem.W.Frag) : List V → Hp → VK → Prop := fun xs H Q => ∃ (a : Addr) (ps : List (V × PyData)), xs = [.ref a] ∧ SqL K H a (ps.map (·.1)) ∧ (∀ p ∈ ps, Dp K H p.1 p.2) ∧ PySem.W.AllAlike (ps.map (·.2)) ∧ PySem.W.Sortable (ps.map (·.2)) ∧ (∀ p ∈ ps, p.2.depth ≤ 8) ∧
  ∀ (qs : List (V × PyData)) (b : Addr), qs.Perm ps → qs.Pairwise (fun x y => PySem.W.dataLe false (fun p : V × PyData => p.2) x y = true) → H b = none → Q (.ref b) (upd H b (.lst (qs.map (·.1))))
theorem cr_sortDt {X : Cx} {K : PySem.W.Frag} (hK : X.K = K) (hu : X.A.units + 64 < cLine) : CallR X (.builtin "sorted") (rSortDt K) := by
  subst hK
  intro pins s σ H xs us Q I r h
  obtain ⟨a, ps, rfl, hs, hdp, hal, hsr, hdep, q⟩ := h
  rw [Vals.ref1 r]
  obtain ⟨its, rv, hl, hz⟩ := I.list hs
  have hlen : ps.length ≤ sizeLine := by
    rw [List.length_map] at hz
    exact hz
  have hR := vals_fst rv
  refine PySem.W.sorted_data (β := V × PyData) (R := fun v p => RelV p.1 v) (bs := ps) (enc := fun p => p.2) hl.isList hR ?_ hal hsr hlen (fun x hx => ?_) fun out ho he => ?_
  · refine (PySem.W.each_mem hR).mono fun v p ⟨hv, hp⟩ => ?_
    exact Dp.reads I p.2 p.1 v (hdp p hp) hv
  · have := hdep x hx
    omega
  · have pm : (ps.mergeSort (PySem.W.dataLe false fun p : V × PyData => p.2)).Perm ps := List.mergeSort_perm _ _
    have tot := PySem.W.sortLe_total (listOrd itemOrd) false fun p : V × PyData => PySem.W.keyToks p.2
    have so : (ps.mergeSort (PySem.W.dataLe false fun p : V × PyData => p.2)).Pairwise (fun x y => PySem.W.dataLe false (fun p : V × PyData => p.2) x y = true) :=
      PySem.W.sort_pairwise tot ps
    have hl2 : ((ps.mergeSort (PySem.W.dataLe false fun p : V × PyData => p.2)).map (·.1)).length ≤ sizeLine := by
      rw [List.length_map, pm.length_eq]
      exact hlen
    obtain ⟨e, hat⟩ := PyProof.Rows.sortedAll_at s.heap its out.toArray
    exact ⟨.ref _, upd H (s.heap.objs.size + 1) (.lst _), I.laid (t' := s.toks) (fun b u e => PyProof.Rows.sortedAll_old e) (Nat.le_succ _) ⟨hl2, out, e, fst_vals he, hat⟩, rfl, q _ _ pm so (I.hok.fresh (Nat.le_succ _))⟩
theorem rd_sortDt {K : PySem.W.Frag} {H : Hp} {Q : VK} {a : Addr} (ps : List (V × PyData)) (hs : SqL K H a (ps.map (·.1))) (hdp : ∀ p ∈ ps, Dp K H p.1 p.2) (hal : PySem.W.AllAlike (ps.map (·.2))) (hsr : PySem.W.Sortable (ps.map (·.2))) (hdep : ∀ p ∈ ps, p.2.depth ≤ 8)
    (q : ∀ (qs : List (V × PyData)) (b : Addr), qs.Perm ps → qs.Pairwise (fun x y => PySem.W.dataLe false (fun p : V × PyData => p.2) x y = true) → H b = none → Q (.ref b) (upd H b (.lst (qs.map (·.1))))) : rSortDt K [.ref a] H Q := ⟨a, ps, rfl, hs, hdp, hal, hsr, hdep, q⟩
theorem le_of_pair {x y : V × PyData} {i j : Int} {ds es : List PyData} (hx : x.2 = .tuple (.int i :: ds)) (hy : y.2 = .tuple (.int j :: es)) (h : PySem.W.dataLe false (fun p : V × PyData => p.2) x y = true) : i ≤ j := by
  have h2 : (!PyProof.Rows.lexLt itemOrd (PySem.W.keyToks y.2) (PySem.W.keyToks x.2)) = true := h
  rw [hx, hy] at h2
  have e1 : PySem.W.keyToks (.tuple (.int i :: ds)) = .inl 1 :: .inl i :: PySem.W.keyToksAll ds := by simp [PySem.W.keyToks, PySem.W.keyToksAll]
  have e2 : PySem.W.keyToks (.tuple (.int j :: es)) = .inl 1 :: .inl j :: PySem.W.keyToksAll es := by simp [PySem.W.keyToks, PySem.W.keyToksAll]
  rw [e1, e2, PyProof.Rows.lex_cons, PyProof.Rows.lex_cons] at h2
  refine Int.not_lt.mp fun c => ?_
  have b1 : itemOrd.blt (.inl j : Int ⊕ List Nat) (.inl i) = true := decide_eq_true c
  have b2 : itemOrd.blt (.inl 1 : Int ⊕ List Nat) (.inl 1) = false := by decide
  rw [b1, b2] at h2
  exact absurd h2 (by simp)
section
variable {K : PySem.W.Frag} {σ : L2.St} {H : Hp} {Q : VK} {tt : TT} {te : TE} {vs : List Nat} {j1 j2 k : Nat} {σx : V → V → L2.St} {a : Addr} {px py : Nat → V} {f : Nat → Bool} {g : Nat → V}
/-- a comprehension over a list of pairs -/
theorem lc_prL {xs : List V} (hk : k = 2) (hx : SqL K H a xs) (hz : xs.length ≤ 40000) (hp : ∀ i, i < xs.length → ∃ T, xs[i]? = some (.ref T) ∧ SqT K H T [px i, py i])
    (hσ : ∀ x y, ((wipe σ vs).set j1 (some x)).set j2 (some y) = σx x y) (hw : ∀ x y, wipe (σx x y) vs = wipe σ vs) (hs : ∀ i, i < xs.length → TurnP H tt te σx px py f g i)
    (hd : ∀ D H', Evl.Ex H H' → H D = none → H' D = some (.lst (((List.range xs.length).filter f).map g)) → Q (.ref D) H') : LcR (gTup K k (gCons (gName j1) (gCons (gName j2) gNil))) tt te vs σ Q (Itl K a) H := fun D hn =>
  lc_list (xs := xs) (fun i H' => Evl.Ex H H' ∧ H' D = some (.lst (((List.range i).filter f).map g))) ⟨Evl.Ex.new hn, upd_same⟩ (fun i H' _ ⟨ex, _⟩ => Evl.ex_l ex hx) (fun i x H' hi p => by
    obtain ⟨e, ed⟩ := p
    have hil := (List.getElem?_eq_some_iff.mp hi).1
    obtain ⟨T, hT, sT⟩ := hp i hil
    rw [hT] at hi
    cases hi
    have hlen : (((List.range i).filter f).map g).length < 100000 := by
      rw [List.length_map]
      have h1 := List.length_filter_le f (List.range i)
      rw [List.length_range] at h1
      omega
    refine rd_gtup2 (x := px i) (y := py i) (Evl.ex_t e sT) hk (hσ _ _) ⟨hw _ _, hs i hil _ _ _ e (fun hf H3 e3 => ?_) fun hf H3 e3 => ?_⟩
    · refine ⟨_, e3 D _ ed, Evl.sz_lt hlen, Evl.Ex.mut (e.trans e3) hn, ?_⟩
      rw [upd_same, range_snoc, if_pos hf]
    · refine ⟨e.trans e3, ?_⟩
      rw [range_snoc, if_neg (by rw [hf]; decide), List.append_nil]
      exact e3 D _ ed) fun H' p => hd D H' p.1 hn p.2
end
/-- pairs as cells: at place j a tuple of the int k and the value v -/
def Prs (H : Hp) (vs : List V) (ps : List (Int × V)) : Prop := vs.length = ps.length ∧ ∀ (j : Nat) (p : Int × V), ps[j]? = some p → ∃ b : Addr, vs[j]? = some (.ref b) ∧ H b = some (.tup [.int p.1, p.2])
theorem Prs.nil {H : Hp} : Prs H [] [] := ⟨rfl, fun j p h => by simp at h⟩
theorem Prs.ex {H H' : Hp} {vs : List V} {ps : List (Int × V)} (e : Evl.Ex H H') (h : Prs H vs ps) : Prs H' vs ps := ⟨h.1, fun j p hj => by
  obtain ⟨b, h3, h4⟩ := h.2 j p hj
  exact ⟨b, h3, e _ _ h4⟩⟩
theorem Prs.mut {H : Hp} {vs : List V} {ps : List (Int × V)} {D : Addr} {ys u : List V} (h : Prs H vs ps) (hD : H D = some (.lst ys)) : Prs (upd H D (.lst u)) vs ps := ⟨h.1, fun j p hj => by
  obtain ⟨b, h3, h4⟩ := h.2 j p hj
  refine ⟨b, h3, ?_⟩
  rw [upd_ne (fun e => by rw [e, hD] at h4; cases h4)]
  exact h4⟩
theorem Prs.snoc {H : Hp} {vs : List V} {ps : List (Int × V)} {b : Addr} {p : Int × V} (h : Prs H vs ps) (hb : H b = some (.tup [.int p.1, p.2])) : Prs H (vs ++ [.ref b]) (ps ++ [p]) := ⟨by rw [List.length_append, List.length_append, h.1] <;> rfl, fun j q hj => by
  rw [List.getElem?_append] at hj
  split at hj
  · next c =>
    obtain ⟨b2, h3, h4⟩ := h.2 j q hj
    exact ⟨b2, by rw [List.getElem?_append_left (by rw [h.1]; exact c)]; exact h3, h4⟩
  · next c =>
    have hj0 : j - ps.length = 0 := by
      have := (List.getElem?_eq_some_iff.mp hj).1
      rw [List.length_singleton] at this
      omega
    rw [hj0] at hj
    obtain rfl : p = q := Option.some.inj hj
    exact ⟨b, by rw [List.getElem?_append_right (by rw [h.1]; omega), h.1, hj0] <;> rfl, hb⟩⟩
/-- what is sorted: the pairs with their data -/
def prD (F : Int × V → PyData) (vs : List V) (ps : List (Int × V)) : List (V × PyData) := (vs.zip ps).map fun q => (q.1, F q.2)
theorem prD_fst {F : Int × V → PyData} {vs : List V} {ps : List (Int × V)} (h : vs.length = ps.length) : (prD F vs ps).map (·.1) = vs := by
  unfold prD
  rw [List.map_map]
  show (vs.zip ps).map Prod.fst = vs
  exact List.map_fst_zip (by omega)
/-- sorted(xs), xs a list of pairs (int, datum) -/
theorem rd_sortPrs {K : PySem.W.Frag} {H : Hp} {Q : VK} {a : Addr} {vs : List V} {ps : List (Int × V)} (E : V → PyData) (hs : SqL K H a vs) (hp : Prs H vs ps) (hE : ∀ p ∈ ps, Dp K H p.2 (E p.2)) (hal : ∀ p ∈ ps, ∀ q ∈ ps, PySem.W.alike (E p.2) (E q.2) = true) (hd : ∀ p ∈ ps, (E p.2).depth ≤ 4)
    (q : ∀ (us : List V) (qs : List (Int × V)) (b : Addr), qs.Perm ps → qs.Pairwise (fun x y => x.1 ≤ y.1) → Prs H us qs → H b = none → Q (.ref b) (upd H b (.lst us))) : rSortDt K [.ref a] H Q := by
  let F : Int × V → PyData := fun p => .tuple [.int p.1, E p.2]
  have hzip : ∀ t ∈ vs.zip ps, t.2 ∈ ps ∧ ∃ b, t.1 = .ref b ∧ H b = some (.tup [.int t.2.1, t.2.2]) := fun t ht => by
    obtain ⟨j, hj⟩ := List.mem_iff_getElem?.mp ht
    rw [List.getElem?_zip_eq_some] at hj
    obtain ⟨b, h3, h4⟩ := hp.2 j t.2 hj.2
    rw [hj.1] at h3
    exact ⟨List.mem_of_getElem? hj.2, b, Option.some.inj h3, h4⟩
  refine rd_sortDt (prD F vs ps) (by rw [prD_fst hp.1]; exact hs) (fun p hm => ?_) (fun d hm e hm2 => ?_) (.inl fun d hm => ?_) (fun p hm => ?_) fun qs b pm so hb => ?_
  · obtain ⟨t, ht, rfl⟩ := List.mem_map.mp hm
    obtain ⟨h1, b, h2, h3⟩ := hzip t ht
    show Dp K H t.1 (.tuple [.int t.2.1, E t.2.2])
    rw [h2]
    exact .tup (SqT.of h3) (.cons (.int _) (.cons (hE _ h1) .nil))
  · obtain ⟨p, hp1, rfl⟩ := List.mem_map.mp hm
    obtain ⟨t, ht, rfl⟩ := List.mem_map.mp hp1
    obtain ⟨p2, hp2, rfl⟩ := List.mem_map.mp hm2
    obtain ⟨t2, ht2, rfl⟩ := List.mem_map.mp hp2
    show PySem.W.alike (.tuple [.int t.2.1, E t.2.2]) (.tuple [.int t2.2.1, E t2.2.2]) = true
    have := hal _ (hzip t ht).1 _ (hzip t2 ht2).1
    simp [PySem.W.alike, PySem.W.alikeAll, this]
  · obtain ⟨p, hp1, rfl⟩ := List.mem_map.mp hm
    obtain ⟨t, ht, rfl⟩ := List.mem_map.mp hp1
    exact ⟨_, _, rfl⟩
  · obtain ⟨t, ht, rfl⟩ := List.mem_map.mp hm
    have h1 := hd _ (hzip t ht).1
    have e : (F t.2).depth = (PyData.tuple [.int t.2.1, E t.2.2]).depth := rfl
    show (PyData.tuple [.int t.2.1, E t.2.2]).depth ≤ 8
    simp only [PyData.depth, PyData.depthAll]
    omega
  · -- the pairs behind the sorted ones
    have hmem : ∀ x ∈ qs, ∃ t ∈ vs.zip ps, x = (t.1, F t.2) := fun x hx => by
      obtain ⟨t, ht, e⟩ := List.mem_map.mp (pm.mem_iff.mp hx)
      exact ⟨t, ht, e.symm⟩
    have pm2 : ∃ ts : List (V × (Int × V)), ts.Perm (vs.zip ps) ∧ qs = ts.map fun t => (t.1, F t.2) := perm_map_back _ pm
    obtain ⟨ts, pts, rfl⟩ := pm2
    have pz : (ts.map (·.2)).Perm ps := by
      have := pts.map (·.2)
      rwa [List.map_snd_zip (by rw [hp.1]; exact Nat.le_refl _)] at this
    have so2 : (ts.map (·.2)).Pairwise (fun x y => x.1 ≤ y.1) := by
      rw [List.pairwise_map] at so ⊢
      exact so.imp fun {x y} h => le_of_pair (x := (x.1, F x.2)) (y := (y.1, F y.2)) rfl rfl h
    have hu : Prs H (ts.map (·.1)) (ts.map (·.2)) := ⟨by rw [List.length_map, List.length_map], fun j p hj => by
      rw [List.getElem?_map] at hj
      obtain ⟨t, ht, rfl⟩ := Option.map_eq_some_iff.mp hj
      obtain ⟨_, b2, h2, h3⟩ := hzip t (pts.mem_iff.mp (List.mem_of_getElem? ht))
      exact ⟨b2, by rw [List.getElem?_map, ht]; show some t.1 = _; rw [h2], h3⟩⟩
    have e : (ts.map fun t => (t.1, F t.2)).map (·.1) = ts.map (·.1) := by rw [List.map_map] <;> rfl
    rw [e]
    exact q _ _ b pz so2 hu hb
end Ea
set_option Elab.async false
set_option linter.all false
set_option maxRecDepth 100000
set_option maxHeartbeats 400000
/-! Fors over enumerate and zip of lists with a pair within the pair; three names set at once. -/
namespace Ea
open PySem PySem.Spec PyProof PyProof.Rows L2
theorem pi_zipK {X : Cx} {K : PySem.W.Frag} (hKK : X.K = K) {e e2 : Expr} {ta : TA} {p pos tpos : Pos} {elts : List Expr} {kk : Nat} (hg : L2.Gl X "zip") (hm : X.mg "zip" = none) (ha : PA X [e, e2] ta)
    (hs : starEach [e, e2] X.env = (false, eval e X.env) :: starEach [e2] X.env := by rfl) (hpl : (backTo pos (starEach [e2] X.env)).any (·.1) = false := by rfl) :
    PI X (.Tuple elts kk tpos) (.Call (.Name "zip" p) [e, e2] [] pos) (iZip K ta) := hKK ▸ pi_zip hg hm ha hs hpl
theorem rd_iZipL {K : PySem.W.Frag} {ta : TA} {R : It → Hp → Prop} {σ : L2.St} {H : Hp} (h : ta σ H fun vs H1 => ∃ a b xs ys, vs = [.ref a, .ref b] ∧ SqL K H1 a xs ∧ SqL K H1 b ys ∧ R (Itz K a b) H1) : iZip K ta σ H R := h
section
variable {K : PySem.W.Frag} {σ : L2.St} {H : Hp} {tb : TS} {D : Ends} {j k : Nat} {g : TG}
/-- for i, (..) in enumerate(xs) -/
theorem fr_enumLN {a : Addr} {xs : List V} (hk : k = 2) (Pv : Nat → L2.St → Hp → Prop) (h0 : Pv 0 σ H) (hl : ∀ i σ H, Pv i σ H → SqL K H a xs)
    (hs : ∀ i σ H1 T, i < xs.length → Pv i σ H1 → H1 T = none → g (xs.getD i .non) (σ.set j (some (.int (i : Nat)))) (upd H1 T (.tup [.int (i : Nat), xs.getD i .non])) fun σ' H' => gNil [] σ' H' (tb { D with nx := Pv (i + 1), ct := Pv (i + 1), bk := D.nx }))
    (hd : ∀ σ H, Pv xs.length σ H → D.nx σ H) : ForR (gTup K k (gCons (gName j) (gCons g gNil))) tb D σ (Ite K a) H := by
  refine ⟨fun i m σ' H' => i + m = xs.length ∧ Pv i σ' H', ⟨xs.length, by omega, h0⟩, fun i m σ' H' hW => ?_⟩
  obtain ⟨em, hp⟩ := hW
  by_cases hi : i < xs.length
  · refine .inr ⟨⟨xs, xs[i], hl i σ' H' hp, List.getElem?_eq_getElem hi⟩, Pv (i + 1), fun σ2 H2 h2 => ⟨m - 1, by omega, by omega, h2⟩, fun x H2 hy => ?_⟩
    obtain ⟨T, y, rfl, hT, rfl, h⟩ := hy
    have h := h xs (hl i σ' H' hp)
    have ey : xs.getD i .non = y := by rw [List.getD_eq_getElem?_getD, h] <;> rfl
    have q := hs i σ' H' T hi hp hT
    rw [ey] at q
    exact ⟨T, _, rfl, SqT.of upd_same, hk.symm, _, _, rfl, _, _, rfl, q⟩
  · have hin : i = xs.length := by omega
    subst hin
    exact .inl ⟨⟨xs, hl _ σ' H' hp, Nat.le_refl _⟩, hd σ' H' hp⟩
/-- for (..), y in zip(xs, ys) -/
theorem fr_zipLN {a b : Addr} {xs ys : List V} (hk : k = 2) (he : xs.length = ys.length) (Pv : Nat → L2.St → Hp → Prop) (h0 : Pv 0 σ H) (hl : ∀ i σ H, Pv i σ H → SqL K H a xs ∧ SqL K H b ys)
    (hs : ∀ i σ H1 T, i < xs.length → Pv i σ H1 → H1 T = none → g (xs.getD i .non) σ (upd H1 T (.tup [xs.getD i .non, ys.getD i .non])) fun σ' H' => gCons (gName j) gNil [ys.getD i .non] σ' H' (tb { D with nx := Pv (i + 1), ct := Pv (i + 1), bk := D.nx }))
    (hd : ∀ σ H, Pv xs.length σ H → D.nx σ H) : ForR (gTup K k (gCons g (gCons (gName j) gNil))) tb D σ (Itz K a b) H := by
  refine ⟨fun i m σ' H' => i + m = xs.length ∧ Pv i σ' H', ⟨xs.length, by omega, h0⟩, fun i m σ' H' hW => ?_⟩
  obtain ⟨em, hp⟩ := hW
  by_cases hi : i < xs.length
  · refine .inr ⟨⟨xs, ys, xs[i], ys[i]'(by omega), (hl i σ' H' hp).1, (hl i σ' H' hp).2, List.getElem?_eq_getElem hi, List.getElem?_eq_getElem (by omega)⟩, Pv (i + 1), fun σ2 H2 h2 => ⟨m - 1, by omega, by omega, h2⟩, fun x H2 hy => ?_⟩
    obtain ⟨T, x, y, rfl, hT, rfl, hx, hy⟩ := hy
    have hx := hx xs (hl i σ' H' hp).1
    have hy := hy ys (hl i σ' H' hp).2
    have ex : xs.getD i .non = x := by rw [List.getD_eq_getElem?_getD, hx] <;> rfl
    have ey : ys.getD i .non = y := by rw [List.getD_eq_getElem?_getD, hy] <;> rfl
    have q := hs i σ' H' T hi hp hT
    rw [ex, ey] at q
    exact ⟨T, _, rfl, SqT.of upd_same, hk.symm, _, _, rfl, q⟩
  · have hin : i = xs.length := by omega
    subst hin
    exact .inl ⟨⟨xs, ys, (hl _ σ' H' hp).1, (hl _ σ' H' hp).2, .inl (Nat.le_refl _)⟩, hd σ' H' hp⟩
end
end Ea
set_option Elab.async false
set_option linter.all false
set_option maxRecDepth 100000
set_option maxHeartbeats 400000
namespace KA
open PySem PySem.Spec PyProof.Rows L2 Ea
def topS (i : Nat) : Stmt := PySem.Challenge.pw_eachsome_k12_whole_long_sparse_sentences.main.body.getD i (.Pass ⟨0, 0, 0, 0⟩)
abbrev s_law_draw : Stmt := topS 18
theorem sc_law_draw : FnScope ["deck", "many", "cell", "found", "turn"] ["deck", "many"] (defScope s_law_draw) :=
  ⟨rfl, rfl, rfl, by decide +kernel, rfl, by decide +kernel, by decide +kernel⟩
abbrev s_law_pick : Stmt := topS 19
theorem sc_law_pick : FnScope ["deck", "items"] ["deck", "items"] (defScope s_law_pick) :=
  ⟨rfl, rfl, rfl, by decide +kernel, rfl, by decide +kernel, by decide +kernel⟩
abbrev s_law_mixed : Stmt := topS 20
theorem sc_law_mixed : FnScope ["deck", "items", "left", "found"] ["deck", "items"] (defScope s_law_mixed) :=
  ⟨rfl, rfl, rfl, by decide +kernel, rfl, by decide +kernel, by decide +kernel⟩
abbrev s_law_deck : Stmt := topS 17
theorem sc_law_deck : FnScope ["script", "cell", "cells", "mixed"] ["script"] (defScope s_law_deck) :=
  ⟨rfl, rfl, rfl, by decide +kernel, rfl, by decide +kernel, by decide +kernel⟩
local macro_rules | `(tactic| walk_at "rd") => `(tactic| first
  | (with_reducible refine rd_seq ?_) | (with_reducible refine rd_asg ?_) | (with_reducible refine rd_if ?_) | (with_reducible refine rd_ret ?_) | (with_reducible refine rd_next ?_)
  | (with_reducible refine rd_drop ?_) | ((with_reducible refine rd_name (σ' := ?ss) ?hs ?_); (case hs => (dsimp only [List.set]; exact rfl)))
  | ((with_reducible refine rd_var (v := ?vv) ?hv ?_); (case hv => exact rfl)) | (with_reducible refine rd_c ?_) | (with_reducible refine rd_op ?_) | (with_reducible refine rd_un ?_)
  | (with_reducible refine rd_I0 ?_) | (with_reducible refine rd_U ?_) | (with_reducible refine rd_test ?_) | (with_reducible refine rd_B ?_) | (with_reducible refine rd_k ?_)
  | (with_reducible refine rd_not ?_) | (with_reducible refine rd_and ?_) | (with_reducible refine rd_or ?_) | (with_reducible refine rd_ifE ?_)
  | (with_reducible refine rd_par ?_) | ((with_reducible refine rd_par2 (σ' := ?ss) ?hs ?_); (case hs => (dsimp only [List.set]; exact rfl)))
  | (with_reducible refine rd_gsub ?_) | (with_reducible refine rd_andV ?_) | (with_reducible refine rd_orV ?_) | (with_reducible refine rd_notV ?_)
  | (with_reducible refine rd_lc ?_) | (with_reducible refine rd_iTup ?_) | (with_reducible refine rd_iList ?_) | (with_reducible refine rd_iRng1 ?_)
  | (with_reducible refine rd_yes ?_) | (with_reducible refine rd_true ?_) | (with_reducible refine rd_false ?_) | (with_reducible refine rd_m1 ?_) | (with_reducible refine rd_isS ?_)
  | ((with_reducible refine rd_eq ?hs ?_); (case hs => exact rfl)) | ((with_reducible refine rd_ne ?hs ?_); (case hs => exact rfl))
  | (with_reducible refine rd_listRg ?_) | (with_reducible refine rd_rg2 ?_) | (with_reducible refine rd_rgk ?_)
  | (with_reducible refine rd_dnew ?_) | (with_reducible refine rd_ddel ?_) | (with_reducible refine rd_kw ?_) | (with_reducible refine rd_callS ?_) | (with_reducible refine rd_dc ?_) | (with_reducible refine rd_for ?_) | (with_reducible refine rd_tru ?_) | (with_reducible refine rd_truI ?_)
  | (with_reducible refine rd_nil ?_) | (with_reducible refine rd_cons ?_) | (with_reducible refine rd_call ?_) | (with_reducible refine rd_cb ?_)
  | (with_reducible refine rd_tup ?_) | (with_reducible refine rd_lst ?_) | (with_reducible refine rd_dget ?_) | (with_reducible refine rd_dput ?_) | (with_reducible refine rd_sl ?_)
  | (with_reducible refine rd_nopart ?_) | (with_reducible refine rd_part ?_) | (with_reducible refine rd_parti ?_) | (with_reducible refine rd_bm ?_) | (with_reducible refine rd_bm0 ?_)
  | (with_reducible refine rd_int ?_) | (with_reducible refine rd_intb ?_) | (with_reducible refine rd_abs ?_) | (with_reducible refine rd_min2 ?_) | (with_reducible refine rd_max2 ?_))
local macro_rules | `(tactic| walk_at "rds") => `(tactic| repeat (walk_at "rd"))
local macro_rules | `(tactic| walk_at "rq") => `(tactic| first
  | (with_reducible refine rd_seq ?_) | (with_reducible refine rd_asg ?_) | (with_reducible refine rd_ret ?_) | (with_reducible refine rd_next ?_)
  | (with_reducible refine rd_drop ?_) | ((with_reducible refine rd_name (σ' := ?ss) ?hs ?_); (case hs => (dsimp only [List.set]; exact rfl)))
  | ((with_reducible refine rd_var (v := ?vv) ?hv ?_); (case hv => exact rfl)) | (with_reducible refine rd_c ?_) | (with_reducible refine rd_op ?_) | (with_reducible refine rd_un ?_)
  | (with_reducible refine rd_I0 ?_) | (with_reducible refine rd_U ?_) | (with_reducible refine rd_test ?_) | (with_reducible refine rd_B ?_) | (with_reducible refine rd_k ?_)
  | (with_reducible refine rd_not ?_) | (with_reducible refine rd_and ?_) | (with_reducible refine rd_or ?_) | (with_reducible refine rd_ifE ?_)
  | (with_reducible refine rd_par ?_) | ((with_reducible refine rd_par2 (σ' := ?ss) ?hs ?_); (case hs => (dsimp only [List.set]; exact rfl)))
  | (with_reducible refine rd_gsub ?_) | (with_reducible refine rd_andV ?_) | (with_reducible refine rd_orV ?_) | (with_reducible refine rd_notV ?_)
  | (with_reducible refine rd_lc ?_) | (with_reducible refine rd_iTup ?_) | (with_reducible refine rd_iList ?_) | (with_reducible refine rd_iRng1 ?_)
  | (with_reducible refine rd_yes ?_) | (with_reducible refine rd_true ?_) | (with_reducible refine rd_false ?_) | (with_reducible refine rd_m1 ?_) | (with_reducible refine rd_isS ?_)
  | ((with_reducible refine rd_eq ?hs ?_); (case hs => exact rfl)) | ((with_reducible refine rd_ne ?hs ?_); (case hs => exact rfl))
  | (with_reducible refine rd_listRg ?_) | (with_reducible refine rd_rg2 ?_) | (with_reducible refine rd_rgk ?_)
  | (with_reducible refine rd_dnew ?_) | (with_reducible refine rd_ddel ?_) | (with_reducible refine rd_kw ?_) | (with_reducible refine rd_callS ?_) | (with_reducible refine rd_dc ?_) | (with_reducible refine rd_for ?_) | (with_reducible refine rd_tru ?_) | (with_reducible refine rd_truI ?_)
  | (with_reducible refine rd_nil ?_) | (with_reducible refine rd_cons ?_) | (with_reducible refine rd_call ?_) | (with_reducible refine rd_cb ?_)
  | (with_reducible refine rd_tup ?_) | (with_reducible refine rd_lst ?_) | (with_reducible refine rd_dget ?_) | (with_reducible refine rd_dput ?_) | (with_reducible refine rd_sl ?_)
  | (with_reducible refine rd_nopart ?_) | (with_reducible refine rd_part ?_) | (with_reducible refine rd_parti ?_) | (with_reducible refine rd_bm ?_) | (with_reducible refine rd_bm0 ?_)
  | (with_reducible refine rd_int ?_) | (with_reducible refine rd_intb ?_) | (with_reducible refine rd_abs ?_) | (with_reducible refine rd_min2 ?_) | (with_reducible refine rd_max2 ?_))
local macro_rules | `(tactic| walk_at "rqs") => `(tactic| repeat (walk_at "rq"))

/-- the names of the built-ins that the text does not bind -/
structure Bl (mg : Str → Option Value) : Prop where
  len : mg "len" = none
  abs : mg "abs" = none
  min : mg "min" = none
  max : mg "max" = none
  sorted : mg "sorted" = none
  tuple : mg "tuple" = none
  list : mg "list" = none
  set : mg "set" = none
  int : mg "int" = none
  range : mg "range" = none
  repr : mg "repr" = none
  isinstance : mg "isinstance" = none
  enumerate : mg "enumerate" = none
  zip : mg "zip" = none
  sum : mg "sum" = none
  all : mg "all" = none
  any : mg "any" = none
  str : mg "str" = none
  bool : mg "bool" = none
/-- how a def stands among the module's names -/
structure Callee (K : PySem.W.Frag) (mg : Str → Option Value) (x : Str) (f : Addr) (fd : FuncData) (ps : List Str) : Prop where
  m : mg x = some (.ref f)
  k : PySem.W.keepIn K (.ref f) = true
  b : Binds K fd ps []
theorem SetFor_erase {as : List Int} {k : Nat} : (some (HO.lst ((as.map V.int).eraseIdx k)) : Option HO) = some (.lst ((as.eraseIdx k).map V.int)) := by
  rw [erase_mapI]
theorem erase_perm {as : List Int} {k : Nat} (h : k < as.length) : as.Perm (as[k] :: as.eraseIdx k) := by
  induction as generalizing k with
  | nil => cases h
  | cons x r ih =>
    cases k with
    | zero => exact List.Perm.refl _
    | succ k =>
      have h' : k < r.length := Nat.lt_of_succ_lt_succ h
      exact ((ih h').cons x).trans (List.Perm.swap _ _ _)
theorem perm_move (as bs : List Int) (x : Int) : (as ++ (bs ++ [x])).Perm ((x :: as) ++ bs) := by
  rw [← List.append_assoc]
  exact (List.perm_append_singleton x (as ++ bs)).trans (List.Perm.refl _)
section
variable {K : PySem.W.Frag} {H : Hp} {Q : VK} {d l : Addr} {m c k : Int} {xs : List V} {y : V} {i : Int}
theorem dk0 (h : H d = some (.lst [.ref l, .int m, .int c])) (q : Q (.ref l) H) : rIxL K (.ref d) (.int 0) H Q := rd_ixL (SqL.of h) rfl q
theorem dk1 (h : H d = some (.lst [.ref l, .int m, .int c])) (q : Q (.int m) H) : rIxL K (.ref d) (.int 1) H Q := rd_ixL (SqL.of h) rfl q
theorem dk2 (h : H d = some (.lst [.ref l, .int m, .int c])) (q : Q (.int c) H) : rIxL K (.ref d) (.int 2) H Q := rd_ixL (SqL.of h) rfl q
theorem dk_set2 {N : Hp → Prop} (h : H d = some (.lst [.ref l, .int m, .int c])) (q : N (upd H d (.lst [.ref l, .int m, .int k]))) : rSetL (.ref d) (.int 2) (.int k) H N := ⟨d, _, 2, 2, rfl, rfl, h, rfl, q⟩
theorem rd_listE {p : Addr} {ys : List V} (s : SqL K H p ys ∨ SqT K H p ys) (h : ∀ l, H l = none → Q (.ref l) (upd H l (.lst ys))) : rListOf K [.ref p] H Q := s.elim (fun s => rd_listL s h) fun s => rd_listT s h
end
section
variable {P : Program} {w : World} {K : PySem.W.Frag} {mg : Str → Option Value} {base : Heap}
def spDraw : Sp := fun vs H Q _ => ∃ (d l : Addr) (many : Int), vs = [.ref d, .int many] ∧ DeckL d l H ∧ 1 ≤ many ∧ many ≤ 1000000 ∧
  ∀ (r : Int) (H' : Hp), Gl d l H H' → 0 ≤ r → r < many → Q (.int r) H'
theorem ok_draw {f : Addr} {fd : FuncData} (F : Fun K "_law_draw" "_law_draw" s_law_draw f fd) (T : Bl mg) : FnOk P w K mg base CX0 1 f fd ["deck", "many"] spDraw := by
  refine F.ok sc_law_draw (fun vs H Q E h => ?_) (fun cdv A outer s H vs Q E hr h => ?_)
  · obtain ⟨d, l, many, rfl, _⟩ := h
    rfl
  · obtain ⟨d, l, many, rfl, hD, h1, h2, q⟩ := h
    refine ⟨_, (pss_cons (ps_if (PW.pt (pw_and (pt_cmpR (ok_neD (K := K) rfl hr.units) (pe_ix (ik_list (K := K) rfl) (pv 0) pe_int (fun _ _ => rfl)) (pe_lst pa_nil) (nomark _)) (pw_and1 (pt_cmpR op_gt (pv 1) pe_int (nomark _))))) (pss_cons (ps_set (i := 2) sc_law_draw.nd rfl (Or.inl rfl) (pe_bm PySem.F.plainAttrs_list PySem.F.slot_list_pop PySem.F.type_list_pop mt_popAt (pe_ix (ik_list (K := K) rfl) (pv 0) pe_int (fun _ _ => rfl)) (pa_cons pe_int pa_nil)))
 (pss_cons (ps_if (pt_cmpR op_ge (pv 2) (pv 1) (nomark _)) (pss_one (ps_expr (pe_bm PySem.F.plainAttrs_list PySem.F.slot_list_insert PySem.F.type_list_insert mt_insert (pe_ix (ik_list (K := K) rfl) (pv 0) pe_int (fun _ _ => rfl)) (pa_cons pe_int (pa_cons (pe_op op_fdiv (pv 2) (pv 1)) pa_nil))))) pss_nil)
 (pss_one (ps_ret (pe_op op_mod (pe_callTy c_int (by rfl) T.int (by decide +kernel) (pa_cons (pv 2) pa_nil)) (pv 1)))))) pss_nil)
 (pss_cons (ps_asg (pe_op op_add (pe_ix (ik_list (K := K) rfl) (pv 0) pe_int (fun _ _ => rfl)) pe_int) (pg_sub (pv 0) pe_int set_list))
 (pss_cons (ps_set (i := 3) sc_law_draw.nd rfl (Or.inl rfl) (pe_op op_mod (pe_callTy c_int (by rfl) T.int (by decide +kernel) (pa_cons (pe_op op_add (pe_ix (ik_list (K := K) rfl) (pv 0) pe_int (fun _ _ => rfl)) (pe_op op_mul pe_int (pe_ix (ik_list (K := K) rfl) (pv 0) pe_int (fun _ _ => rfl)))) pa_nil)) pe_int))
 (pss_cons (ps_for PassesOwn.never rfl (pi_range1 (by rfl) T.range (pa_cons pe_int pa_nil)) (pg_name (i := 4) sc_law_draw.nd rfl (Or.inl rfl)) (pss_one (ps_set (i := 3) sc_law_draw.nd rfl (Or.inl rfl) (pe_op op_mod (pe_callTy c_int (by rfl) T.int (by decide +kernel) (pa_cons (pe_op op_add (pe_op op_add (pe_op op_add (pe_op op_mul (pv 3) (pv 3)) (pe_op op_mul pe_int (pe_ix (ik_list (K := K) rfl) (pv 0) pe_int (fun _ _ => rfl)))) pe_int) (pv 4)) pa_nil)) pe_int))))
 (pss_one (ps_ret (pe_op op_mod (pe_callTy c_int (by rfl) T.int (by decide +kernel) (pa_cons (pe_op op_fdiv (pv 3) pe_int) pa_nil)) (pv 1)))))))), ?_⟩
    refine rd_start (σ' := [some (.ref d), some (.int many), none, none, none]) rfl ?_
    obtain ⟨ns, m, c, e1, e2, hl, hp, s0, s1⟩ := id hD
    have hdl := hD.ne
    walk_at "rds"
    refine dk0 e1 ?_
    walk_at "rds"
    refine ⟨Nat.zero_le _, fun p hp0 => ?_⟩
    obtain ⟨n1, n2⟩ := hD.off hp0
    have f1 : (upd H p (.lst [])) d = _ := (upd_ne n1.symm).trans e1
    have f2 : (upd H p (.lst [])) l = _ := (upd_ne n2.symm).trans e2
    refine rd_full (SqL.of f2) (dp_ints ns) (shaped_ints ns) (SqL.of upd_same) ?_
    walk_at "rds"
    refine rd_iteb (fun c2 => ?_) (fun c2 => ?_)
    · walk_at "rds"
      refine rd_ite (fun c3 => ?_) (fun c3 => ?_)
      · obtain ⟨z, r, rfl⟩ : ∃ z r, ns = z :: r := by
          cases ns with
          | nil => cases c2
          | cons z r => exact ⟨z, r, rfl⟩
        have z0 : 0 ≤ z := hp z List.mem_cons_self
        have hr0 : ∀ n ∈ r, 0 ≤ n := fun n hn => hp n (List.mem_cons_of_mem _ hn)
        have hrl : r.length + 1 ≤ 63 := hl
        walk_at "rds"
        refine dk0 f1 (rd_tyL f2 ?_)
        walk_at "rds"
        refine rd_popAt (k := 0) f2 rfl rfl (by rw [List.length_map]; show r.length + 1 ≤ _; omega) ?_
        have g1 : (upd (upd H p (.lst [])) l (.lst (((z :: r).map V.int).eraseIdx 0))) d = _ := (upd_ne hdl).trans f1
        have g2 : (upd (upd H p (.lst [])) l (.lst (((z :: r).map V.int).eraseIdx 0))) l = some (.lst (r.map V.int)) := upd_same
        walk_at "rds"
        refine rd_ite (fun c4 => ?_) (fun c4 => ?_)
        · walk_at "rds"
          refine dk0 g1 (rd_tyL g2 ?_)
          walk_at "rds"
          refine rd_I ⟨by omega, by omega⟩ ?_
          walk_at "rds"
          refine ⟨l, _, 0, _, rfl, rfl, g2, Evl.sz_lt (by rw [List.length_map]; omega), Int.le_refl _, by decide, ?_⟩
          walk_at "rds"
          refine rd_I (by omega) ?_
          have hq : 0 ≤ z / many := Int.ediv_nonneg z0 (by omega)
          refine q (z % many) _ ⟨⟨z / many :: r, m, c, (upd_ne hdl).trans g1, upd_same, hrl, fun n hn => ?_, s0, s1⟩, fun a o m1 m2 e => ?_⟩ (Int.emod_nonneg _ (by omega)) (Int.emod_lt_of_pos _ (by omega))
          · rcases List.mem_cons.mp hn with rfl | h
            · exact hq
            · exact hr0 n h
          · rw [upd_ne m2, upd_ne m2, upd_ne (ne_of_none e hp0)]
            exact e
        · walk_at "rds"
          refine rd_I (by omega) ?_
          refine q (z % many) _ ⟨⟨r, m, c, g1, g2, by omega, hr0, s0, s1⟩, fun a o m1 m2 e => ?_⟩ (Int.emod_nonneg _ (by omega)) (Int.emod_lt_of_pos _ (by omega))
          rw [upd_ne m2, upd_ne (ne_of_none e hp0)]
          exact e
      · walk_at "rds"
        refine dk2 f1 ?_
        walk_at "rds"
        refine dk_set2 f1 ?_
        have k1 : ∀ {k : Int}, (upd (upd H p (.lst [])) d (.lst [.ref l, .int m, .int k])) d = _ := fun {k} => upd_same
        have k2 : ∀ {k : Int}, (upd (upd H p (.lst [])) d (.lst [.ref l, .int m, .int k])) l = _ := fun {k} => (upd_ne hdl.symm).trans f2
        walk_at "rds"
        refine dk1 k1 ?_
        walk_at "rds"
        refine dk2 k1 ?_
        walk_at "rds"
        refine rd_I (.inl ⟨by decide, by decide⟩) ?_
        walk_at "rds"
        refine rd_I (by decide) ?_
        walk_at "rds"
        refine rd_rng1 (by decide) (by decide) ?_
        refine fr_range (lo := 0) (n := 2) (fun i σ' H' => ∃ (x : Int) (y : Option V), σ' = [some (.ref d), some (.int many), none, some (.int x), y] ∧ H' = upd (upd H p (.lst [])) d (.lst [.ref l, .int m, .int (c + 1)]) ∧ 0 ≤ x ∧ x < 4294967296) ⟨_, _, rfl, rfl, Int.emod_nonneg _ (by decide), by omega⟩ (fun i σ' H' hi hP => ?_) fun σ' H' hP => ?_
        · obtain ⟨x, y, rfl, rfl, x0, x1⟩ := hP
          refine rd_start (σ' := [some (.ref d), some (.int many), none, some (.int x), some (.int (0 + (i : Int)))]) rfl ?_
          walk_at "rds"
          refine rd_I (.inl ⟨by omega, by omega⟩) ?_
          walk_at "rds"
          refine dk2 k1 ?_
          walk_at "rds"
          refine rd_I (.inl ⟨by decide, by decide⟩) ?_
          walk_at "rds"
          refine rd_I (by decide) ?_
          walk_at "rds"
          exact ⟨_, _, rfl, rfl, Int.emod_nonneg _ (by decide), by omega⟩
        · obtain ⟨x, y, rfl, rfl, x0, x1⟩ := hP
          walk_at "rds"
          refine rd_I ⟨by decide, by decide⟩ ?_
          walk_at "rds"
          refine rd_I (by omega) ?_
          refine q _ _ ⟨⟨ns, m, c + 1, k1, k2, hl, hp, s0, s1⟩, fun a o m1 m2 e => ?_⟩ (Int.emod_nonneg _ (by omega)) (Int.emod_lt_of_pos _ (by omega))
          rw [upd_ne m1, upd_ne (ne_of_none e hp0)]
          exact e
    · walk_at "rds"
      refine dk2 f1 ?_
      walk_at "rds"
      refine dk_set2 f1 ?_
      have k1 : ∀ {k : Int}, (upd (upd H p (.lst [])) d (.lst [.ref l, .int m, .int k])) d = _ := fun {k} => upd_same
      have k2 : ∀ {k : Int}, (upd (upd H p (.lst [])) d (.lst [.ref l, .int m, .int k])) l = _ := fun {k} => (upd_ne hdl.symm).trans f2
      walk_at "rds"
      refine dk1 k1 ?_
      walk_at "rds"
      refine dk2 k1 ?_
      walk_at "rds"
      refine rd_I (.inl ⟨by decide, by decide⟩) ?_
      walk_at "rds"
      refine rd_I (by decide) ?_
      walk_at "rds"
      refine rd_rng1 (by decide) (by decide) ?_
      refine fr_range (lo := 0) (n := 2) (fun i σ' H' => ∃ (x : Int) (y : Option V), σ' = [some (.ref d), some (.int many), none, some (.int x), y] ∧ H' = upd (upd H p (.lst [])) d (.lst [.ref l, .int m, .int (c + 1)]) ∧ 0 ≤ x ∧ x < 4294967296) ⟨_, _, rfl, rfl, Int.emod_nonneg _ (by decide), by omega⟩ (fun i σ' H' hi hP => ?_) fun σ' H' hP => ?_
      · obtain ⟨x, y, rfl, rfl, x0, x1⟩ := hP
        refine rd_start (σ' := [some (.ref d), some (.int many), none, some (.int x), some (.int (0 + (i : Int)))]) rfl ?_
        walk_at "rds"
        refine rd_I (.inl ⟨by omega, by omega⟩) ?_
        walk_at "rds"
        refine dk2 k1 ?_
        walk_at "rds"
        refine rd_I (.inl ⟨by decide, by decide⟩) ?_
        walk_at "rds"
        refine rd_I (by decide) ?_
        walk_at "rds"
        exact ⟨_, _, rfl, rfl, Int.emod_nonneg _ (by decide), by omega⟩
      · obtain ⟨x, y, rfl, rfl, x0, x1⟩ := hP
        walk_at "rds"
        refine rd_I ⟨by decide, by decide⟩ ?_
        walk_at "rds"
        refine rd_I (by omega) ?_
        refine q _ _ ⟨⟨ns, m, c + 1, k1, k2, hl, hp, s0, s1⟩, fun a o m1 m2 e => ?_⟩ (Int.emod_nonneg _ (by omega)) (Int.emod_lt_of_pos _ (by omega))
        rw [upd_ne m1, upd_ne (ne_of_none e hp0)]
        exact e
def spPick : Sp := fun vs H Q _ => ∃ (d l p : Addr) (ys : List V), vs = [.ref d, .ref p] ∧ DeckL d l H ∧ H p = some (.lst ys) ∧ p ≠ d ∧ p ≠ l ∧ 1 ≤ ys.length ∧ ys.length ≤ 1000 ∧
  ∀ (y : V) (H' : Hp), Gl d l H H' → y ∈ ys → Q y H'
theorem ok_pick {f fD : Addr} {fd fdD : FuncData} (F : Fun K "_law_pick" "_law_pick" s_law_pick f fd) (T : Bl mg)
    (G_law_draw : FnOk P w K mg base CX0 1 fD fdD ["deck", "many"] spDraw) (C_law_draw : Callee K mg "_law_draw" fD fdD ["deck", "many"]) :
    FnOk P w K mg base CX0 2 f fd ["deck", "items"] spPick := by
  refine F.ok sc_law_pick (fun vs H Q E h => ?_) (fun cdv A outer s H vs Q E hr h => ?_)
  · obtain ⟨d, l, p, ys, rfl, _⟩ := h
    rfl
  · obtain ⟨d, l, p, ys, rfl, hD, hp, n1, n2, h1, h2, q⟩ := h
    refine ⟨_, (pss_one (ps_ret (pe_ix (ik_list (K := K) rfl) (pv 1) (pe_call G_law_draw (hr.mono (by decide)) (by rfl) C_law_draw.m C_law_draw.k C_law_draw.b .nil pass0 (pa_cons (pv 0) (pa_cons (pe_callB (c_len (K := K) rfl) (by rfl) T.len (by decide +kernel) (pa_cons (pv 1) pa_nil)) pa_nil))) (fun _ _ => rfl)))), ?_⟩
    refine rd_start (σ' := [some (.ref d), some (.ref p)]) rfl ?_
    walk_at "rds"
    refine rd_lenL (SqL.of hp) ?_
    walk_at "rds"
    refine ⟨d, l, _, rfl, hD, by omega, by omega, fun r H1 g r0 r1 => ?_⟩
    have hr1 : r.toNat < ys.length := by omega
    refine rd_ixL (SqL.of (g.kp p _ n1 n2 hp)) (at_nat (k := r.toNat) (by omega) (List.getElem?_eq_getElem hr1)) ?_
    exact q _ _ g (List.getElem_mem hr1)

def spMixed (K : PySem.W.Frag) : Sp := fun vs H Q _ => ∃ (d l p : Addr) (ns : List Int), vs = [.ref d, .ref p] ∧ DeckL d l H ∧ (SqL K H p (ns.map V.int) ∨ SqT K H p (ns.map V.int)) ∧ ns.length ≤ 1000 ∧
  ∀ (q : Addr) (ms : List Int) (H' : Hp), Gl d l H H' → H q = none → H' q = some (.lst (ms.map V.int)) → ms.Perm ns → Q (.ref q) H'
theorem ok_mixed {f fD : Addr} {fd fdD : FuncData} (F : Fun K "_law_mixed" "_law_mixed" s_law_mixed f fd) (T : Bl mg)
    (G_law_draw : FnOk P w K mg base CX0 1 fD fdD ["deck", "many"] spDraw) (C_law_draw : Callee K mg "_law_draw" fD fdD ["deck", "many"]) :
    FnOk P w K mg base CX0 2 f fd ["deck", "items"] (spMixed K) := by
  refine F.ok sc_law_mixed (fun vs H Q E h => ?_) (fun cdv A outer s H vs Q E hr h => ?_)
  · obtain ⟨d, l, p, ys, rfl, _⟩ := h
    rfl
  · obtain ⟨d, l, p, ns, rfl, hD, hp, h2, q⟩ := h
    refine ⟨_, (pss_cons (ps_par (i := 2) (j := 3) rfl sc_law_mixed.nd rfl rfl (by decide) rfl rfl (pa_cons (pe_callTy (c_list (K := K) rfl) (by rfl) T.list (by decide +kernel) (pa_cons (pv 1) pa_nil)) (pa_cons (pe_lst pa_nil) pa_nil)) (by rfl))
 (pss_cons (ps_while PassesOwn.never (pt_cmpR (ok_neD (K := K) rfl hr.units) (pv 2) (pe_lst pa_nil) (nomark _)) (pss_one (ps_expr (pe_bm PySem.F.plainAttrs_list PySem.F.slot_list_append PySem.F.type_list_append mt_append (pv 3) (pa_cons (pe_bm PySem.F.plainAttrs_list PySem.F.slot_list_pop PySem.F.type_list_pop mt_popAt (pv 2) (pa_cons (pe_call G_law_draw (hr.mono (by decide)) (by rfl) C_law_draw.m C_law_draw.k C_law_draw.b .nil pass0 (pa_cons (pv 0) (pa_cons (pe_callB (c_len (K := K) rfl) (by rfl) T.len (by decide +kernel) (pa_cons (pv 2) pa_nil)) pa_nil))) pa_nil)) pa_nil)))))
 (pss_one (ps_ret (pv 3))))), ?_⟩
    refine rd_start (σ' := [some (.ref d), some (.ref p), none, none]) rfl ?_
    walk_at "rds"
    refine rd_listE hp fun a na => ?_
    have g1 : Gl d l H (upd H a (.lst (ns.map V.int))) := Gl.new hD na
    walk_at "rds"
    refine ⟨Nat.zero_le _, fun b nb => ?_⟩
    have nab : a ≠ b := fun e => by
      rw [e, upd_same] at nb
      cases nb
    have nb0 : H b = none := g1.back hD nb
    walk_at "rds"
    refine rd_whileE ⟨fun m σ' H' => ∃ as bs : List Int, σ' = [some (.ref d), some (.ref p), some (.ref a), some (.ref b)] ∧ Gl d l H H' ∧
      H' a = some (.lst (as.map V.int)) ∧ H' b = some (.lst (bs.map V.int)) ∧ as.length = m ∧ (as ++ bs).Perm ns,
      ⟨ns.length, ns, [], rfl, g1.trans (Gl.new g1.dk nb), (upd_ne nab).trans upd_same, upd_same, rfl, by rw [List.append_nil]⟩, fun m σ' H' hW => ?_⟩
    obtain ⟨as, bs, rfl, g, ea, eb, rfl, pm⟩ := hW
    have hlen : as.length + bs.length = ns.length := by
      rw [← List.length_append]
      exact pm.length_eq
    obtain ⟨ad, al⟩ := hD.off na
    obtain ⟨bd, bl⟩ := hD.off nb0
    walk_at "rds"
    refine ⟨Nat.zero_le _, fun c nc => ?_⟩
    have cx : ∀ {o}, Gl d l H' (upd H' c o) := Gl.new g.dk nc
    have ea1 : (upd H' c (.lst [])) a = _ := (upd_ne (ne_of_none ea nc)).trans ea
    have eb1 : (upd H' c (.lst [])) b = _ := (upd_ne (ne_of_none eb nc)).trans eb
    refine rd_full (SqL.of ea1) (dp_ints as) (shaped_ints as) (SqL.of upd_same) ?_
    walk_at "rds"
    refine rd_iteb (fun c2 => ?_) (fun c2 => ?_)
    · refine ⟨fun σ2 H2 => ∃ (as2 bs2 : List Int), σ2 = [some (.ref d), some (.ref p), some (.ref a), some (.ref b)] ∧ Gl d l H H2 ∧
        H2 a = some (.lst (as2.map V.int)) ∧ H2 b = some (.lst (bs2.map V.int)) ∧ as2.length + 1 = as.length ∧ (as2 ++ bs2).Perm ns, fun σ2 H2 h => ?_, ?_⟩
      · obtain ⟨as2, bs2, e1, e2, e3, e4, e5, e6⟩ := h
        exact ⟨as2.length, by omega, as2, bs2, e1, e2, e3, e4, rfl, e6⟩
      · walk_at "rds"
        refine rd_tyL eb1 ?_
        walk_at "rds"
        refine rd_tyL ea1 ?_
        walk_at "rds"
        refine rd_lenL (SqL.of ea1) ?_
        walk_at "rds"
        have hpos : 1 ≤ as.length := by
          cases as with
          | nil => cases c2
          | cons x r => exact Nat.succ_le_succ (Nat.zero_le _)
        refine ⟨d, l, _, rfl, cx.dk, by rw [List.length_map]; omega, by rw [List.length_map]; omega, fun r H1 g2 r0 r1 => ?_⟩
        rw [List.length_map] at r1
        have hr1 : r.toNat < as.length := by omega
        have ea2 : H1 a = _ := g2.kp a _ ad al ea1
        have eb2 : H1 b = _ := g2.kp b _ bd bl eb1
        walk_at "rds"
        refine rd_popAt (i := r) (k := r.toNat) (y := .int as[r.toNat]) ea2 (by omega) (by rw [List.getElem?_map, List.getElem?_eq_getElem hr1]; rfl) (by rw [List.length_map]; omega) ?_
        walk_at "rds"
        have nba : b ≠ a := nab.symm
        refine rd_append ((upd_ne nba).trans eb2) (by rw [List.length_map]; omega) ?_
        walk_at "rds"
        refine ⟨as.eraseIdx r.toNat, bs ++ [as[r.toNat]], rfl, ?_, ?_, ?_, ?_, ?_⟩
        · exact Gl.mut (Gl.mut (g.trans (cx.trans g2)) hD na) hD nb0
        · rw [upd_ne nab, upd_same, SetFor_erase]
        · rw [upd_same, List.map_append] <;> rfl
        · rw [List.length_eraseIdx_of_lt hr1]
          omega
        · refine List.Perm.trans ?_ pm
          have e : as.Perm (as[r.toNat] :: as.eraseIdx r.toNat) := erase_perm hr1
          exact (perm_move _ _ _).trans (e.symm.append_right bs)
    · have e0 : as = [] := by
        cases as with
        | nil => rfl
        | cons x r => cases c2
      subst e0
      walk_at "rds"
      exact q b bs _ (g.trans cx) nb0 eb1 pm
end
end KA
set_option Elab.async false
set_option linter.all false
set_option maxRecDepth 100000
set_option maxHeartbeats 400000
namespace KA
open PySem PySem.Spec PyProof.Rows L2 Ea
local macro_rules | `(tactic| walk_at "rd") => `(tactic| first
  | (with_reducible refine rd_seq ?_) | (with_reducible refine rd_asg ?_) | (with_reducible refine rd_if ?_) | (with_reducible refine rd_ret ?_) | (with_reducible refine rd_next ?_)
  | (with_reducible refine rd_drop ?_) | ((with_reducible refine rd_name (σ' := ?ss) ?hs ?_); (case hs => (dsimp only [List.set]; exact rfl)))
  | ((with_reducible refine rd_var (v := ?vv) ?hv ?_); (case hv => exact rfl)) | (with_reducible refine rd_c ?_) | (with_reducible refine rd_op ?_) | (with_reducible refine rd_un ?_)
  | (with_reducible refine rd_I0 ?_) | (with_reducible refine rd_U ?_) | (with_reducible refine rd_test ?_) | (with_reducible refine rd_B ?_) | (with_reducible refine rd_k ?_)
  | (with_reducible refine rd_not ?_) | (with_reducible refine rd_and ?_) | (with_reducible refine rd_or ?_) | (with_reducible refine rd_ifE ?_)
  | (with_reducible refine rd_par ?_) | ((with_reducible refine rd_par2 (σ' := ?ss) ?hs ?_); (case hs => (dsimp only [List.set]; exact rfl)))
  | (with_reducible refine rd_gsub ?_) | (with_reducible refine rd_andV ?_) | (with_reducible refine rd_orV ?_) | (with_reducible refine rd_notV ?_)
  | (with_reducible refine rd_lc ?_) | (with_reducible refine rd_iTup ?_) | (with_reducible refine rd_iList ?_) | (with_reducible refine rd_iRng1 ?_)
  | (with_reducible refine rd_yes ?_) | (with_reducible refine rd_true ?_) | (with_reducible refine rd_false ?_) | (with_reducible refine rd_m1 ?_) | (with_reducible refine rd_isS ?_)
  | ((with_reducible refine rd_eq ?hs ?_); (case hs => exact rfl)) | ((with_reducible refine rd_ne ?hs ?_); (case hs => exact rfl))
  | (with_reducible refine rd_listRg ?_) | (with_reducible refine rd_rg2 ?_) | (with_reducible refine rd_rgk ?_)
  | (with_reducible refine rd_dnew ?_) | (with_reducible refine rd_ddel ?_) | (with_reducible refine rd_kw ?_) | (with_reducible refine rd_callS ?_) | (with_reducible refine rd_dc ?_) | (with_reducible refine rd_for ?_) | (with_reducible refine rd_tru ?_) | (with_reducible refine rd_truI ?_)
  | (with_reducible refine rd_nil ?_) | (with_reducible refine rd_cons ?_) | (with_reducible refine rd_call ?_) | (with_reducible refine rd_cb ?_)
  | (with_reducible refine rd_tup ?_) | (with_reducible refine rd_lst ?_) | (with_reducible refine rd_dget ?_) | (with_reducible refine rd_dput ?_) | (with_reducible refine rd_sl ?_)
  | (with_reducible refine rd_nopart ?_) | (with_reducible refine rd_part ?_) | (with_reducible refine rd_parti ?_) | (with_reducible refine rd_bm ?_) | (with_reducible refine rd_bm0 ?_)
  | (with_reducible refine rd_int ?_) | (with_reducible refine rd_intb ?_) | (with_reducible refine rd_abs ?_) | (with_reducible refine rd_min2 ?_) | (with_reducible refine rd_max2 ?_))
local macro_rules | `(tactic| walk_at "rds") => `(tactic| repeat (walk_at "rd"))
local macro_rules | `(tactic| walk_at "rq") => `(tactic| first
  | (with_reducible refine rd_seq ?_) | (with_reducible refine rd_asg ?_) | (with_reducible refine rd_ret ?_) | (with_reducible refine rd_next ?_)
  | (with_reducible refine rd_drop ?_) | ((with_reducible refine rd_name (σ' := ?ss) ?hs ?_); (case hs => (dsimp only [List.set]; exact rfl)))
  | ((with_reducible refine rd_var (v := ?vv) ?hv ?_); (case hv => exact rfl)) | (with_reducible refine rd_c ?_) | (with_reducible refine rd_op ?_) | (with_reducible refine rd_un ?_)
  | (with_reducible refine rd_I0 ?_) | (with_reducible refine rd_U ?_) | (with_reducible refine rd_test ?_) | (with_reducible refine rd_B ?_) | (with_reducible refine rd_k ?_)
  | (with_reducible refine rd_not ?_) | (with_reducible refine rd_and ?_) | (with_reducible refine rd_or ?_) | (with_reducible refine rd_ifE ?_)
  | (with_reducible refine rd_par ?_) | ((with_reducible refine rd_par2 (σ' := ?ss) ?hs ?_); (case hs => (dsimp only [List.set]; exact rfl)))
  | (with_reducible refine rd_gsub ?_) | (with_reducible refine rd_andV ?_) | (with_reducible refine rd_orV ?_) | (with_reducible refine rd_notV ?_)
  | (with_reducible refine rd_lc ?_) | (with_reducible refine rd_iTup ?_) | (with_reducible refine rd_iList ?_) | (with_reducible refine rd_iRng1 ?_)
  | (with_reducible refine rd_yes ?_) | (with_reducible refine rd_true ?_) | (with_reducible refine rd_false ?_) | (with_reducible refine rd_m1 ?_) | (with_reducible refine rd_isS ?_)
  | ((with_reducible refine rd_eq ?hs ?_); (case hs => exact rfl)) | ((with_reducible refine rd_ne ?hs ?_); (case hs => exact rfl))
  | (with_reducible refine rd_listRg ?_) | (with_reducible refine rd_rg2 ?_) | (with_reducible refine rd_rgk ?_)
  | (with_reducible refine rd_dnew ?_) | (with_reducible refine rd_ddel ?_) | (with_reducible refine rd_kw ?_) | (with_reducible refine rd_callS ?_) | (with_reducible refine rd_dc ?_) | (with_reducible refine rd_for ?_) | (with_reducible refine rd_tru ?_) | (with_reducible refine rd_truI ?_)
  | (with_reducible refine rd_nil ?_) | (with_reducible refine rd_cons ?_) | (with_reducible refine rd_call ?_) | (with_reducible refine rd_cb ?_)
  | (with_reducible refine rd_tup ?_) | (with_reducible refine rd_lst ?_) | (with_reducible refine rd_dget ?_) | (with_reducible refine rd_dput ?_) | (with_reducible refine rd_sl ?_)
  | (with_reducible refine rd_nopart ?_) | (with_reducible refine rd_part ?_) | (with_reducible refine rd_parti ?_) | (with_reducible refine rd_bm ?_) | (with_reducible refine rd_bm0 ?_)
  | (with_reducible refine rd_int ?_) | (with_reducible refine rd_intb ?_) | (with_reducible refine rd_abs ?_) | (with_reducible refine rd_min2 ?_) | (with_reducible refine rd_max2 ?_))
local macro_rules | `(tactic| walk_at "rqs") => `(tactic| repeat (walk_at "rq"))

section
variable {P : Program} {w : World} {K : PySem.W.Frag} {mg : Str → Option Value} {base : Heap}
def spOwners : Sp := fun vs H Q _ => ∃ (d l : Addr) (n : Int), vs = [.ref d, .int n] ∧ DeckL d l H ∧ 0 ≤ n ∧ n ≤ 60 ∧
  ∀ (z : Str) (H' : Hp), Gl d l H H' → OwnS n.toNat z → Q (.str z) H'
def spClause (K : PySem.W.Frag) : Sp := fun vs H Q _ => ∃ (d l : Addr) (n most : Int), vs = [.ref d, .int n, .int most] ∧ DeckL d l H ∧ 0 ≤ n ∧ n ≤ 60 ∧ 0 ≤ most ∧ most ≤ 60 ∧
  ∀ (a : Addr) (ns : List Int) (H' : Hp), Gl d l H H' → Row n.toNat ns → SqT K H' a (ns.map V.int) → Q (.ref a) H'
end
end KA
set_option Elab.async false
set_option linter.all false
set_option maxRecDepth 100000
set_option maxHeartbeats 400000
namespace KA
open PySem PySem.Spec PyProof.Rows L2 Ea
local macro_rules | `(tactic| walk_at "rd") => `(tactic| first
  | (with_reducible refine rd_seq ?_) | (with_reducible refine rd_asg ?_) | (with_reducible refine rd_if ?_) | (with_reducible refine rd_ret ?_) | (with_reducible refine rd_next ?_)
  | (with_reducible refine rd_drop ?_) | ((with_reducible refine rd_name (σ' := ?ss) ?hs ?_); (case hs => (dsimp only [List.set]; exact rfl)))
  | ((with_reducible refine rd_var (v := ?vv) ?hv ?_); (case hv => exact rfl)) | (with_reducible refine rd_c ?_) | (with_reducible refine rd_op ?_) | (with_reducible refine rd_un ?_)
  | (with_reducible refine rd_I0 ?_) | (with_reducible refine rd_U ?_) | (with_reducible refine rd_test ?_) | (with_reducible refine rd_B ?_) | (with_reducible refine rd_k ?_)
  | (with_reducible refine rd_not ?_) | (with_reducible refine rd_and ?_) | (with_reducible refine rd_or ?_) | (with_reducible refine rd_ifE ?_)
  | (with_reducible refine rd_par ?_) | ((with_reducible refine rd_par2 (σ' := ?ss) ?hs ?_); (case hs => (dsimp only [List.set]; exact rfl)))
  | (with_reducible refine rd_gsub ?_) | (with_reducible refine rd_andV ?_) | (with_reducible refine rd_orV ?_) | (with_reducible refine rd_notV ?_)
  | (with_reducible refine rd_lc ?_) | (with_reducible refine rd_iTup ?_) | (with_reducible refine rd_iList ?_) | (with_reducible refine rd_iRng1 ?_)
  | (with_reducible refine rd_yes ?_) | (with_reducible refine rd_true ?_) | (with_reducible refine rd_false ?_) | (with_reducible refine rd_m1 ?_) | (with_reducible refine rd_isS ?_)
  | ((with_reducible refine rd_eq ?hs ?_); (case hs => exact rfl)) | ((with_reducible refine rd_ne ?hs ?_); (case hs => exact rfl))
  | (with_reducible refine rd_listRg ?_) | (with_reducible refine rd_rg2 ?_) | (with_reducible refine rd_rgk ?_)
  | (with_reducible refine rd_dnew ?_) | (with_reducible refine rd_ddel ?_) | (with_reducible refine rd_kw ?_) | (with_reducible refine rd_callS ?_) | (with_reducible refine rd_dc ?_) | (with_reducible refine rd_for ?_) | (with_reducible refine rd_tru ?_) | (with_reducible refine rd_truI ?_)
  | (with_reducible refine rd_nil ?_) | (with_reducible refine rd_cons ?_) | (with_reducible refine rd_call ?_) | (with_reducible refine rd_cb ?_)
  | (with_reducible refine rd_tup ?_) | (with_reducible refine rd_lst ?_) | (with_reducible refine rd_dget ?_) | (with_reducible refine rd_dput ?_) | (with_reducible refine rd_sl ?_)
  | (with_reducible refine rd_nopart ?_) | (with_reducible refine rd_part ?_) | (with_reducible refine rd_parti ?_) | (with_reducible refine rd_bm ?_) | (with_reducible refine rd_bm0 ?_)
  | (with_reducible refine rd_int ?_) | (with_reducible refine rd_intb ?_) | (with_reducible refine rd_abs ?_) | (with_reducible refine rd_min2 ?_) | (with_reducible refine rd_max2 ?_))
local macro_rules | `(tactic| walk_at "rds") => `(tactic| repeat (walk_at "rd"))
local macro_rules | `(tactic| walk_at "rq") => `(tactic| first
  | (with_reducible refine rd_seq ?_) | (with_reducible refine rd_asg ?_) | (with_reducible refine rd_ret ?_) | (with_reducible refine rd_next ?_)
  | (with_reducible refine rd_drop ?_) | ((with_reducible refine rd_name (σ' := ?ss) ?hs ?_); (case hs => (dsimp only [List.set]; exact rfl)))
  | ((with_reducible refine rd_var (v := ?vv) ?hv ?_); (case hv => exact rfl)) | (with_reducible refine rd_c ?_) | (with_reducible refine rd_op ?_) | (with_reducible refine rd_un ?_)
  | (with_reducible refine rd_I0 ?_) | (with_reducible refine rd_U ?_) | (with_reducible refine rd_test ?_) | (with_reducible refine rd_B ?_) | (with_reducible refine rd_k ?_)
  | (with_reducible refine rd_not ?_) | (with_reducible refine rd_and ?_) | (with_reducible refine rd_or ?_) | (with_reducible refine rd_ifE ?_)
  | (with_reducible refine rd_par ?_) | ((with_reducible refine rd_par2 (σ' := ?ss) ?hs ?_); (case hs => (dsimp only [List.set]; exact rfl)))
  | (with_reducible refine rd_gsub ?_) | (with_reducible refine rd_andV ?_) | (with_reducible refine rd_orV ?_) | (with_reducible refine rd_notV ?_)
  | (with_reducible refine rd_lc ?_) | (with_reducible refine rd_iTup ?_) | (with_reducible refine rd_iList ?_) | (with_reducible refine rd_iRng1 ?_)
  | (with_reducible refine rd_yes ?_) | (with_reducible refine rd_true ?_) | (with_reducible refine rd_false ?_) | (with_reducible refine rd_m1 ?_) | (with_reducible refine rd_isS ?_)
  | ((with_reducible refine rd_eq ?hs ?_); (case hs => exact rfl)) | ((with_reducible refine rd_ne ?hs ?_); (case hs => exact rfl))
  | (with_reducible refine rd_listRg ?_) | (with_reducible refine rd_rg2 ?_) | (with_reducible refine rd_rgk ?_)
  | (with_reducible refine rd_dnew ?_) | (with_reducible refine rd_ddel ?_) | (with_reducible refine rd_kw ?_) | (with_reducible refine rd_callS ?_) | (with_reducible refine rd_dc ?_) | (with_reducible refine rd_for ?_) | (with_reducible refine rd_tru ?_) | (with_reducible refine rd_truI ?_)
  | (with_reducible refine rd_nil ?_) | (with_reducible refine rd_cons ?_) | (with_reducible refine rd_call ?_) | (with_reducible refine rd_cb ?_)
  | (with_reducible refine rd_tup ?_) | (with_reducible refine rd_lst ?_) | (with_reducible refine rd_dget ?_) | (with_reducible refine rd_dput ?_) | (with_reducible refine rd_sl ?_)
  | (with_reducible refine rd_nopart ?_) | (with_reducible refine rd_part ?_) | (with_reducible refine rd_parti ?_) | (with_reducible refine rd_bm ?_) | (with_reducible refine rd_bm0 ?_)
  | (with_reducible refine rd_int ?_) | (with_reducible refine rd_intb ?_) | (with_reducible refine rd_abs ?_) | (with_reducible refine rd_min2 ?_) | (with_reducible refine rd_max2 ?_))
local macro_rules | `(tactic| walk_at "rqs") => `(tactic| repeat (walk_at "rq"))

section
variable {P : Program} {w : World} {K : PySem.W.Frag} {mg : Str → Option Value} {base : Heap}
def spDeck (K : PySem.W.Frag) : Sp := fun vs H Q _ => ∃ (a : Addr) (ns : List Int), vs = [.ref a] ∧ SqL K H a (ns.map V.int) ∧ ns.length ≤ 63 ∧
  ∀ (d l : Addr) (H' : Hp), Evl.Ex H H' → H d = none → H l = none → DeckL d l H' → Q (.ref d) H'
theorem ok_deck {f : Addr} {fd : FuncData} (F : Fun K "_law_deck" "_law_deck" s_law_deck f fd) (T : Bl mg) : FnOk P w K mg base CX0 1 f fd ["script"] (spDeck K) := by
  refine F.ok sc_law_deck (fun vs H Q E h => ?_) (fun cdv A outer s H vs Q E hr h => ?_)
  · obtain ⟨a, ns, rfl, _⟩ := h
    rfl
  · obtain ⟨a, ns, rfl, ha, hl, q⟩ := h
    refine ⟨_, (pss_cons (ps_par (i := 2) (j := 3) rfl sc_law_deck.nd rfl rfl (by decide) rfl rfl (pa_cons (pe_lc (own := [("cell", 1)]) (g := gName 1) rfl sc_law_deck.nd (ik_listI (K := K) rfl (pe_slice (sk_list (K := K) rfl) (pv 0) po_none (po_some pe_int))) (blkOk_by (own := [("cell", 1)]) (N := ["script", "cell", "cells", "mixed"]) (sc := defScope s_law_deck) (by decide +kernel)) (fun _ _ _ _ _ => (pg_name (i := 1) sc_law_deck.nd rfl (Or.inl rfl))) (fun _ _ _ _ _ => pts_nil) (fun _ _ _ _ _ => (pe_op op_add (pe_op op_mul pe_int (pe_callB c_abs (by rfl) T.abs (by decide +kernel) (pa_cons (pv 1) pa_nil))) (pe_callTy c_int (by rfl) T.int (by decide +kernel) (pa_cons (pe_cmpR op_lt (pv 1) pe_int (nomark _)) pa_nil))))) (pa_cons (pe_op op_add pe_int (pe_callB (c_len (K := K) rfl) (by rfl) T.len (by decide +kernel) (pa_cons (pv 0) pa_nil))) pa_nil)) (by rfl))
 (pss_cons (ps_for PassesOwn.never rfl (ik_listI (K := K) rfl (pv 2)) (pg_name (i := 1) sc_law_deck.nd rfl (Or.inl rfl)) (pss_one (ps_set (i := 3) sc_law_deck.nd rfl (Or.inl rfl) (pe_op op_mod (pe_callTy c_int (by rfl) T.int (by decide +kernel) (pa_cons (pe_op op_add (pe_op op_add (pe_op op_mul (pv 3) pe_int) (pv 1)) pe_int) pa_nil)) pe_int))))
 (pss_one (ps_ret (pe_lst (pa_cons (pe_lc (own := [("cell", 1)]) (g := gName 1) rfl sc_law_deck.nd (ik_listI (K := K) rfl (pv 2)) (blkOk_by (own := [("cell", 1)]) (N := ["script", "cell", "cells", "mixed"]) (sc := defScope s_law_deck) (by decide +kernel)) (fun _ _ _ _ _ => (pg_name (i := 1) sc_law_deck.nd rfl (Or.inl rfl))) (fun _ _ _ _ _ => (pts_one (pt_cmpR op_gt (pv 1) (pe_op op_pow pe_int pe_int) (nomark _)))) (fun _ _ _ _ _ => (pv 1))) (pa_cons (pv 3) (pa_cons pe_int pa_nil)))))))), ?_⟩
    refine rd_start (σ' := [some (.ref a), none, none, none]) rfl ?_
    walk_at "rds"
    refine rd_slL ha fun u hu => ?_
    have hn : ns.length < 100000 := by omega
    rw [show ((63 : Int)) = ((63 : Nat) : Int) from rfl, cut_take (by omega), List.take_of_length_le (by rw [List.length_map]; exact hl)]
    have e1 := Evl.Ex.new (o := .lst (ns.map V.int)) hu
    refine rd_refL (SqL.of upd_same) ?_
    refine lc_fmL (fun _ => true) (fun x => .int (2 * (x.natAbs : Int) + if decide (x < 0) = true then 1 else 0)) (σx := fun x => [some (.ref a), some x, none, none]) (SqL.of upd_same) (by omega) (fun _ => rfl) (fun _ => rfl)
      (fun x hx H' N S e kN kS => ?_) fun D H2 e2 eD hD => ?_
    · walk_at "rds"
      refine rd_I (.inl ⟨by decide, by decide⟩) ?_
      walk_at "rds"
      exact kN rfl _ (Evl.Ex.refl _)
    have hm : ∃ ms : List Int, ((ns.filter fun _ => true).map fun x => V.int (2 * (x.natAbs : Int) + if decide (x < 0) = true then 1 else 0)) = ms.map V.int ∧ ms.length ≤ 63 ∧ ∀ m ∈ ms, 0 ≤ m := by
      rw [List.filter_eq_self.mpr fun _ _ => rfl]
      refine ⟨ns.map fun x => 2 * (x.natAbs : Int) + if decide (x < 0) = true then 1 else 0, by rw [List.map_map] <;> rfl, by rw [List.length_map]; exact hl, fun m h => ?_⟩
      obtain ⟨x, _, rfl⟩ := List.mem_map.mp h
      split <;> omega
    obtain ⟨ms, em, lm, m0⟩ := hm
    rw [em] at hD
    have e12 := e1.trans e2
    walk_at "rds"
    refine rd_lenL (Evl.ex_l e12 ha) ?_
    rw [List.length_map]
    walk_at "rds"
    refine rd_refL (SqL.of hD) ?_
    refine fr_list (xs := ms.map V.int) (fun i σ' H' => ∃ (c : Option V) (m : Int), σ' = [some (.ref a), c, some (.ref D), some (.int m)] ∧ H' = H2 ∧ 0 ≤ m ∧ m < 4294967291)
      ⟨_, _, rfl, rfl, by omega, by omega⟩ (fun i σ' H' _ ⟨_, _, _, e, _⟩ => by rw [e]; exact SqL.of hD) (fun i x σ' H' hi hP => ?_) fun σ' H' hP => ?_
    · obtain ⟨c, m, rfl, rfl, p0, p1⟩ := hP
      rw [List.getElem?_map] at hi
      obtain ⟨t, ht, rfl⟩ := Option.map_eq_some_iff.mp hi
      refine rd_start (σ' := [some (.ref a), some (.int t), some (.ref D), some (.int m)]) rfl ?_
      walk_at "rds"
      refine rd_I (.inr ⟨by decide, by decide⟩) ?_
      walk_at "rds"
      refine rd_I (by decide) ?_
      walk_at "rds"
      exact ⟨_, _, rfl, rfl, Int.emod_nonneg _ (by decide), Int.emod_lt_of_pos _ (by decide)⟩
    · obtain ⟨c, m, rfl, rfl, p0, p1⟩ := hP
      walk_at "rds"
      refine rd_refL (SqL.of hD) ?_
      refine lc_fmL (fun x => decide ((10 : Int) ^ 15 < x)) V.int (σx := fun x => [some (.ref a), some x, some (.ref D), some (.int m)]) (SqL.of hD) (by omega) (fun _ => rfl) (fun _ => rfl)
        (fun x hx H' N S e kN kS => ?_) fun D3 H3 e3 eD3 hD3 => ?_
      · walk_at "rds"
        refine rd_I ⟨by decide, by decide, by decide⟩ ?_
        walk_at "rds"
        refine rd_ite (fun c => ?_) (fun c => ?_)
        · walk_at "rds"
          exact kN (decide_eq_true c) _ (Evl.Ex.refl _)
        · exact kS (decide_eq_false c) _ (Evl.Ex.refl _)
      walk_at "rds"
      refine ⟨(by show 3 ≤ sizeLine; decide), fun d hd => ?_⟩
      have e13 := e12.trans e3
      have hdD : D3 ≠ d := ne_of_none hD3 hd
      refine q d D3 _ (e13.trans (Evl.Ex.new hd)) (Evl.fresh_back e13 hd) (Evl.fresh_back e12 eD3) ⟨ms.filter fun x => decide ((10 : Int) ^ 15 < x), m, 0, upd_same, (upd_ne hdD).trans hD3, ?_, fun n hn => m0 n (List.mem_filter.mp hn).1, p0, p1⟩
      have := List.length_filter_le (fun x => decide ((10 : Int) ^ 15 < x)) ms
      omega
end
end KA
set_option Elab.async false
set_option linter.all false
set_option maxRecDepth 100000
set_option maxHeartbeats 400000
namespace KA
open PySem PySem.Spec PyProof.Rows L2 Ea
local macro_rules | `(tactic| walk_at "rd") => `(tactic| first
  | (with_reducible refine rd_seq ?_) | (with_reducible refine rd_asg ?_) | (with_reducible refine rd_if ?_) | (with_reducible refine rd_ret ?_) | (with_reducible refine rd_next ?_)
  | (with_reducible refine rd_drop ?_) | ((with_reducible refine rd_name (σ' := ?ss) ?hs ?_); (case hs => (dsimp only [List.set]; exact rfl)))
  | ((with_reducible refine rd_var (v := ?vv) ?hv ?_); (case hv => exact rfl)) | (with_reducible refine rd_c ?_) | (with_reducible refine rd_op ?_) | (with_reducible refine rd_un ?_)
  | (with_reducible refine rd_I0 ?_) | (with_reducible refine rd_U ?_) | (with_reducible refine rd_test ?_) | (with_reducible refine rd_B ?_) | (with_reducible refine rd_k ?_)
  | (with_reducible refine rd_not ?_) | (with_reducible refine rd_and ?_) | (with_reducible refine rd_or ?_) | (with_reducible refine rd_ifE ?_)
  | (with_reducible refine rd_par ?_) | ((with_reducible refine rd_par2 (σ' := ?ss) ?hs ?_); (case hs => (dsimp only [List.set]; exact rfl)))
  | (with_reducible refine rd_gsub ?_) | (with_reducible refine rd_andV ?_) | (with_reducible refine rd_orV ?_) | (with_reducible refine rd_notV ?_)
  | (with_reducible refine rd_lc ?_) | (with_reducible refine rd_iTup ?_) | (with_reducible refine rd_iList ?_) | (with_reducible refine rd_iRng1 ?_)
  | (with_reducible refine rd_yes ?_) | (with_reducible refine rd_true ?_) | (with_reducible refine rd_false ?_) | (with_reducible refine rd_m1 ?_) | (with_reducible refine rd_isS ?_)
  | ((with_reducible refine rd_eq ?hs ?_); (case hs => exact rfl)) | ((with_reducible refine rd_ne ?hs ?_); (case hs => exact rfl))
  | (with_reducible refine rd_listRg ?_) | (with_reducible refine rd_rg2 ?_) | (with_reducible refine rd_rgk ?_)
  | (with_reducible refine rd_dnew ?_) | (with_reducible refine rd_ddel ?_) | (with_reducible refine rd_kw ?_) | (with_reducible refine rd_callS ?_) | (with_reducible refine rd_dc ?_) | (with_reducible refine rd_for ?_) | (with_reducible refine rd_tru ?_) | (with_reducible refine rd_truI ?_)
  | (with_reducible refine rd_nil ?_) | (with_reducible refine rd_cons ?_) | (with_reducible refine rd_call ?_) | (with_reducible refine rd_cb ?_)
  | (with_reducible refine rd_tup ?_) | (with_reducible refine rd_lst ?_) | (with_reducible refine rd_dget ?_) | (with_reducible refine rd_dput ?_) | (with_reducible refine rd_sl ?_)
  | (with_reducible refine rd_nopart ?_) | (with_reducible refine rd_part ?_) | (with_reducible refine rd_parti ?_) | (with_reducible refine rd_bm ?_) | (with_reducible refine rd_bm0 ?_)
  | (with_reducible refine rd_int ?_) | (with_reducible refine rd_intb ?_) | (with_reducible refine rd_abs ?_) | (with_reducible refine rd_min2 ?_) | (with_reducible refine rd_max2 ?_))
local macro_rules | `(tactic| walk_at "rds") => `(tactic| repeat (walk_at "rd"))
local macro_rules | `(tactic| walk_at "rq") => `(tactic| first
  | (with_reducible refine rd_seq ?_) | (with_reducible refine rd_asg ?_) | (with_reducible refine rd_ret ?_) | (with_reducible refine rd_next ?_)
  | (with_reducible refine rd_drop ?_) | ((with_reducible refine rd_name (σ' := ?ss) ?hs ?_); (case hs => (dsimp only [List.set]; exact rfl)))
  | ((with_reducible refine rd_var (v := ?vv) ?hv ?_); (case hv => exact rfl)) | (with_reducible refine rd_c ?_) | (with_reducible refine rd_op ?_) | (with_reducible refine rd_un ?_)
  | (with_reducible refine rd_I0 ?_) | (with_reducible refine rd_U ?_) | (with_reducible refine rd_test ?_) | (with_reducible refine rd_B ?_) | (with_reducible refine rd_k ?_)
  | (with_reducible refine rd_not ?_) | (with_reducible refine rd_and ?_) | (with_reducible refine rd_or ?_) | (with_reducible refine rd_ifE ?_)
  | (with_reducible refine rd_par ?_) | ((with_reducible refine rd_par2 (σ' := ?ss) ?hs ?_); (case hs => (dsimp only [List.set]; exact rfl)))
  | (with_reducible refine rd_gsub ?_) | (with_reducible refine rd_andV ?_) | (with_reducible refine rd_orV ?_) | (with_reducible refine rd_notV ?_)
  | (with_reducible refine rd_lc ?_) | (with_reducible refine rd_iTup ?_) | (with_reducible refine rd_iList ?_) | (with_reducible refine rd_iRng1 ?_)
  | (with_reducible refine rd_yes ?_) | (with_reducible refine rd_true ?_) | (with_reducible refine rd_false ?_) | (with_reducible refine rd_m1 ?_) | (with_reducible refine rd_isS ?_)
  | ((with_reducible refine rd_eq ?hs ?_); (case hs => exact rfl)) | ((with_reducible refine rd_ne ?hs ?_); (case hs => exact rfl))
  | (with_reducible refine rd_listRg ?_) | (with_reducible refine rd_rg2 ?_) | (with_reducible refine rd_rgk ?_)
  | (with_reducible refine rd_dnew ?_) | (with_reducible refine rd_ddel ?_) | (with_reducible refine rd_kw ?_) | (with_reducible refine rd_callS ?_) | (with_reducible refine rd_dc ?_) | (with_reducible refine rd_for ?_) | (with_reducible refine rd_tru ?_) | (with_reducible refine rd_truI ?_)
  | (with_reducible refine rd_nil ?_) | (with_reducible refine rd_cons ?_) | (with_reducible refine rd_call ?_) | (with_reducible refine rd_cb ?_)
  | (with_reducible refine rd_tup ?_) | (with_reducible refine rd_lst ?_) | (with_reducible refine rd_dget ?_) | (with_reducible refine rd_dput ?_) | (with_reducible refine rd_sl ?_)
  | (with_reducible refine rd_nopart ?_) | (with_reducible refine rd_part ?_) | (with_reducible refine rd_parti ?_) | (with_reducible refine rd_bm ?_) | (with_reducible refine rd_bm0 ?_)
  | (with_reducible refine rd_int ?_) | (with_reducible refine rd_intb ?_) | (with_reducible refine rd_abs ?_) | (with_reducible refine rd_min2 ?_) | (with_reducible refine rd_max2 ?_))
local macro_rules | `(tactic| walk_at "rqs") => `(tactic| repeat (walk_at "rq"))

theorem hu65 {A : Around} {k : Nat} (hr : Room k A) : A.units + 65 < cLine := by
  have := hr.un
  omega
def dR (r : List Int) : PyData := .tuple (dI r)
section
variable {K : PySem.W.Frag} {H : Hp} {v x : V} {r : List Int} {xs : List V} {ds : List PyData} {rs : List (List Int)} {n i : Nat}
theorem dp_intsOf : ∀ {xs : List V} {r : List Int}, DpAll K H xs (dI r) → xs = r.map V.int
  | _, [], h => by
    cases h
    rfl
  | _, i :: r, h => by
    cases h with
    | cons h1 h2 =>
      cases h1
      rw [dp_intsOf h2] <;> rfl
theorem dp_row (h : Dp K H v (dR r)) : ∃ a, v = .ref a ∧ SqT K H a (r.map V.int) := by
  unfold dR at h
  cases h with
  | tup hs ha =>
    rw [dp_intsOf ha] at hs
    exact ⟨_, rfl, hs⟩
theorem dp_of_row {a : Addr} (h : SqT K H a (r.map V.int)) : Dp K H (.ref a) (dR r) := dp_T h
theorem dpAll_get : ∀ {xs : List V} {ds : List PyData} {i : Nat}, DpAll K H xs ds → xs[i]? = some x → ∃ d, ds[i]? = some d ∧ Dp K H x d
  | _, _, 0, .cons h _, e => by
    obtain rfl : _ = x := Option.some.inj e
    exact ⟨_, rfl, h⟩
  | _, _, i + 1, .cons _ h, e => dpAll_get (i := i) h e
  | _, _, i, .nil, e => by simp at e
theorem dpAll_len : ∀ {xs : List V} {ds : List PyData}, DpAll K H xs ds → xs.length = ds.length
  | _, _, .nil => rfl
  | _, _, .cons _ h => congrArg (· + 1) (dpAll_len h)
theorem dpAll_app : ∀ {xs ys : List V} {ds es : List PyData}, DpAll K H xs ds → DpAll K H ys es → DpAll K H (xs ++ ys) (ds ++ es)
  | _, _, _, _, .nil, h => h
  | _, _, _, _, .cons h t, h2 => .cons h (dpAll_app t h2)
theorem dpAll_take : ∀ {k : Nat} {xs : List V} {ds : List PyData}, DpAll K H xs ds → DpAll K H (xs.take k) (ds.take k)
  | 0, _, _, _ => .nil
  | _ + 1, _, _, .nil => .nil
  | k + 1, _, _, .cons h t => .cons h (dpAll_take (k := k) t)
theorem nice_rows (hn : n ≤ 60) : ∀ {rs : List (List Int)}, (∀ r ∈ rs, Row n r) → NiceAll (61 * rs.length) 1 (rs.map dR)
  | [], _ => NiceAll.nil
  | r :: t, h => (NiceAll.cons (nice_row (h r List.mem_cons_self) hn) (nice_rows hn fun s hs => h s (List.mem_cons_of_mem _ hs))).mono (by rw [List.length_cons]; omega) (Nat.le_refl _)
theorem any_rows (hn : n ≤ 60) (hr : Row n r) (h : (rs.map dR).any (fun z => PyData.eqv z (dR r)) = false) : r ∉ rs := fun hm => by
  have := List.any_eq_false.mp h (dR r) (List.mem_map_of_mem hm)
  exact this (SeqAt.eqv_refl _ (nice_row hr hn).lay)
end
section
variable {P : Program} {w : World} {K : PySem.W.Frag} {mg : Str → Option Value} {base : Heap}
def spUnlike (K : PySem.W.Frag) : Sp := fun vs H Q _ => ∃ (p : Addr) (xs : List V) (rs : List (List Int)) (n : Nat), vs = [.ref p] ∧ SqL K H p xs ∧ DpAll K H xs (rs.map dR) ∧ (∀ r ∈ rs, Row n r) ∧ n ≤ 60 ∧ rs.length ≤ 10000 ∧
  ∀ (q : Addr) (ys : List V) (ss : List (List Int)) (H' : Hp), Evl.Ex H H' → H q = none → H' q = some (.lst ys) → DpAll K H' ys (ss.map dR) → ss.Sublist rs → ss.Nodup → Q (.ref q) H'
end
end KA
set_option Elab.async false
set_option linter.all false
set_option maxRecDepth 100000
set_option maxHeartbeats 400000
set_option pp.maxSteps 300
namespace KA
open PySem PySem.Spec PyProof.Rows L2 Ea
abbrev sstate_of : Stmt := topS 7
theorem scstate_of : FnScope ["clause", "play", "state", "literal"] ["clause", "play"] (defScope sstate_of) :=
  ⟨rfl, rfl, rfl, by decide +kernel, rfl, by decide +kernel, by decide +kernel⟩
abbrev sunset_part : Stmt := topS 10
theorem scunset_part : FnScope ["clause", "play", "literal"] ["clause", "play"] (defScope sunset_part) :=
  ⟨rfl, rfl, rfl, by decide +kernel, rfl, by decide +kernel, by decide +kernel⟩
abbrev sasked_from : Stmt := topS 11
theorem scasked_from : FnScope ["sentence", "play", "clause"] ["sentence", "play"] (defScope sasked_from) :=
  ⟨rfl, rfl, rfl, by decide +kernel, rfl, by decide +kernel, by decide +kernel⟩
abbrev sasked_behind : Stmt := topS 12
theorem scasked_behind : FnScope ["asked", "literal", "part"] ["asked", "literal"] (defScope sasked_behind) :=
  ⟨rfl, rfl, rfl, by decide +kernel, rfl, by decide +kernel, by decide +kernel⟩
local macro_rules | `(tactic| walk_at "rd") => `(tactic| first
  | (with_reducible refine rd_seq ?_) | (with_reducible refine rd_asg ?_) | (with_reducible refine rd_if ?_) | (with_reducible refine rd_ret ?_) | (with_reducible refine rd_next ?_)
  | (with_reducible refine rd_drop ?_) | ((with_reducible refine rd_name (σ' := ?ss) ?hs ?_); (case hs => (dsimp only [List.set]; exact rfl)))
  | ((with_reducible refine rd_var (v := ?vv) ?hv ?_); (case hv => exact rfl)) | (with_reducible refine rd_c ?_) | (with_reducible refine rd_op ?_) | (with_reducible refine rd_un ?_)
  | (with_reducible refine rd_I0 ?_) | (with_reducible refine rd_U ?_) | (with_reducible refine rd_test ?_) | (with_reducible refine rd_B ?_) | (with_reducible refine rd_k ?_)
  | (with_reducible refine rd_not ?_) | (with_reducible refine rd_and ?_) | (with_reducible refine rd_or ?_) | (with_reducible refine rd_ifE ?_)
  | (with_reducible refine rd_par ?_) | ((with_reducible refine rd_par2 (σ' := ?ss) ?hs ?_); (case hs => (dsimp only [List.set]; exact rfl)))
  | (with_reducible refine rd_gsub ?_) | (with_reducible refine rd_andV ?_) | (with_reducible refine rd_orV ?_) | (with_reducible refine rd_notV ?_)
  | (with_reducible refine rd_lc ?_) | (with_reducible refine rd_iTup ?_) | (with_reducible refine rd_iList ?_) | (with_reducible refine rd_iRng1 ?_) | (with_reducible refine rd_iRng2 ?_) | (with_reducible refine rd_iEnumT ?_) | (with_reducible refine rd_iEnum ?_) | (with_reducible refine rd_iZipM ?_) | (with_reducible refine rd_iEnumS ?_) | (with_reducible refine rd_iKeys ?_) | (with_reducible refine rd_din ?_) | (with_reducible refine rd_dnotin ?_)
  | (with_reducible refine rd_yes ?_) | (with_reducible refine rd_true ?_) | (with_reducible refine rd_false ?_) | (with_reducible refine rd_m1 ?_) | (with_reducible refine rd_isS ?_)
  | ((with_reducible refine rd_eq ?hs ?_); (case hs => exact rfl)) | ((with_reducible refine rd_ne ?hs ?_); (case hs => exact rfl))
  | (with_reducible refine rd_listRg ?_) | (with_reducible refine rd_rg2 ?_) | (with_reducible refine rd_rgk ?_)
  | (with_reducible refine rd_dnew ?_) | (with_reducible refine rd_ddel ?_) | (with_reducible refine rd_kw ?_) | (with_reducible refine rd_callS ?_) | (with_reducible refine rd_dc ?_) | (with_reducible refine rd_for ?_) | (with_reducible refine rd_tru ?_) | (with_reducible refine rd_truI ?_)
  | (with_reducible refine rd_nil ?_) | (with_reducible refine rd_cons ?_) | (with_reducible refine rd_call ?_) | (with_reducible refine rd_cb ?_)
  | (with_reducible refine rd_tup ?_) | (with_reducible refine rd_lst ?_) | (with_reducible refine rd_dget ?_) | (with_reducible refine rd_dput ?_) | (with_reducible refine rd_dget2 ?_) | (with_reducible refine rd_sl ?_)
  | (with_reducible refine rd_nopart ?_) | (with_reducible refine rd_part ?_) | (with_reducible refine rd_parti ?_) | (with_reducible refine rd_bm ?_) | (with_reducible refine rd_bm0 ?_)
  | (with_reducible refine rd_int ?_) | (with_reducible refine rd_intb ?_) | (with_reducible refine rd_abs ?_) | (with_reducible refine rd_min2 ?_) | (with_reducible refine rd_max2 ?_))
local macro_rules | `(tactic| walk_at "rds") => `(tactic| repeat (walk_at "rd"))
local macro_rules | `(tactic| walk_at "rq") => `(tactic| first
  | (with_reducible refine rd_seq ?_) | (with_reducible refine rd_asg ?_) | (with_reducible refine rd_ret ?_) | (with_reducible refine rd_next ?_)
  | (with_reducible refine rd_drop ?_) | ((with_reducible refine rd_name (σ' := ?ss) ?hs ?_); (case hs => (dsimp only [List.set]; exact rfl)))
  | ((with_reducible refine rd_var (v := ?vv) ?hv ?_); (case hv => exact rfl)) | (with_reducible refine rd_c ?_) | (with_reducible refine rd_op ?_) | (with_reducible refine rd_un ?_)
  | (with_reducible refine rd_I0 ?_) | (with_reducible refine rd_U ?_) | (with_reducible refine rd_test ?_) | (with_reducible refine rd_B ?_) | (with_reducible refine rd_k ?_)
  | (with_reducible refine rd_not ?_) | (with_reducible refine rd_and ?_) | (with_reducible refine rd_or ?_) | (with_reducible refine rd_ifE ?_)
  | (with_reducible refine rd_par ?_) | ((with_reducible refine rd_par2 (σ' := ?ss) ?hs ?_); (case hs => (dsimp only [List.set]; exact rfl)))
  | (with_reducible refine rd_gsub ?_) | (with_reducible refine rd_andV ?_) | (with_reducible refine rd_orV ?_) | (with_reducible refine rd_notV ?_)
  | (with_reducible refine rd_lc ?_) | (with_reducible refine rd_iTup ?_) | (with_reducible refine rd_iList ?_) | (with_reducible refine rd_iRng1 ?_) | (with_reducible refine rd_iRng2 ?_) | (with_reducible refine rd_iEnumT ?_) | (with_reducible refine rd_iEnum ?_) | (with_reducible refine rd_iZipM ?_) | (with_reducible refine rd_iEnumS ?_) | (with_reducible refine rd_iKeys ?_) | (with_reducible refine rd_din ?_) | (with_reducible refine rd_dnotin ?_)
  | (with_reducible refine rd_yes ?_) | (with_reducible refine rd_true ?_) | (with_reducible refine rd_false ?_) | (with_reducible refine rd_m1 ?_) | (with_reducible refine rd_isS ?_)
  | ((with_reducible refine rd_eq ?hs ?_); (case hs => exact rfl)) | ((with_reducible refine rd_ne ?hs ?_); (case hs => exact rfl))
  | (with_reducible refine rd_listRg ?_) | (with_reducible refine rd_rg2 ?_) | (with_reducible refine rd_rgk ?_)
  | (with_reducible refine rd_dnew ?_) | (with_reducible refine rd_ddel ?_) | (with_reducible refine rd_kw ?_) | (with_reducible refine rd_callS ?_) | (with_reducible refine rd_dc ?_) | (with_reducible refine rd_for ?_) | (with_reducible refine rd_tru ?_) | (with_reducible refine rd_truI ?_)
  | (with_reducible refine rd_nil ?_) | (with_reducible refine rd_cons ?_) | (with_reducible refine rd_call ?_) | (with_reducible refine rd_cb ?_)
  | (with_reducible refine rd_tup ?_) | (with_reducible refine rd_lst ?_) | (with_reducible refine rd_dget ?_) | (with_reducible refine rd_dput ?_) | (with_reducible refine rd_dget2 ?_) | (with_reducible refine rd_sl ?_)
  | (with_reducible refine rd_nopart ?_) | (with_reducible refine rd_part ?_) | (with_reducible refine rd_parti ?_) | (with_reducible refine rd_bm ?_) | (with_reducible refine rd_bm0 ?_)
  | (with_reducible refine rd_int ?_) | (with_reducible refine rd_intb ?_) | (with_reducible refine rd_abs ?_) | (with_reducible refine rd_min2 ?_) | (with_reducible refine rd_max2 ?_))
local macro_rules | `(tactic| walk_at "rqs") => `(tactic| repeat (walk_at "rq"))
local macro_rules | `(tactic| walk_at "rv") => `(tactic| first
  | (with_reducible refine rd_seq ?_) | (with_reducible refine rd_asg ?_) | (with_reducible refine rd_ret ?_) | (with_reducible refine rd_next ?_)
  | (with_reducible refine rd_drop ?_) | ((with_reducible refine rd_name (σ' := ?ss) ?hs ?_); (case hs => (dsimp only [List.set]; exact rfl)))
  | ((with_reducible refine rd_var (v := ?vv) ?hv ?_); (case hv => exact rfl)) | (with_reducible refine rd_c ?_) | (with_reducible refine rd_op ?_) | (with_reducible refine rd_un ?_)
  | (with_reducible refine rd_I0 ?_) | (with_reducible refine rd_U ?_) | (with_reducible refine rd_test ?_) | (with_reducible refine rd_B ?_) | (with_reducible refine rd_k ?_)
  | (with_reducible refine rd_not ?_) | (with_reducible refine rd_and ?_) | (with_reducible refine rd_or ?_)
  | (with_reducible refine rd_par ?_) | ((with_reducible refine rd_par2 (σ' := ?ss) ?hs ?_); (case hs => (dsimp only [List.set]; exact rfl)))
  | (with_reducible refine rd_gsub ?_) | (with_reducible refine rd_andV ?_) | (with_reducible refine rd_orV ?_) | (with_reducible refine rd_notV ?_)
  | (with_reducible refine rd_lc ?_) | (with_reducible refine rd_iTup ?_) | (with_reducible refine rd_iList ?_) | (with_reducible refine rd_iRng1 ?_) | (with_reducible refine rd_iRng2 ?_) | (with_reducible refine rd_iEnumT ?_) | (with_reducible refine rd_iEnum ?_) | (with_reducible refine rd_iZipM ?_) | (with_reducible refine rd_iEnumS ?_) | (with_reducible refine rd_iKeys ?_) | (with_reducible refine rd_din ?_) | (with_reducible refine rd_dnotin ?_)
  | (with_reducible refine rd_yes ?_) | (with_reducible refine rd_true ?_) | (with_reducible refine rd_false ?_) | (with_reducible refine rd_m1 ?_) | (with_reducible refine rd_isS ?_)
  | ((with_reducible refine rd_eq ?hs ?_); (case hs => exact rfl)) | ((with_reducible refine rd_ne ?hs ?_); (case hs => exact rfl))
  | (with_reducible refine rd_listRg ?_) | (with_reducible refine rd_rg2 ?_) | (with_reducible refine rd_rgk ?_)
  | (with_reducible refine rd_dnew ?_) | (with_reducible refine rd_ddel ?_) | (with_reducible refine rd_kw ?_) | (with_reducible refine rd_callS ?_) | (with_reducible refine rd_dc ?_) | (with_reducible refine rd_for ?_) | (with_reducible refine rd_tru ?_) | (with_reducible refine rd_truI ?_)
  | (with_reducible refine rd_nil ?_) | (with_reducible refine rd_cons ?_) | (with_reducible refine rd_call ?_) | (with_reducible refine rd_cb ?_)
  | (with_reducible refine rd_tup ?_) | (with_reducible refine rd_lst ?_) | (with_reducible refine rd_dget ?_) | (with_reducible refine rd_dput ?_) | (with_reducible refine rd_dget2 ?_) | (with_reducible refine rd_sl ?_)
  | (with_reducible refine rd_nopart ?_) | (with_reducible refine rd_part ?_) | (with_reducible refine rd_parti ?_) | (with_reducible refine rd_bm ?_) | (with_reducible refine rd_bm0 ?_)
  | (with_reducible refine rd_int ?_) | (with_reducible refine rd_intb ?_) | (with_reducible refine rd_abs ?_) | (with_reducible refine rd_min2 ?_) | (with_reducible refine rd_max2 ?_))
local macro_rules | `(tactic| walk_at "rvs") => `(tactic| repeat (walk_at "rv"))

def trueIn (p : List Int) (x : Int) : Bool := decide (x.natAbs ≤ p.length) && decide (p.getD (x.natAbs - 1) 0 = x)
def openIn (p : List Int) (x : Int) : Bool := decide (p.length < x.natAbs)
def stF (p r : List Int) : Str := if r.any (trueIn p) = true then "true" else if r.any (openIn p) = true then "open" else "lost"
/-- a row of literals of letters from 1 on -/
def Lit (r : List Int) : Prop := (∀ x ∈ r, 1 ≤ x.natAbs ∧ x.natAbs ≤ 60) ∧ r.length ≤ 60
theorem noL_dI : ∀ r : List Int, noLs (dI r) = true
  | [] => rfl
  | _ :: r => noL_dI r
theorem noL_dR (r : List Int) : noL (dR r) = true := noL_dI r
section
variable {P : Program} {w : World} {K : PySem.W.Frag} {mg : Str → Option Value} {base : Heap}
def spState (K : PySem.W.Frag) : Sp := fun vs H Q _ => ∃ (a b : Addr) (r p : List Int), vs = [.ref a, .ref b] ∧ SqT K H a (r.map V.int) ∧ SqT K H b (p.map V.int) ∧ Lit r ∧ p.length ≤ 60 ∧ Q (.str (stF p r)) H
theorem ok_state {f : Addr} {fd : FuncData} (F : Fun K "state_of" "state_of" sstate_of f fd) (T : Bl mg) : FnOk P w K mg base CX0 1 f fd ["clause", "play"] (spState K) := by
  refine F.ok scstate_of (fun vs H Q E h => ?_) (fun cdv A outer s H vs Q E hr h => ?_)
  · obtain ⟨a, b, r, p, rfl, _⟩ := h
    rfl
  · obtain ⟨a, b, r, p, rfl, ha, hb, hr1, hp, q⟩ := h
    refine ⟨_, (pss_cons (ps_set (i := 2) scstate_of.nd rfl (Or.inl rfl) pe_str)
 (pss_cons (ps_for PassesOwn.never rfl (ik_tupI (K := K) rfl (pv 0)) (pg_name (i := 3) scstate_of.nd rfl (Or.inl rfl)) (pss_one (ps_if (pt_cmpR op_gt (pe_callB c_abs (by rfl) T.abs (by decide +kernel) (pa_cons (pv 3) pa_nil)) (pe_callB (c_len (K := K) rfl) (by rfl) T.len (by decide +kernel) (pa_cons (pv 1) pa_nil)) (nomark _)) (pss_one (ps_set (i := 2) scstate_of.nd rfl (Or.inl rfl) pe_str)) (pss_one (ps_if (pt_cmpR op_eq (pe_ix (ik_tup (K := K) rfl) (pv 1) (pe_op op_sub (pe_callB c_abs (by rfl) T.abs (by decide +kernel) (pa_cons (pv 3) pa_nil)) pe_int) (fun _ _ => rfl)) (pv 3) (nomark _)) (pss_one (ps_ret pe_str)) pss_nil)))))
 (pss_one (ps_ret (pv 2))))), ?_⟩
    refine rd_start (σ' := [some (.ref a), some (.ref b), none, none]) rfl ?_
    walk_at "rds"
    refine rd_ref ha ?_
    refine fr_tup (xs := r.map V.int) (fun i σ' H' => ∃ (x : Option V), σ' = [some (.ref a), some (.ref b), some (.str (stF p (r.take i))), x] ∧ H' = H ∧ (r.take i).any (trueIn p) = false)
      ⟨_, rfl, rfl, rfl⟩ (fun i σ' H' _ ⟨_, _, e, _⟩ => by rw [e]; exact ha) (fun i x σ' H' hi hP => ?_) fun σ' H' hP => ?_
    · obtain ⟨y, rfl, rfl, hno⟩ := hP
      rw [List.getElem?_map] at hi
      obtain ⟨t, ht, rfl⟩ := Option.map_eq_some_iff.mp hi
      have hl := hr1.1 t (List.mem_of_getElem? ht)
      refine rd_start (σ' := [some (.ref a), some (.ref b), some (.str (stF p (r.take i))), some (.int t)]) rfl ?_
      have htk : r.take (i + 1) = r.take i ++ [t] := by rw [List.take_add_one, ht] <;> rfl
      have any1 : ∀ f : Int → Bool, (r.take (i + 1)).any f = ((r.take i).any f || f t) := fun f => by rw [htk, List.any_append, List.any_cons, List.any_nil, Bool.or_false]
      walk_at "rds"
      refine rd_lenT hb ?_
      rw [List.length_map]
      walk_at "rds"
      refine rd_ite (fun c => ?_) (fun c => ?_)
      · walk_at "rds"
        have o1 : openIn p t = true := decide_eq_true (by omega)
        have t1 : trueIn p t = false := by
          unfold trueIn
          rw [decide_eq_false (by omega)] <;> rfl
        refine ⟨some (.int t), ?_, rfl, by rw [any1, hno, t1] <;> rfl⟩
        have : stF p (r.take (i + 1)) = "open" := by
          unfold stF
          rw [any1, any1, hno, t1, o1, if_neg (by decide), if_pos (by rw [Bool.or_true])]
        rw [this]
      · have hle : t.natAbs ≤ p.length := by omega
        have hat : atI (p.map V.int) ((t.natAbs : Int) - 1) = some (.int (p.getD (t.natAbs - 1) 0)) := by
          refine at_nat (k := t.natAbs - 1) (by omega) ?_
          rw [List.getElem?_map, List.getElem?_eq_getElem (by omega), List.getD_eq_getElem?_getD, List.getElem?_eq_getElem (by omega)] <;> rfl
        walk_at "rds"
        refine rd_ixT hb hat ?_
        walk_at "rds"
        refine rd_ite (fun c2 => ?_) (fun c2 => ?_)
        · have c2 := V.int.inj c2
          walk_at "rds"
          have t1 : trueIn p t = true := by
            unfold trueIn
            rw [decide_eq_true hle, decide_eq_true c2] <;> rfl
          have : stF p r = "true" := by
            unfold stF
            rw [if_pos (List.any_eq_true.mpr ⟨t, List.mem_of_getElem? ht, t1⟩)]
          rw [this] at q
          exact q
        · have t1 : trueIn p t = false := by
            unfold trueIn
            rw [decide_eq_false (p := p.getD (t.natAbs - 1) 0 = t) (fun e => c2 (congrArg V.int e)), Bool.and_false]
          have o1 : openIn p t = false := decide_eq_false (by omega)
          walk_at "rds"
          refine ⟨some (.int t), ?_, rfl, by rw [any1, hno, t1] <;> rfl⟩
          have : stF p (r.take (i + 1)) = stF p (r.take i) := by
            unfold stF
            rw [any1, any1, t1, o1, Bool.or_false, Bool.or_false]
          rw [this]
    · obtain ⟨y, rfl, rfl, hno⟩ := hP
      rw [List.length_map, List.take_of_length_le (Nat.le_refl _)]
      walk_at "rds"
      exact q
def spUnset (K : PySem.W.Frag) : Sp := fun vs H Q _ => ∃ (a b : Addr) (r p : List Int), vs = [.ref a, .ref b] ∧ SqT K H a (r.map V.int) ∧ SqT K H b (p.map V.int) ∧ Lit r ∧ p.length ≤ 60 ∧
  ∀ (o : Addr) (H' : Hp), Evl.Ex H H' → SqT K H' o ((r.filter (openIn p)).map V.int) → Q (.ref o) H'
theorem ok_unset {f : Addr} {fd : FuncData} (F : Fun K "unset_part" "unset_part" sunset_part f fd) (T : Bl mg) : FnOk P w K mg base CX0 1 f fd ["clause", "play"] (spUnset K) := by
  refine F.ok scunset_part (fun vs H Q E h => ?_) (fun cdv A outer s H vs Q E hr h => ?_)
  · obtain ⟨a, b, r, p, rfl, _⟩ := h
    rfl
  · obtain ⟨a, b, r, p, rfl, ha, hb, hr1, hp, q⟩ := h
    refine ⟨_, (pss_one (ps_ret (pe_callTy (c_tuple (K := K) rfl) (by rfl) T.tuple (by decide +kernel) (pa_cons (pe_lc (own := [("literal", 2)]) (g := gName 2) rfl scunset_part.nd (ik_tupI (K := K) rfl (pv 0)) (blkOk_by (own := [("literal", 2)]) (N := ["clause", "play", "literal"]) (sc := defScope sunset_part) (by decide +kernel)) (fun _ _ _ _ _ => (pg_name (i := 2) scunset_part.nd rfl (Or.inl rfl))) (fun _ _ _ _ _ => (pts_one (pt_cmpR op_gt (pe_callB c_abs (by rfl) T.abs (by decide +kernel) (pa_cons (pv 2) pa_nil)) (pe_callB (c_len (K := K) rfl) (by rfl) T.len (by decide +kernel) (pa_cons (pv 1) pa_nil)) (nomark _)))) (fun _ _ _ _ _ => (pv 2))) pa_nil)))), ?_⟩
    refine rd_start (σ' := [some (.ref a), some (.ref b), none]) rfl ?_
    walk_at "rds"
    refine rd_ref ha ?_
    refine lc_fmT (openIn p) V.int (σx := fun x => [some (.ref a), some (.ref b), some x]) ha (by have := hr1.2; omega) (fun _ => rfl) (fun _ => rfl)
      (fun x hx H' N S e kN kS => ?_) fun D H2 e2 eD hD => ?_
    · walk_at "rds"
      refine rd_lenT (Evl.ex_t e hb) ?_
      rw [List.length_map]
      walk_at "rds"
      refine rd_ite (fun c => ?_) (fun c => ?_)
      · walk_at "rds"
        exact kN (decide_eq_true (by omega)) _ (Evl.Ex.refl _)
      · exact kS (decide_eq_false (by omega)) _ (Evl.Ex.refl _)
    walk_at "rds"
    refine rd_tupL (SqL.of hD) fun o ho => ?_
    exact q o _ (e2.trans (Evl.Ex.new ho)) (SqT.of upd_same)
def spFrom (K : PySem.W.Frag) : Sp := fun vs H Q _ => ∃ (a c b : Addr) (z : Str) (xs : List V) (rs : List (List Int)) (p : List Int), vs = [.ref a, .ref b] ∧ SqT K H a [.str z, .ref c] ∧ SqT K H c xs ∧ DpAll K H xs (rs.map dR) ∧ (∀ r ∈ rs, Lit r) ∧ rs.length ≤ 1000 ∧ SqT K H b (p.map V.int) ∧ p.length ≤ 60 ∧
  ∀ (D : Addr) (ys : List V) (H' : Hp), Evl.Ex H H' → H D = none → H' D = some (.lst ys) → DpAll K H' ys (((rs.filter fun r => !r.any (trueIn p)).map fun r => r.filter (openIn p)).map dR) → Q (.ref D) H'
theorem stF_true {p r : List Int} : decide (V.str (stF p r) = V.str "true") = r.any (trueIn p) := by
  unfold stF
  cases r.any (trueIn p) with
  | true => rw [if_pos rfl]; decide
  | false =>
    rw [if_neg (by decide)]
    split <;> decide
theorem ok_from {f fS fU : Addr} {fd fdS fdU : FuncData} (F : Fun K "asked_from" "asked_from" sasked_from f fd) (T : Bl mg)
    (Gstate_of : FnOk P w K mg base CX0 1 fS fdS ["clause", "play"] (spState K)) (Cstate_of : Callee K mg "state_of" fS fdS ["clause", "play"])
    (Gunset_part : FnOk P w K mg base CX0 1 fU fdU ["clause", "play"] (spUnset K)) (Cunset_part : Callee K mg "unset_part" fU fdU ["clause", "play"]) :
    FnOk P w K mg base CX0 2 f fd ["sentence", "play"] (spFrom K) := by
  refine F.ok scasked_from (fun vs H Q E h => ?_) (fun cdv A outer s H vs Q E hr h => ?_)
  · obtain ⟨a, c, b, z, xs, rs, p, rfl, _⟩ := h
    rfl
  · obtain ⟨a, c, b, z, xs, rs, p, rfl, ha, hc, hd, hrs, hl, hb, hp, q⟩ := h
    refine ⟨_, (pss_one (ps_ret (pe_lc (own := [("clause", 2)]) (g := gName 2) rfl scasked_from.nd (ik_tupI (K := K) rfl (pe_ix (ik_tup (K := K) rfl) (pv 0) pe_int (fun _ _ => rfl))) (blkOk_by (own := [("clause", 2)]) (N := ["sentence", "play", "clause"]) (sc := defScope sasked_from) (by decide +kernel)) (fun _ _ _ _ _ => (pg_name (i := 2) scasked_from.nd rfl (Or.inl rfl))) (fun _ _ _ _ _ => (pts_one (pt_cmpR op_ne (pe_call Gstate_of (hr.mono (by decide)) (by rfl) Cstate_of.m Cstate_of.k Cstate_of.b .nil pass0 (pa_cons (pv 2) (pa_cons (pv 1) pa_nil))) pe_str (nomark _)))) (fun _ _ _ _ _ => (pe_call Gunset_part (hr.mono (by decide)) (by rfl) Cunset_part.m Cunset_part.k Cunset_part.b .nil pass0 (pa_cons (pv 2) (pa_cons (pv 1) pa_nil))))))), ?_⟩
    refine rd_start (σ' := [some (.ref a), some (.ref b), none]) rfl ?_
    walk_at "rds"
    refine rd_ixT (x := .ref c) ha rfl ?_
    refine rd_ref hc ?_
    refine lc_dpT noL_dR (fun r => !r.any (trueIn p)) (fun r => r.filter (openIn p)) (σx := fun x => [some (.ref a), some (.ref b), some x]) hc hd (by omega) (fun _ => rfl) (fun _ => rfl) (fun r hr v H' N S e hv kN kS => ?_) fun D H' ys e eD hD hys => q D ys H' e eD hD hys
    obtain ⟨v', rfl, sv⟩ := dp_row hv
    walk_at "rds"
    refine ⟨v', b, r, p, rfl, sv, Evl.ex_t e hb, hrs r hr, hp, ?_⟩
    walk_at "rds"
    rw [stF_true]
    cases c : r.any (trueIn p) with
    | true =>
      exact kS (by show (!r.any (trueIn p)) = false; rw [c]; rfl) _ (Evl.Ex.refl _)
    | false =>
      show tCall (spUnset K) [] E0 (tCons (tVar 2) (tCons (tVar 1) tNil)) _ _ _
      walk_at "rds"
      refine ⟨v', b, r, p, rfl, sv, Evl.ex_t e hb, hrs r hr, hp, fun o H3 e3 ho => ?_⟩
      exact kN (by show (!r.any (trueIn p)) = true; rw [c]; rfl) _ _ e3 (dp_of_row ho)
def nextF (lit : Int) (r : List Int) : Bool := !decide (r.getD 0 0 = lit)
def nextG (lit : Int) (r : List Int) : List Int := if r.getD 0 0 = -lit then r.drop 1 else r
def beh (lit : Int) (rs : List (List Int)) : List (List Int) := (rs.filter (nextF lit)).map (nextG lit)
def spBehind (K : PySem.W.Frag) : Sp := fun vs H Q _ => ∃ (a : Addr) (xs : List V) (rs : List (List Int)) (lit : Int), vs = [.ref a, .int lit] ∧ SqL K H a xs ∧ DpAll K H xs (rs.map dR) ∧ (∀ r ∈ rs, r ≠ []) ∧ rs.length ≤ 1000 ∧
  ∀ (D : Addr) (ys : List V) (H' : Hp), Evl.Ex H H' → H D = none → H' D = some (.lst ys) → DpAll K H' ys ((beh lit rs).map dR) → Q (.ref D) H'
theorem ok_behind {f : Addr} {fd : FuncData} (F : Fun K "asked_behind" "asked_behind" sasked_behind f fd) (T : Bl mg) :
    FnOk P w K mg base CX0 1 f fd ["asked", "literal"] (spBehind K) := by
  refine F.ok scasked_behind (fun vs H Q E h => ?_) (fun cdv A outer s H vs Q E hr h => ?_)
  · obtain ⟨a, xs, rs, lit, rfl, _⟩ := h
    rfl
  · obtain ⟨a, xs, rs, lit, rfl, ha, hd, hne, hl, q⟩ := h
    refine ⟨_, (pss_one (ps_ret (pe_lc (own := [("part", 2)]) (g := gName 2) rfl scasked_behind.nd (ik_listI (K := K) rfl (pv 0)) (blkOk_by (own := [("part", 2)]) (N := ["asked", "literal", "part"]) (sc := defScope sasked_behind) (by decide +kernel)) (fun _ _ _ _ _ => (pg_name (i := 2) scasked_behind.nd rfl (Or.inl rfl))) (fun _ _ _ _ _ => (pts_one (pt_cmpR op_ne (pe_ix (ik_tup (K := K) rfl) (pv 2) pe_int (fun _ _ => rfl)) (pv 1) (nomark _)))) (fun _ _ _ _ _ => (pe_ifExp (pt_cmpR op_eq (pe_ix (ik_tup (K := K) rfl) (pv 2) pe_int (fun _ _ => rfl)) (pe_un un_neg (pv 1)) (nomark _)) (pe_slice (sk_tup (K := K) rfl) (pv 2) (po_some pe_int) po_none) (pv 2)))))), ?_⟩
    refine rd_start (σ' := [some (.ref a), some (.int lit), none]) rfl ?_
    walk_at "rds"
    refine rd_refL ha ?_
    refine lc_dpL noL_dR (nextF lit) (nextG lit) (σx := fun x => [some (.ref a), some (.int lit), some x]) ha hd (by omega) (fun _ => rfl) (fun _ => rfl) (fun r hr v H' N S e hv kN kS => ?_) fun D H' ys e eD hD hys => q D ys H' e eD hD hys
    obtain ⟨v', rfl, sv⟩ := dp_row hv
    have hat : atI (r.map V.int) 0 = some (.int (r.getD 0 0)) := by
      cases r with
      | nil => exact absurd rfl (hne [] hr)
      | cons x t => exact at_nat (k := 0) rfl rfl
    walk_at "rds"
    refine rd_ixT sv hat ?_
    walk_at "rds"
    refine rd_iten (fun c => ?_) (fun c => ?_)
    · have hf : nextF lit r = true := by
        unfold nextF
        rw [decide_eq_false (fun e => c (congrArg V.int e))] <;> rfl
      walk_at "rds"
      refine rd_ixT sv hat ?_
      walk_at "rds"
      refine rd_ite (fun c2 => ?_) (fun c2 => ?_)
      · walk_at "rds"
        refine rd_slT sv fun o H3 e3 u3 => ?_
        rw [cut_drop (a := 1) (by decide), show (1 : Int).toNat = 1 from rfl, ← List.map_drop] at u3
        refine kN hf _ _ e3 ?_
        have : nextG lit r = r.drop 1 := if_pos (V.int.inj c2)
        rw [this]
        exact dp_of_row u3
      · walk_at "rds"
        refine kN hf _ _ (Evl.Ex.refl _) ?_
        have : nextG lit r = r := if_neg (fun e => c2 (congrArg V.int e))
        rw [this]
        exact dp_of_row sv
    · refine kS ?_ _ (Evl.Ex.refl _)
      unfold nextF
      rw [decide_eq_true (V.int.inj c)] <;> rfl
end
end KA
set_option Elab.async false
set_option linter.all false
set_option maxRecDepth 100000
set_option maxHeartbeats 400000
set_option pp.maxSteps 300
namespace KA
open PySem PySem.Spec PyProof.Rows L2 Ea
abbrev ssome_wins : Stmt := topS 13
theorem scsome_wins : FnScope ["owners", "letter", "asked", "with_yes"] ["owners", "letter", "asked"] (defScope ssome_wins) :=
  ⟨rfl, rfl, rfl, by decide +kernel, rfl, by decide +kernel, by decide +kernel⟩
local macro_rules | `(tactic| walk_at "rd") => `(tactic| first
  | (with_reducible refine rd_seq ?_) | (with_reducible refine rd_asg ?_) | (with_reducible refine rd_if ?_) | (with_reducible refine rd_ret ?_) | (with_reducible refine rd_next ?_)
  | (with_reducible refine rd_drop ?_) | ((with_reducible refine rd_name (σ' := ?ss) ?hs ?_); (case hs => (dsimp only [List.set]; exact rfl)))
  | ((with_reducible refine rd_var (v := ?vv) ?hv ?_); (case hv => exact rfl)) | (with_reducible refine rd_c ?_) | (with_reducible refine rd_op ?_) | (with_reducible refine rd_un ?_)
  | (with_reducible refine rd_I0 ?_) | (with_reducible refine rd_U ?_) | (with_reducible refine rd_test ?_) | (with_reducible refine rd_B ?_) | (with_reducible refine rd_k ?_)
  | (with_reducible refine rd_not ?_) | (with_reducible refine rd_and ?_) | (with_reducible refine rd_or ?_) | (with_reducible refine rd_ifE ?_)
  | (with_reducible refine rd_par ?_) | ((with_reducible refine rd_par2 (σ' := ?ss) ?hs ?_); (case hs => (dsimp only [List.set]; exact rfl)))
  | (with_reducible refine rd_gsub ?_) | (with_reducible refine rd_andV ?_) | (with_reducible refine rd_orV ?_) | (with_reducible refine rd_notV ?_)
  | (with_reducible refine rd_lc ?_) | (with_reducible refine rd_iTup ?_) | (with_reducible refine rd_iList ?_) | (with_reducible refine rd_iRng1 ?_) | (with_reducible refine rd_iRng2 ?_) | (with_reducible refine rd_iEnumT ?_) | (with_reducible refine rd_iEnum ?_) | (with_reducible refine rd_iZipM ?_) | (with_reducible refine rd_iEnumS ?_) | (with_reducible refine rd_iKeys ?_) | (with_reducible refine rd_din ?_) | (with_reducible refine rd_dnotin ?_)
  | (with_reducible refine rd_yes ?_) | (with_reducible refine rd_true ?_) | (with_reducible refine rd_false ?_) | (with_reducible refine rd_m1 ?_) | (with_reducible refine rd_isS ?_)
  | ((with_reducible refine rd_eq ?hs ?_); (case hs => exact rfl)) | ((with_reducible refine rd_ne ?hs ?_); (case hs => exact rfl))
  | (with_reducible refine rd_listRg ?_) | (with_reducible refine rd_rg2 ?_) | (with_reducible refine rd_rgk ?_)
  | (with_reducible refine rd_dnew ?_) | (with_reducible refine rd_ddel ?_) | (with_reducible refine rd_kw ?_) | (with_reducible refine rd_callS ?_) | (with_reducible refine rd_dc ?_) | (with_reducible refine rd_for ?_) | (with_reducible refine rd_tru ?_) | (with_reducible refine rd_truI ?_)
  | (with_reducible refine rd_nil ?_) | (with_reducible refine rd_cons ?_) | (with_reducible refine rd_call ?_) | (with_reducible refine rd_cb ?_)
  | (with_reducible refine rd_tup ?_) | (with_reducible refine rd_lst ?_) | (with_reducible refine rd_dget ?_) | (with_reducible refine rd_dput ?_) | (with_reducible refine rd_dget2 ?_) | (with_reducible refine rd_sl ?_)
  | (with_reducible refine rd_nopart ?_) | (with_reducible refine rd_part ?_) | (with_reducible refine rd_parti ?_) | (with_reducible refine rd_bm ?_) | (with_reducible refine rd_bm0 ?_)
  | (with_reducible refine rd_int ?_) | (with_reducible refine rd_intb ?_) | (with_reducible refine rd_abs ?_) | (with_reducible refine rd_min2 ?_) | (with_reducible refine rd_max2 ?_))
local macro_rules | `(tactic| walk_at "rds") => `(tactic| repeat (walk_at "rd"))
local macro_rules | `(tactic| walk_at "rq") => `(tactic| first
  | (with_reducible refine rd_seq ?_) | (with_reducible refine rd_asg ?_) | (with_reducible refine rd_ret ?_) | (with_reducible refine rd_next ?_)
  | (with_reducible refine rd_drop ?_) | ((with_reducible refine rd_name (σ' := ?ss) ?hs ?_); (case hs => (dsimp only [List.set]; exact rfl)))
  | ((with_reducible refine rd_var (v := ?vv) ?hv ?_); (case hv => exact rfl)) | (with_reducible refine rd_c ?_) | (with_reducible refine rd_op ?_) | (with_reducible refine rd_un ?_)
  | (with_reducible refine rd_I0 ?_) | (with_reducible refine rd_U ?_) | (with_reducible refine rd_test ?_) | (with_reducible refine rd_B ?_) | (with_reducible refine rd_k ?_)
  | (with_reducible refine rd_not ?_) | (with_reducible refine rd_and ?_) | (with_reducible refine rd_or ?_) | (with_reducible refine rd_ifE ?_)
  | (with_reducible refine rd_par ?_) | ((with_reducible refine rd_par2 (σ' := ?ss) ?hs ?_); (case hs => (dsimp only [List.set]; exact rfl)))
  | (with_reducible refine rd_gsub ?_) | (with_reducible refine rd_andV ?_) | (with_reducible refine rd_orV ?_) | (with_reducible refine rd_notV ?_)
  | (with_reducible refine rd_lc ?_) | (with_reducible refine rd_iTup ?_) | (with_reducible refine rd_iList ?_) | (with_reducible refine rd_iRng1 ?_) | (with_reducible refine rd_iRng2 ?_) | (with_reducible refine rd_iEnumT ?_) | (with_reducible refine rd_iEnum ?_) | (with_reducible refine rd_iZipM ?_) | (with_reducible refine rd_iEnumS ?_) | (with_reducible refine rd_iKeys ?_) | (with_reducible refine rd_din ?_) | (with_reducible refine rd_dnotin ?_)
  | (with_reducible refine rd_yes ?_) | (with_reducible refine rd_true ?_) | (with_reducible refine rd_false ?_) | (with_reducible refine rd_m1 ?_) | (with_reducible refine rd_isS ?_)
  | ((with_reducible refine rd_eq ?hs ?_); (case hs => exact rfl)) | ((with_reducible refine rd_ne ?hs ?_); (case hs => exact rfl))
  | (with_reducible refine rd_listRg ?_) | (with_reducible refine rd_rg2 ?_) | (with_reducible refine rd_rgk ?_)
  | (with_reducible refine rd_dnew ?_) | (with_reducible refine rd_ddel ?_) | (with_reducible refine rd_kw ?_) | (with_reducible refine rd_callS ?_) | (with_reducible refine rd_dc ?_) | (with_reducible refine rd_for ?_) | (with_reducible refine rd_tru ?_) | (with_reducible refine rd_truI ?_)
  | (with_reducible refine rd_nil ?_) | (with_reducible refine rd_cons ?_) | (with_reducible refine rd_call ?_) | (with_reducible refine rd_cb ?_)
  | (with_reducible refine rd_tup ?_) | (with_reducible refine rd_lst ?_) | (with_reducible refine rd_dget ?_) | (with_reducible refine rd_dput ?_) | (with_reducible refine rd_dget2 ?_) | (with_reducible refine rd_sl ?_)
  | (with_reducible refine rd_nopart ?_) | (with_reducible refine rd_part ?_) | (with_reducible refine rd_parti ?_) | (with_reducible refine rd_bm ?_) | (with_reducible refine rd_bm0 ?_)
  | (with_reducible refine rd_int ?_) | (with_reducible refine rd_intb ?_) | (with_reducible refine rd_abs ?_) | (with_reducible refine rd_min2 ?_) | (with_reducible refine rd_max2 ?_))
local macro_rules | `(tactic| walk_at "rqs") => `(tactic| repeat (walk_at "rq"))
local macro_rules | `(tactic| walk_at "rv") => `(tactic| first
  | (with_reducible refine rd_seq ?_) | (with_reducible refine rd_asg ?_) | (with_reducible refine rd_ret ?_) | (with_reducible refine rd_next ?_)
  | (with_reducible refine rd_drop ?_) | ((with_reducible refine rd_name (σ' := ?ss) ?hs ?_); (case hs => (dsimp only [List.set]; exact rfl)))
  | ((with_reducible refine rd_var (v := ?vv) ?hv ?_); (case hv => exact rfl)) | (with_reducible refine rd_c ?_) | (with_reducible refine rd_op ?_) | (with_reducible refine rd_un ?_)
  | (with_reducible refine rd_I0 ?_) | (with_reducible refine rd_U ?_) | (with_reducible refine rd_test ?_) | (with_reducible refine rd_B ?_) | (with_reducible refine rd_k ?_)
  | (with_reducible refine rd_not ?_) | (with_reducible refine rd_and ?_) | (with_reducible refine rd_or ?_)
  | (with_reducible refine rd_par ?_) | ((with_reducible refine rd_par2 (σ' := ?ss) ?hs ?_); (case hs => (dsimp only [List.set]; exact rfl)))
  | (with_reducible refine rd_gsub ?_) | (with_reducible refine rd_andV ?_) | (with_reducible refine rd_orV ?_) | (with_reducible refine rd_notV ?_)
  | (with_reducible refine rd_lc ?_) | (with_reducible refine rd_iTup ?_) | (with_reducible refine rd_iList ?_) | (with_reducible refine rd_iRng1 ?_) | (with_reducible refine rd_iRng2 ?_) | (with_reducible refine rd_iEnumT ?_) | (with_reducible refine rd_iEnum ?_) | (with_reducible refine rd_iZipM ?_) | (with_reducible refine rd_iEnumS ?_) | (with_reducible refine rd_iKeys ?_) | (with_reducible refine rd_din ?_) | (with_reducible refine rd_dnotin ?_)
  | (with_reducible refine rd_yes ?_) | (with_reducible refine rd_true ?_) | (with_reducible refine rd_false ?_) | (with_reducible refine rd_m1 ?_) | (with_reducible refine rd_isS ?_)
  | ((with_reducible refine rd_eq ?hs ?_); (case hs => exact rfl)) | ((with_reducible refine rd_ne ?hs ?_); (case hs => exact rfl))
  | (with_reducible refine rd_listRg ?_) | (with_reducible refine rd_rg2 ?_) | (with_reducible refine rd_rgk ?_)
  | (with_reducible refine rd_dnew ?_) | (with_reducible refine rd_ddel ?_) | (with_reducible refine rd_kw ?_) | (with_reducible refine rd_callS ?_) | (with_reducible refine rd_dc ?_) | (with_reducible refine rd_for ?_) | (with_reducible refine rd_tru ?_) | (with_reducible refine rd_truI ?_)
  | (with_reducible refine rd_nil ?_) | (with_reducible refine rd_cons ?_) | (with_reducible refine rd_call ?_) | (with_reducible refine rd_cb ?_)
  | (with_reducible refine rd_tup ?_) | (with_reducible refine rd_lst ?_) | (with_reducible refine rd_dget ?_) | (with_reducible refine rd_dput ?_) | (with_reducible refine rd_dget2 ?_) | (with_reducible refine rd_sl ?_)
  | (with_reducible refine rd_nopart ?_) | (with_reducible refine rd_part ?_) | (with_reducible refine rd_parti ?_) | (with_reducible refine rd_bm ?_) | (with_reducible refine rd_bm0 ?_)
  | (with_reducible refine rd_int ?_) | (with_reducible refine rd_intb ?_) | (with_reducible refine rd_abs ?_) | (with_reducible refine rd_min2 ?_) | (with_reducible refine rd_max2 ?_))
local macro_rules | `(tactic| walk_at "rvs") => `(tactic| repeat (walk_at "rv"))

theorem at_sgn2 {n : Nat} {z : Str} {x : Int} (h : OwnS n z) (h1 : 1 ≤ x) (h2 : x ≤ (n : Int)) : atI z.cps.toList (x - 1) = some (sgn z x) := by
  have e : x - 1 = (x.natAbs : Int) - 1 := by omega
  rw [e]
  exact at_sgn h (by omega) (by omega)
/-- who wins from a letter on, m letters being left -/
def winR (z : Str) : Nat → Int → List (List Int) → Bool
  | m, letter, rs => if rs = [] then true else if [] ∈ rs then false else match m with
    | 0 => false
    | m + 1 => if heldBy z "s" letter = true then winR z m (letter + 1) (beh letter rs) || winR z m (letter + 1) (beh (-letter) rs) else winR z m (letter + 1) (beh letter rs) && winR z m (letter + 1) (beh (-letter) rs)
/-- rows of letters from one on -/
def From (n : Nat) (letter : Int) (rs : List (List Int)) : Prop := ∀ r ∈ rs, r.Pairwise (fun x y => x.natAbs < y.natAbs) ∧ ∀ x ∈ r, letter ≤ (x.natAbs : Int) ∧ x.natAbs ≤ n
theorem From.beh {n : Nat} {letter : Int} {rs : List (List Int)} {lit : Int} (h : From n letter rs) (hl : (lit.natAbs : Int) = letter) (hne : ∀ r ∈ rs, r ≠ []) : From n (letter + 1) (beh lit rs) := fun s hs => by
  obtain ⟨r, hr, rfl⟩ := List.mem_map.mp hs
  obtain ⟨hr1, hr2⟩ := List.mem_filter.mp hr
  obtain ⟨h1, h2⟩ := h r hr1
  have c1 : r.getD 0 0 ≠ lit := by
    unfold nextF at hr2
    intro e
    rw [decide_eq_true e] at hr2
    cases hr2
  cases r with
  | nil => exact absurd rfl (hne [] hr1)
  | cons x t =>
    have c1 : x ≠ lit := c1
    obtain ⟨p1, p2⟩ := List.pairwise_cons.mp h1
    have hx := h2 x List.mem_cons_self
    unfold nextG
    by_cases c2 : (x :: t).getD 0 0 = -lit
    · rw [if_pos c2]
      have c2 : x = -lit := c2
      refine ⟨p2, fun y hy => ?_⟩
      have := p1 y hy
      have := (h2 y (List.mem_cons_of_mem _ hy)).2
      omega
    · rw [if_neg c2]
      have c2 : x ≠ -lit := c2
      refine ⟨h1, fun y hy => ?_⟩
      have h3 := (h2 y hy).2
      rcases List.mem_cons.mp hy with rfl | hy
      · omega
      · have := p1 y hy
        omega
theorem beh_length (lit : Int) (rs : List (List Int)) : (beh lit rs).length ≤ rs.length := by
  unfold beh
  rw [List.length_map]
  exact List.length_filter_le _ _
theorem nice_from {n : Nat} {letter : Int} (hn : n ≤ 60) {r : List Int} (h : r.Pairwise (fun x y => x.natAbs < y.natAbs) ∧ ∀ x ∈ r, letter ≤ (x.natAbs : Int) ∧ x.natAbs ≤ n) (h1 : 1 ≤ letter) : Nice 60 1 (dR r) :=
  (Nice.tup (NiceAll.ints fun x hx => by
    have := h.2 x hx
    have : (10 : Nat) ^ 12 = 1000000000000 := by decide
    omega)).mono (by
      have : Row n r := ⟨h.1, fun x hx => by have := h.2 x hx; omega⟩
      have := Row.length this
      omega) (Nat.le_refl _)
theorem nice_froms {n : Nat} {letter : Int} (hn : n ≤ 60) (h1 : 1 ≤ letter) : ∀ {rs : List (List Int)}, From n letter rs → NiceAll (61 * rs.length) 1 (rs.map dR)
  | [], _ => NiceAll.nil
  | r :: t, h => (NiceAll.cons (nice_from hn (h r List.mem_cons_self) h1) (nice_froms hn h1 fun s hs => h s (List.mem_cons_of_mem _ hs))).mono (by rw [List.length_cons]; omega) (Nat.le_refl _)
theorem any_empty (rs : List (List Int)) : ((rs.map dR).any fun z => PyData.eqv z (dR [])) = decide ([] ∈ rs) := by
  induction rs with
  | nil => rfl
  | cons r t ih =>
    rw [List.map_cons, List.any_cons, ih]
    cases r with
    | nil => rw [decide_eq_true (p := [] ∈ [] :: t) List.mem_cons_self] <;> rfl
    | cons x s =>
      by_cases c : [] ∈ t
      · rw [decide_eq_true c, decide_eq_true (p := [] ∈ (x :: s) :: t) (List.mem_cons_of_mem _ c)] <;> rfl
      · rw [decide_eq_false c, decide_eq_false (p := [] ∈ (x :: s) :: t) (fun h => by
          rcases List.mem_cons.mp h with h | h
          · cases h
          · exact c h)] <;> rfl
theorem winR_nil (z : Str) (m : Nat) (letter : Int) : winR z m letter [] = true := by
  unfold winR
  exact if_pos rfl
theorem winR_lost {z : Str} {m : Nat} {letter : Int} {rs : List (List Int)} (h : [] ∈ rs) : winR z m letter rs = false := by
  unfold winR
  rw [if_neg (fun e => by rw [e] at h; cases h), if_pos h]
theorem winR_step {z : Str} {m : Nat} {letter : Int} {rs : List (List Int)} (h0 : rs ≠ []) (h : [] ∉ rs) :
    winR z (m + 1) letter rs = if heldBy z "s" letter = true then winR z m (letter + 1) (beh letter rs) || winR z m (letter + 1) (beh (-letter) rs) else winR z m (letter + 1) (beh letter rs) && winR z m (letter + 1) (beh (-letter) rs) := by
  rw [winR, if_neg h0, if_neg h]
section
variable {P : Program} {w : World} {K : PySem.W.Frag} {mg : Str → Option Value} {base : Heap}
def spWins (K : PySem.W.Frag) (M : Nat) : Sp := fun vs H Q _ => ∃ (a : Addr) (z : Str) (n m : Nat) (letter : Int) (xs : List V) (rs : List (List Int)), vs = [.str z, .int letter, .ref a] ∧ OwnS n z ∧ n ≤ 60 ∧ 1 ≤ letter ∧ letter + m = n + 1 ∧ m < M ∧ SqL K H a xs ∧ DpAll K H xs (rs.map dR) ∧ From n letter rs ∧ rs.length ≤ 1000 ∧
  ∀ H', Evl.Ex H H' → Q (.bl (winR z m letter rs)) H'
theorem ok_wins1 {f fB : Addr} {fd fdB : FuncData} (F : Fun K "some_wins" "some_wins" ssome_wins f fd) (T : Bl mg) {M k : Nat} (hk : 1 ≤ k)
    (Gasked_behind : FnOk P w K mg base CX0 1 fB fdB ["asked", "literal"] (spBehind K)) (Casked_behind : Callee K mg "asked_behind" fB fdB ["asked", "literal"])
    (Gsome_wins : FnOk P w K mg base CX0 k f fd ["owners", "letter", "asked"] (spWins K M)) (Csome_wins : Callee K mg "some_wins" f fd ["owners", "letter", "asked"]) :
    FnOk P w K mg base CX0 (k + 1) f fd ["owners", "letter", "asked"] (spWins K (M + 1)) := by
  refine F.ok scsome_wins (fun vs H Q E h => ?_) (fun cdv A outer s H vs Q E hr h => ?_)
  · obtain ⟨a, z, n, m, letter, xs, rs, rfl, _⟩ := h
    rfl
  · obtain ⟨a, z, n, m, letter, xs, rs, rfl, hz, hn, hl1, hm, hM, ha, hd, hf, hl, q⟩ := h
    refine ⟨_, (pss_cons (ps_if (pt_not (pk_truth (K := K) rfl (pv 2) (by intro _; rfl))) (pss_one (ps_ret pe_bl)) pss_nil)
 (pss_cons (ps_if (pt_cmpR (op_inD (hu65 hr)) (pe_tup pa_nil) (pv 2) (by rfl)) (pss_one (ps_ret pe_bl)) pss_nil)
 (pss_cons (ps_set (i := 3) scsome_wins.nd rfl (Or.inl rfl) (pe_call Gsome_wins hr (by rfl) Csome_wins.m Csome_wins.k Csome_wins.b .nil pass0 (pa_cons (pv 0) (pa_cons (pe_op op_add (pv 1) pe_int) (pa_cons (pe_call Gasked_behind (hr.mono hk) (by rfl) Casked_behind.m Casked_behind.k Casked_behind.b .nil pass0 (pa_cons (pv 2) (pa_cons (pv 1) pa_nil))) pa_nil)))))
 (pss_cons (ps_if (pt_cmpR op_eq (pv 3) (pe_cmpR op_eq (pe_ix ix_str (pv 0) (pe_op op_sub (pv 1) pe_int) (fun _ _ => rfl)) pe_str (nomark _)) (nomark _)) (pss_one (ps_ret (pv 3))) pss_nil)
 (pss_one (ps_ret (pe_call Gsome_wins hr (by rfl) Csome_wins.m Csome_wins.k Csome_wins.b .nil pass0 (pa_cons (pv 0) (pa_cons (pe_op op_add (pv 1) pe_int) (pa_cons (pe_call Gasked_behind (hr.mono hk) (by rfl) Casked_behind.m Casked_behind.k Casked_behind.b .nil pass0 (pa_cons (pv 2) (pa_cons (pe_un un_neg (pv 1)) pa_nil))) pa_nil)))))))))), ?_⟩
    refine rd_start (σ' := [some (.str z), some (.int letter), some (.ref a), none]) rfl ?_
    walk_at "rds"
    have lx : xs.length = rs.length := by rw [dpAll_len hd, List.length_map]
    refine ⟨!xs.isEmpty, .inl ⟨xs, ha, rfl⟩, ?_⟩
    by_cases c0 : rs = []
    · subst c0
      have : xs = [] := List.length_eq_zero_iff.mp lx
      subst this
      rw [if_pos (by decide)]
      walk_at "rds"
      have := q _ (Evl.Ex.refl _)
      rw [winR_nil] at this
      exact this
    · have hxe : xs.isEmpty = false := by
        cases xs with
        | nil =>
          rw [List.length_nil] at lx
          exact absurd (List.length_eq_zero_iff.mp lx.symm) c0
        | cons x t => rfl
      rw [hxe, if_neg (by decide)]
      walk_at "rds"
      refine ⟨Nat.zero_le _, fun p hp => ?_⟩
      have e1 := Evl.Ex.new (o := .tup []) hp
      walk_at "rds"
      refine ⟨dR [], rs.map dR, dp_of_row (r := []) (SqT.of upd_same), .lst (Evl.ex_l e1 ha) (dpAll_ex e1 _ _ hd), (Nice.tup NiceAll.nil : Nice 0 1 (dR [])).shaped (by decide), (Nice.lst (nice_froms hn hl1 hf)).shaped (by decide), ?_⟩
      rw [any_empty]
      walk_at "rds"
      refine rd_ite (fun c1 => ?_) (fun c1 => ?_)
      · walk_at "rds"
        have := q _ e1
        rw [winR_lost c1] at this
        exact this
      · have hne : ∀ r ∈ rs, r ≠ [] := fun r hr e => c1 (e ▸ hr)
        obtain ⟨m, rfl⟩ : ∃ m', m = m' + 1 := by
          cases m with
          | succ m => exact ⟨m, rfl⟩
          | zero =>
            obtain ⟨r, hr⟩ := List.exists_mem_of_ne_nil rs c0
            have hr1 := hf r hr
            cases r with
            | nil => exact absurd rfl (hne [] hr)
            | cons x t =>
              have := hr1.2 x List.mem_cons_self
              omega
        have hxs := Evl.ex_l e1 ha
        have hds := dpAll_ex e1 _ _ hd
        walk_at "rds"
        refine ⟨a, xs, rs, letter, rfl, hxs, hds, hne, hl, fun D ys H2 e2 eD hD hys => ?_⟩
        walk_at "rds"
        refine ⟨D, z, n, m, letter + 1, ys, beh letter rs, rfl, hz, hn, by omega, by omega, by omega, SqL.of hD, hys, hf.beh (by omega) hne, Nat.le_trans (beh_length _ _) hl, fun H3 e3 => ?_⟩
        have e13 := (e1.trans e2).trans e3
        have fin := fun H' (e : Evl.Ex H H') => q H' e
        rw [winR_step c0 c1] at fin
        walk_at "rds"
        refine rd_ixS (by rw [hz.1, sizeLine_eq]; omega) (at_sgn2 hz (by omega) (by omega)) ?_
        walk_at "rds"
        have hh : decide (V.str ⟨#[sgn z letter]⟩ = V.str "s") = heldBy z "s" letter := rfl
        rw [hh]
        have fin1 := fin _ e13
        refine rd_ite (fun c2 => ?_) (fun c2 => ?_)
        · have c2 : winR z m (letter + 1) (beh letter rs) = heldBy z "s" letter := V.bl.inj c2
          walk_at "rds"
          have e : (if heldBy z "s" letter = true then winR z m (letter + 1) (beh letter rs) || winR z m (letter + 1) (beh (-letter) rs) else winR z m (letter + 1) (beh letter rs) && winR z m (letter + 1) (beh (-letter) rs)) = winR z m (letter + 1) (beh letter rs) := by
            cases c3 : heldBy z "s" letter with
            | true => rw [c3] at c2; rw [if_pos rfl, c2, Bool.true_or]
            | false => rw [c3] at c2; rw [if_neg (by decide), c2, Bool.false_and]
          rw [e] at fin1
          exact fin1
        · have c2 : winR z m (letter + 1) (beh letter rs) ≠ heldBy z "s" letter := fun e => c2 (congrArg V.bl e)
          walk_at "rds"
          refine ⟨a, xs, rs, -letter, rfl, Evl.ex_l (e2.trans e3) hxs, dpAll_ex (e2.trans e3) _ _ hds, hne, hl, fun D2 ys2 H4 e4 eD2 hD2 hys2 => ?_⟩
          walk_at "rds"
          refine ⟨D2, z, n, m, letter + 1, ys2, beh (-letter) rs, rfl, hz, hn, by omega, by omega, by omega, SqL.of hD2, hys2, hf.beh (by omega) hne, Nat.le_trans (beh_length _ _) hl, fun H5 e5 => ?_⟩
          have fin2 := fin _ ((e13.trans e4).trans e5)
          have e : (if heldBy z "s" letter = true then winR z m (letter + 1) (beh letter rs) || winR z m (letter + 1) (beh (-letter) rs) else winR z m (letter + 1) (beh letter rs) && winR z m (letter + 1) (beh (-letter) rs)) = winR z m (letter + 1) (beh (-letter) rs) := by
            cases c3 : heldBy z "s" letter with
            | true =>
              rw [c3] at c2
              rw [if_pos rfl, Bool.eq_false_iff.mpr c2, Bool.false_or]
            | false =>
              rw [c3] at c2
              have : winR z m (letter + 1) (beh letter rs) = true := by
                cases h : winR z m (letter + 1) (beh letter rs) with
                | true => rfl
                | false => exact absurd h c2
              rw [if_neg (by decide), this, Bool.true_and]
          rw [e] at fin2
          exact fin2
theorem ok_wins0 {f : Addr} {fd : FuncData} : FnOk P w K mg base CX0 1 f fd ["owners", "letter", "asked"] (spWins K 0) :=
  ⟨fun vs H Q E h => by
    obtain ⟨a, z, n, m, letter, xs, rs, _, _, _, _, _, hM, _⟩ := h
    exact absurd hM (Nat.not_lt_zero m), fun A outer s H args us vs Q E hr e0 hb r hsp => by
    obtain ⟨a, z, n, m, letter, xs, rs, _, _, _, _, _, hM, _⟩ := hsp
    exact absurd hM (Nat.not_lt_zero m)⟩
theorem ok_wins {f fB : Addr} {fd fdB : FuncData} (F : Fun K "some_wins" "some_wins" ssome_wins f fd) (T : Bl mg)
    (Gasked_behind : FnOk P w K mg base CX0 1 fB fdB ["asked", "literal"] (spBehind K)) (Casked_behind : Callee K mg "asked_behind" fB fdB ["asked", "literal"])
    (Csome_wins : Callee K mg "some_wins" f fd ["owners", "letter", "asked"]) : ∀ M : Nat, FnOk P w K mg base CX0 (M + 1) f fd ["owners", "letter", "asked"] (spWins K M)
  | 0 => ok_wins0
  | M + 1 => ok_wins1 F T (Nat.succ_le_succ (Nat.zero_le M)) Gasked_behind Casked_behind (ok_wins F T Gasked_behind Casked_behind Csome_wins M) Csome_wins
end
end KA
set_option Elab.async false
set_option linter.all false
set_option maxRecDepth 100000
set_option maxHeartbeats 400000
set_option pp.maxSteps 300
namespace Ea
open PySem PySem.Spec PyProof.Rows L2
theorem rd_iStr {te : TE} {σ : L2.St} {H : Hp} {R : It → Hp → Prop} (h : te σ H fun v H1 => ∃ x, v = V.str x ∧ R (Its x) H1) : iStr te σ H R := h
/-- a for over the signs of a text -/
theorem fr_str {σ : L2.St} {H : Hp} {tb : TS} {D : Ends} {j : Nat} {z : Str} (Pv : Nat → L2.St → Hp → Prop) (h0 : Pv 0 σ H)
    (hs : ∀ i σ H c, z.cps.toList[i]? = some c → Pv i σ H → tb { D with nx := Pv (i + 1), ct := Pv (i + 1), bk := D.nx } (σ.set j (some (.str ⟨#[c]⟩))) H) (hd : ∀ σ H, Pv z.length σ H → D.nx σ H) : ForR (gName j) tb D σ (Its z) H := by
  refine ⟨fun i m σ' H' => i + m = z.cps.size ∧ Pv i σ' H', ⟨z.cps.size, by omega, h0⟩, fun i m σ' H' hW => ?_⟩
  obtain ⟨em, hp⟩ := hW
  by_cases hi : i < z.cps.size
  · refine .inr ⟨hi, Pv (i + 1), fun σ2 H2 h2 => ⟨m - 1, by omega, by omega, h2⟩, fun x H2 hy => ?_⟩
    obtain ⟨e, c, hc, rfl⟩ := hy
    rw [e]
    exact hs i σ' H' c (by rw [Array.getElem?_toList]; exact hc) hp
  · have hin : i = z.cps.size := by omega
    subst hin
    exact .inl ⟨Nat.le_refl _, hd σ' H' hp⟩
end Ea
namespace KA
open PySem PySem.Spec PyProof.Rows L2 Ea
abbrev s_law_free : Stmt := topS 21
theorem sc_law_free : FnScope ["owners", "found", "sign"] ["owners"] (defScope s_law_free) :=
  ⟨rfl, rfl, rfl, by decide +kernel, rfl, by decide +kernel, by decide +kernel⟩
local macro_rules | `(tactic| walk_at "rd") => `(tactic| first
  | (with_reducible refine rd_seq ?_) | (with_reducible refine rd_asg ?_) | (with_reducible refine rd_if ?_) | (with_reducible refine rd_ret ?_) | (with_reducible refine rd_next ?_)
  | (with_reducible refine rd_drop ?_) | ((with_reducible refine rd_name (σ' := ?ss) ?hs ?_); (case hs => (dsimp only [List.set]; exact rfl)))
  | ((with_reducible refine rd_var (v := ?vv) ?hv ?_); (case hv => exact rfl)) | (with_reducible refine rd_c ?_) | (with_reducible refine rd_op ?_) | (with_reducible refine rd_un ?_)
  | (with_reducible refine rd_I0 ?_) | (with_reducible refine rd_U ?_) | (with_reducible refine rd_test ?_) | (with_reducible refine rd_B ?_) | (with_reducible refine rd_k ?_)
  | (with_reducible refine rd_not ?_) | (with_reducible refine rd_and ?_) | (with_reducible refine rd_or ?_) | (with_reducible refine rd_ifE ?_)
  | (with_reducible refine rd_par ?_) | ((with_reducible refine rd_par2 (σ' := ?ss) ?hs ?_); (case hs => (dsimp only [List.set]; exact rfl)))
  | (with_reducible refine rd_gsub ?_) | (with_reducible refine rd_andV ?_) | (with_reducible refine rd_orV ?_) | (with_reducible refine rd_notV ?_)
  | (with_reducible refine rd_lc ?_) | (with_reducible refine rd_iTup ?_) | (with_reducible refine rd_iList ?_) | (with_reducible refine rd_iRng1 ?_) | (with_reducible refine rd_iRng2 ?_) | (with_reducible refine rd_iEnumT ?_) | (with_reducible refine rd_iEnum ?_) | (with_reducible refine rd_iZipM ?_) | (with_reducible refine rd_iEnumS ?_) | (with_reducible refine rd_iKeys ?_) | (with_reducible refine rd_din ?_) | (with_reducible refine rd_dnotin ?_)
  | (with_reducible refine rd_yes ?_) | (with_reducible refine rd_true ?_) | (with_reducible refine rd_false ?_) | (with_reducible refine rd_m1 ?_) | (with_reducible refine rd_isS ?_)
  | ((with_reducible refine rd_eq ?hs ?_); (case hs => exact rfl)) | ((with_reducible refine rd_ne ?hs ?_); (case hs => exact rfl))
  | (with_reducible refine rd_listRg ?_) | (with_reducible refine rd_rg2 ?_) | (with_reducible refine rd_rgk ?_)
  | (with_reducible refine rd_dnew ?_) | (with_reducible refine rd_ddel ?_) | (with_reducible refine rd_kw ?_) | (with_reducible refine rd_callS ?_) | (with_reducible refine rd_dc ?_) | (with_reducible refine rd_for ?_) | (with_reducible refine rd_tru ?_) | (with_reducible refine rd_truI ?_)
  | (with_reducible refine rd_nil ?_) | (with_reducible refine rd_cons ?_) | (with_reducible refine rd_call ?_) | (with_reducible refine rd_cb ?_)
  | (with_reducible refine rd_tup ?_) | (with_reducible refine rd_lst ?_) | (with_reducible refine rd_dget ?_) | (with_reducible refine rd_dput ?_) | (with_reducible refine rd_dget2 ?_) | (with_reducible refine rd_sl ?_)
  | (with_reducible refine rd_nopart ?_) | (with_reducible refine rd_part ?_) | (with_reducible refine rd_parti ?_) | (with_reducible refine rd_bm ?_) | (with_reducible refine rd_bm0 ?_)
  | (with_reducible refine rd_int ?_) | (with_reducible refine rd_intb ?_) | (with_reducible refine rd_abs ?_) | (with_reducible refine rd_min2 ?_) | (with_reducible refine rd_max2 ?_))
local macro_rules | `(tactic| walk_at "rds") => `(tactic| repeat (walk_at "rd"))
local macro_rules | `(tactic| walk_at "rq") => `(tactic| first
  | (with_reducible refine rd_seq ?_) | (with_reducible refine rd_asg ?_) | (with_reducible refine rd_ret ?_) | (with_reducible refine rd_next ?_)
  | (with_reducible refine rd_drop ?_) | ((with_reducible refine rd_name (σ' := ?ss) ?hs ?_); (case hs => (dsimp only [List.set]; exact rfl)))
  | ((with_reducible refine rd_var (v := ?vv) ?hv ?_); (case hv => exact rfl)) | (with_reducible refine rd_c ?_) | (with_reducible refine rd_op ?_) | (with_reducible refine rd_un ?_)
  | (with_reducible refine rd_I0 ?_) | (with_reducible refine rd_U ?_) | (with_reducible refine rd_test ?_) | (with_reducible refine rd_B ?_) | (with_reducible refine rd_k ?_)
  | (with_reducible refine rd_not ?_) | (with_reducible refine rd_and ?_) | (with_reducible refine rd_or ?_) | (with_reducible refine rd_ifE ?_)
  | (with_reducible refine rd_par ?_) | ((with_reducible refine rd_par2 (σ' := ?ss) ?hs ?_); (case hs => (dsimp only [List.set]; exact rfl)))
  | (with_reducible refine rd_gsub ?_) | (with_reducible refine rd_andV ?_) | (with_reducible refine rd_orV ?_) | (with_reducible refine rd_notV ?_)
  | (with_reducible refine rd_lc ?_) | (with_reducible refine rd_iTup ?_) | (with_reducible refine rd_iList ?_) | (with_reducible refine rd_iRng1 ?_) | (with_reducible refine rd_iRng2 ?_) | (with_reducible refine rd_iEnumT ?_) | (with_reducible refine rd_iEnum ?_) | (with_reducible refine rd_iZipM ?_) | (with_reducible refine rd_iEnumS ?_) | (with_reducible refine rd_iKeys ?_) | (with_reducible refine rd_din ?_) | (with_reducible refine rd_dnotin ?_)
  | (with_reducible refine rd_yes ?_) | (with_reducible refine rd_true ?_) | (with_reducible refine rd_false ?_) | (with_reducible refine rd_m1 ?_) | (with_reducible refine rd_isS ?_)
  | ((with_reducible refine rd_eq ?hs ?_); (case hs => exact rfl)) | ((with_reducible refine rd_ne ?hs ?_); (case hs => exact rfl))
  | (with_reducible refine rd_listRg ?_) | (with_reducible refine rd_rg2 ?_) | (with_reducible refine rd_rgk ?_)
  | (with_reducible refine rd_dnew ?_) | (with_reducible refine rd_ddel ?_) | (with_reducible refine rd_kw ?_) | (with_reducible refine rd_callS ?_) | (with_reducible refine rd_dc ?_) | (with_reducible refine rd_for ?_) | (with_reducible refine rd_tru ?_) | (with_reducible refine rd_truI ?_)
  | (with_reducible refine rd_nil ?_) | (with_reducible refine rd_cons ?_) | (with_reducible refine rd_call ?_) | (with_reducible refine rd_cb ?_)
  | (with_reducible refine rd_tup ?_) | (with_reducible refine rd_lst ?_) | (with_reducible refine rd_dget ?_) | (with_reducible refine rd_dput ?_) | (with_reducible refine rd_dget2 ?_) | (with_reducible refine rd_sl ?_)
  | (with_reducible refine rd_nopart ?_) | (with_reducible refine rd_part ?_) | (with_reducible refine rd_parti ?_) | (with_reducible refine rd_bm ?_) | (with_reducible refine rd_bm0 ?_)
  | (with_reducible refine rd_int ?_) | (with_reducible refine rd_intb ?_) | (with_reducible refine rd_abs ?_) | (with_reducible refine rd_min2 ?_) | (with_reducible refine rd_max2 ?_))
local macro_rules | `(tactic| walk_at "rqs") => `(tactic| repeat (walk_at "rq"))
local macro_rules | `(tactic| walk_at "rv") => `(tactic| first
  | (with_reducible refine rd_seq ?_) | (with_reducible refine rd_asg ?_) | (with_reducible refine rd_ret ?_) | (with_reducible refine rd_next ?_)
  | (with_reducible refine rd_drop ?_) | ((with_reducible refine rd_name (σ' := ?ss) ?hs ?_); (case hs => (dsimp only [List.set]; exact rfl)))
  | ((with_reducible refine rd_var (v := ?vv) ?hv ?_); (case hv => exact rfl)) | (with_reducible refine rd_c ?_) | (with_reducible refine rd_op ?_) | (with_reducible refine rd_un ?_)
  | (with_reducible refine rd_I0 ?_) | (with_reducible refine rd_U ?_) | (with_reducible refine rd_test ?_) | (with_reducible refine rd_B ?_) | (with_reducible refine rd_k ?_)
  | (with_reducible refine rd_not ?_) | (with_reducible refine rd_and ?_) | (with_reducible refine rd_or ?_)
  | (with_reducible refine rd_par ?_) | ((with_reducible refine rd_par2 (σ' := ?ss) ?hs ?_); (case hs => (dsimp only [List.set]; exact rfl)))
  | (with_reducible refine rd_gsub ?_) | (with_reducible refine rd_andV ?_) | (with_reducible refine rd_orV ?_) | (with_reducible refine rd_notV ?_)
  | (with_reducible refine rd_lc ?_) | (with_reducible refine rd_iTup ?_) | (with_reducible refine rd_iList ?_) | (with_reducible refine rd_iRng1 ?_) | (with_reducible refine rd_iRng2 ?_) | (with_reducible refine rd_iEnumT ?_) | (with_reducible refine rd_iEnum ?_) | (with_reducible refine rd_iZipM ?_) | (with_reducible refine rd_iEnumS ?_) | (with_reducible refine rd_iKeys ?_) | (with_reducible refine rd_din ?_) | (with_reducible refine rd_dnotin ?_)
  | (with_reducible refine rd_yes ?_) | (with_reducible refine rd_true ?_) | (with_reducible refine rd_false ?_) | (with_reducible refine rd_m1 ?_) | (with_reducible refine rd_isS ?_)
  | ((with_reducible refine rd_eq ?hs ?_); (case hs => exact rfl)) | ((with_reducible refine rd_ne ?hs ?_); (case hs => exact rfl))
  | (with_reducible refine rd_listRg ?_) | (with_reducible refine rd_rg2 ?_) | (with_reducible refine rd_rgk ?_)
  | (with_reducible refine rd_dnew ?_) | (with_reducible refine rd_ddel ?_) | (with_reducible refine rd_kw ?_) | (with_reducible refine rd_callS ?_) | (with_reducible refine rd_dc ?_) | (with_reducible refine rd_for ?_) | (with_reducible refine rd_tru ?_) | (with_reducible refine rd_truI ?_)
  | (with_reducible refine rd_nil ?_) | (with_reducible refine rd_cons ?_) | (with_reducible refine rd_call ?_) | (with_reducible refine rd_cb ?_)
  | (with_reducible refine rd_tup ?_) | (with_reducible refine rd_lst ?_) | (with_reducible refine rd_dget ?_) | (with_reducible refine rd_dput ?_) | (with_reducible refine rd_dget2 ?_) | (with_reducible refine rd_sl ?_)
  | (with_reducible refine rd_nopart ?_) | (with_reducible refine rd_part ?_) | (with_reducible refine rd_parti ?_) | (with_reducible refine rd_bm ?_) | (with_reducible refine rd_bm0 ?_)
  | (with_reducible refine rd_int ?_) | (with_reducible refine rd_intb ?_) | (with_reducible refine rd_abs ?_) | (with_reducible refine rd_min2 ?_) | (with_reducible refine rd_max2 ?_))
local macro_rules | `(tactic| walk_at "rvs") => `(tactic| repeat (walk_at "rv"))

section
variable {P : Program} {w : World} {K : PySem.W.Frag} {mg : Str → Option Value} {base : Heap}
def spFree (K : PySem.W.Frag) : Sp := fun vs H Q _ => ∃ (z : Str) (n : Nat), vs = [.str z] ∧ OwnS n z ∧ n ≤ 13 ∧ ∀ f : Nat, f < 2 ^ 2 ^ n → Q (.int (f : Int)) H
theorem ok_free {f : Addr} {fd : FuncData} (F : Fun K "_law_free" "_law_free" s_law_free f fd) (T : Bl mg) : FnOk P w K mg base CX0 1 f fd ["owners"] (spFree K) := by
  refine F.ok sc_law_free (fun vs H Q E h => ?_) (fun cdv A outer s H vs Q E hr h => ?_)
  · obtain ⟨z, n, rfl, _⟩ := h
    rfl
  · obtain ⟨z, n, rfl, hz, hn, q⟩ := h
    refine ⟨_, (pss_cons (ps_set (i := 1) sc_law_free.nd rfl (Or.inl rfl) pe_int)
 (pss_cons (ps_for PassesOwn.never rfl (pi_str (pe_revS (pv 0))) (pg_name (i := 2) sc_law_free.nd rfl (Or.inl rfl)) (pss_one (ps_set (i := 1) sc_law_free.nd rfl (Or.inl rfl) (pe_ifExp (pt_cmpR op_eq (pv 2) pe_str (nomark _)) (pe_op op_mulW pe_int (pv 1)) (pe_op op_mulW (pv 1) (pv 1))))))
 (pss_one (ps_ret (pv 1))))), ?_⟩
    refine rd_start (σ' := [some (.str z), none, none]) rfl ?_
    walk_at "rds"
    refine rd_iStr ?_
    refine rd_revS ?_
    walk_at "rds"
    refine ⟨z, rfl, by rw [hz.1, sizeLine_eq]; omega, revT z, rfl, ?_⟩
    have hl : (revT z).length = n := (revT_length z).trans hz.1
    refine fr_str (fun i σ' H' => ∃ (f : Nat) (x2 : Option V), σ' = [some (.str z), some (.int (f : Int)), x2] ∧ H' = H ∧ f < 2 ^ 2 ^ i) ⟨1, _, rfl, rfl, by decide⟩ (fun i σ' H' c hc hP => ?_) fun σ' H' hP => ?_
    · obtain ⟨f, x2, rfl, rfl, hf⟩ := hP
      have hi : i < n := by
        have := (List.getElem?_eq_some_iff.mp hc).1
        rw [← hl]
        exact this
      have e1 : 2 ^ 2 ^ (i + 1) = 2 ^ 2 ^ i * 2 ^ 2 ^ i := by rw [← Nat.pow_add, Nat.pow_succ]; congr 1; omega
      have h2 : 2 ≤ 2 ^ 2 ^ i := Nat.le_trans (by decide : 2 ≤ 2 ^ 1) (Nat.pow_le_pow_right (by decide) (Nat.one_le_two_pow))
      have hp : 2 ^ i ≤ 2 ^ 13 := Nat.pow_le_pow_right (by decide) (by omega)
      have hp1 : 0 < 2 ^ i := Nat.two_pow_pos i
      have h13 : 2 ^ 13 = 8192 := by decide
      refine rd_start (σ' := [some (.str z), some (.int (f : Int)), some (.str ⟨#[c]⟩)]) rfl ?_
      have ha : ((f : Int)).natAbs < 2 ^ (2 ^ i) := by rw [Int.natAbs_natCast]; exact hf
      walk_at "rds"
      refine rd_ite (fun c1 => ?_) (fun c1 => ?_)
      · walk_at "rds"
        refine rd_I (wide_mul (i := 2) (a := 2) (by decide) ha (by decide) hp1 (by omega)) ?_
        walk_at "rds"
        refine ⟨2 * f, _, by rw [Int.natCast_mul] <;> rfl, rfl, ?_⟩
        rw [e1]
        have := Nat.mul_le_mul_right (2 ^ 2 ^ i) h2
        omega
      · walk_at "rds"
        refine rd_I (wide_mul ha ha hp1 hp1 (by omega)) ?_
        walk_at "rds"
        refine ⟨f * f, _, by rw [Int.natCast_mul], rfl, ?_⟩
        rw [e1]
        exact Nat.mul_lt_mul'' hf hf
    · obtain ⟨f, x2, rfl, rfl, hf⟩ := hP
      rw [hl] at hf
      walk_at "rds"
      exact q f hf
end
end KA
set_option Elab.async false
set_option linter.all false
set_option maxRecDepth 100000
set_option maxHeartbeats 400000
set_option pp.maxSteps 300
namespace KA
open PySem PySem.Spec PyProof.Rows L2 Ea
abbrev scheck_size : Stmt := topS 9
theorem sccheck_size : FnScope ["sentence"] ["sentence"] (defScope scheck_size) :=
  ⟨rfl, rfl, rfl, by decide +kernel, rfl, by decide +kernel, by decide +kernel⟩
abbrev swinner : Stmt := topS 14
theorem scwinner : FnScope ["sentence", "play", "wins"] ["sentence", "play"] (defScope swinner) :=
  ⟨rfl, rfl, rfl, by decide +kernel, rfl, by decide +kernel, by decide +kernel⟩
local macro_rules | `(tactic| walk_at "rd") => `(tactic| first
  | (with_reducible refine rd_seq ?_) | (with_reducible refine rd_asg ?_) | (with_reducible refine rd_if ?_) | (with_reducible refine rd_ret ?_) | (with_reducible refine rd_next ?_)
  | (with_reducible refine rd_drop ?_) | ((with_reducible refine rd_name (σ' := ?ss) ?hs ?_); (case hs => (dsimp only [List.set]; exact rfl)))
  | ((with_reducible refine rd_var (v := ?vv) ?hv ?_); (case hv => exact rfl)) | (with_reducible refine rd_c ?_) | (with_reducible refine rd_op ?_) | (with_reducible refine rd_un ?_)
  | (with_reducible refine rd_I0 ?_) | (with_reducible refine rd_U ?_) | (with_reducible refine rd_test ?_) | (with_reducible refine rd_B ?_) | (with_reducible refine rd_k ?_)
  | (with_reducible refine rd_not ?_) | (with_reducible refine rd_and ?_) | (with_reducible refine rd_or ?_) | (with_reducible refine rd_ifE ?_)
  | (with_reducible refine rd_par ?_) | ((with_reducible refine rd_par2 (σ' := ?ss) ?hs ?_); (case hs => (dsimp only [List.set]; exact rfl)))
  | (with_reducible refine rd_gsub ?_) | (with_reducible refine rd_andV ?_) | (with_reducible refine rd_orV ?_) | (with_reducible refine rd_notV ?_)
  | (with_reducible refine rd_lc ?_) | (with_reducible refine rd_iTup ?_) | (with_reducible refine rd_iList ?_) | (with_reducible refine rd_iRng1 ?_) | (with_reducible refine rd_iRng2 ?_) | (with_reducible refine rd_iEnumT ?_) | (with_reducible refine rd_iEnum ?_) | (with_reducible refine rd_iZipM ?_) | (with_reducible refine rd_iEnumS ?_) | (with_reducible refine rd_iKeys ?_) | (with_reducible refine rd_din ?_) | (with_reducible refine rd_dnotin ?_)
  | (with_reducible refine rd_yes ?_) | (with_reducible refine rd_true ?_) | (with_reducible refine rd_false ?_) | (with_reducible refine rd_m1 ?_) | (with_reducible refine rd_isS ?_)
  | ((with_reducible refine rd_eq ?hs ?_); (case hs => exact rfl)) | ((with_reducible refine rd_ne ?hs ?_); (case hs => exact rfl))
  | (with_reducible refine rd_listRg ?_) | (with_reducible refine rd_rg2 ?_) | (with_reducible refine rd_rgk ?_)
  | (with_reducible refine rd_dnew ?_) | (with_reducible refine rd_ddel ?_) | (with_reducible refine rd_kw ?_) | (with_reducible refine rd_callS ?_) | (with_reducible refine rd_dc ?_) | (with_reducible refine rd_for ?_) | (with_reducible refine rd_tru ?_) | (with_reducible refine rd_truI ?_)
  | (with_reducible refine rd_nil ?_) | (with_reducible refine rd_cons ?_) | (with_reducible refine rd_call ?_) | (with_reducible refine rd_cb ?_)
  | (with_reducible refine rd_tup ?_) | (with_reducible refine rd_lst ?_) | (with_reducible refine rd_dget ?_) | (with_reducible refine rd_dput ?_) | (with_reducible refine rd_dget2 ?_) | (with_reducible refine rd_sl ?_)
  | (with_reducible refine rd_nopart ?_) | (with_reducible refine rd_part ?_) | (with_reducible refine rd_parti ?_) | (with_reducible refine rd_bm ?_) | (with_reducible refine rd_bm0 ?_)
  | (with_reducible refine rd_int ?_) | (with_reducible refine rd_intb ?_) | (with_reducible refine rd_abs ?_) | (with_reducible refine rd_min2 ?_) | (with_reducible refine rd_max2 ?_))
local macro_rules | `(tactic| walk_at "rds") => `(tactic| repeat (walk_at "rd"))
local macro_rules | `(tactic| walk_at "rq") => `(tactic| first
  | (with_reducible refine rd_seq ?_) | (with_reducible refine rd_asg ?_) | (with_reducible refine rd_ret ?_) | (with_reducible refine rd_next ?_)
  | (with_reducible refine rd_drop ?_) | ((with_reducible refine rd_name (σ' := ?ss) ?hs ?_); (case hs => (dsimp only [List.set]; exact rfl)))
  | ((with_reducible refine rd_var (v := ?vv) ?hv ?_); (case hv => exact rfl)) | (with_reducible refine rd_c ?_) | (with_reducible refine rd_op ?_) | (with_reducible refine rd_un ?_)
  | (with_reducible refine rd_I0 ?_) | (with_reducible refine rd_U ?_) | (with_reducible refine rd_test ?_) | (with_reducible refine rd_B ?_) | (with_reducible refine rd_k ?_)
  | (with_reducible refine rd_not ?_) | (with_reducible refine rd_and ?_) | (with_reducible refine rd_or ?_) | (with_reducible refine rd_ifE ?_)
  | (with_reducible refine rd_par ?_) | ((with_reducible refine rd_par2 (σ' := ?ss) ?hs ?_); (case hs => (dsimp only [List.set]; exact rfl)))
  | (with_reducible refine rd_gsub ?_) | (with_reducible refine rd_andV ?_) | (with_reducible refine rd_orV ?_) | (with_reducible refine rd_notV ?_)
  | (with_reducible refine rd_lc ?_) | (with_reducible refine rd_iTup ?_) | (with_reducible refine rd_iList ?_) | (with_reducible refine rd_iRng1 ?_) | (with_reducible refine rd_iRng2 ?_) | (with_reducible refine rd_iEnumT ?_) | (with_reducible refine rd_iEnum ?_) | (with_reducible refine rd_iZipM ?_) | (with_reducible refine rd_iEnumS ?_) | (with_reducible refine rd_iKeys ?_) | (with_reducible refine rd_din ?_) | (with_reducible refine rd_dnotin ?_)
  | (with_reducible refine rd_yes ?_) | (with_reducible refine rd_true ?_) | (with_reducible refine rd_false ?_) | (with_reducible refine rd_m1 ?_) | (with_reducible refine rd_isS ?_)
  | ((with_reducible refine rd_eq ?hs ?_); (case hs => exact rfl)) | ((with_reducible refine rd_ne ?hs ?_); (case hs => exact rfl))
  | (with_reducible refine rd_listRg ?_) | (with_reducible refine rd_rg2 ?_) | (with_reducible refine rd_rgk ?_)
  | (with_reducible refine rd_dnew ?_) | (with_reducible refine rd_ddel ?_) | (with_reducible refine rd_kw ?_) | (with_reducible refine rd_callS ?_) | (with_reducible refine rd_dc ?_) | (with_reducible refine rd_for ?_) | (with_reducible refine rd_tru ?_) | (with_reducible refine rd_truI ?_)
  | (with_reducible refine rd_nil ?_) | (with_reducible refine rd_cons ?_) | (with_reducible refine rd_call ?_) | (with_reducible refine rd_cb ?_)
  | (with_reducible refine rd_tup ?_) | (with_reducible refine rd_lst ?_) | (with_reducible refine rd_dget ?_) | (with_reducible refine rd_dput ?_) | (with_reducible refine rd_dget2 ?_) | (with_reducible refine rd_sl ?_)
  | (with_reducible refine rd_nopart ?_) | (with_reducible refine rd_part ?_) | (with_reducible refine rd_parti ?_) | (with_reducible refine rd_bm ?_) | (with_reducible refine rd_bm0 ?_)
  | (with_reducible refine rd_int ?_) | (with_reducible refine rd_intb ?_) | (with_reducible refine rd_abs ?_) | (with_reducible refine rd_min2 ?_) | (with_reducible refine rd_max2 ?_))
local macro_rules | `(tactic| walk_at "rqs") => `(tactic| repeat (walk_at "rq"))
local macro_rules | `(tactic| walk_at "rv") => `(tactic| first
  | (with_reducible refine rd_seq ?_) | (with_reducible refine rd_asg ?_) | (with_reducible refine rd_ret ?_) | (with_reducible refine rd_next ?_)
  | (with_reducible refine rd_drop ?_) | ((with_reducible refine rd_name (σ' := ?ss) ?hs ?_); (case hs => (dsimp only [List.set]; exact rfl)))
  | ((with_reducible refine rd_var (v := ?vv) ?hv ?_); (case hv => exact rfl)) | (with_reducible refine rd_c ?_) | (with_reducible refine rd_op ?_) | (with_reducible refine rd_un ?_)
  | (with_reducible refine rd_I0 ?_) | (with_reducible refine rd_U ?_) | (with_reducible refine rd_test ?_) | (with_reducible refine rd_B ?_) | (with_reducible refine rd_k ?_)
  | (with_reducible refine rd_not ?_) | (with_reducible refine rd_and ?_) | (with_reducible refine rd_or ?_)
  | (with_reducible refine rd_par ?_) | ((with_reducible refine rd_par2 (σ' := ?ss) ?hs ?_); (case hs => (dsimp only [List.set]; exact rfl)))
  | (with_reducible refine rd_gsub ?_) | (with_reducible refine rd_andV ?_) | (with_reducible refine rd_orV ?_) | (with_reducible refine rd_notV ?_)
  | (with_reducible refine rd_lc ?_) | (with_reducible refine rd_iTup ?_) | (with_reducible refine rd_iList ?_) | (with_reducible refine rd_iRng1 ?_) | (with_reducible refine rd_iRng2 ?_) | (with_reducible refine rd_iEnumT ?_) | (with_reducible refine rd_iEnum ?_) | (with_reducible refine rd_iZipM ?_) | (with_reducible refine rd_iEnumS ?_) | (with_reducible refine rd_iKeys ?_) | (with_reducible refine rd_din ?_) | (with_reducible refine rd_dnotin ?_)
  | (with_reducible refine rd_yes ?_) | (with_reducible refine rd_true ?_) | (with_reducible refine rd_false ?_) | (with_reducible refine rd_m1 ?_) | (with_reducible refine rd_isS ?_)
  | ((with_reducible refine rd_eq ?hs ?_); (case hs => exact rfl)) | ((with_reducible refine rd_ne ?hs ?_); (case hs => exact rfl))
  | (with_reducible refine rd_listRg ?_) | (with_reducible refine rd_rg2 ?_) | (with_reducible refine rd_rgk ?_)
  | (with_reducible refine rd_dnew ?_) | (with_reducible refine rd_ddel ?_) | (with_reducible refine rd_kw ?_) | (with_reducible refine rd_callS ?_) | (with_reducible refine rd_dc ?_) | (with_reducible refine rd_for ?_) | (with_reducible refine rd_tru ?_) | (with_reducible refine rd_truI ?_)
  | (with_reducible refine rd_nil ?_) | (with_reducible refine rd_cons ?_) | (with_reducible refine rd_call ?_) | (with_reducible refine rd_cb ?_)
  | (with_reducible refine rd_tup ?_) | (with_reducible refine rd_lst ?_) | (with_reducible refine rd_dget ?_) | (with_reducible refine rd_dput ?_) | (with_reducible refine rd_dget2 ?_) | (with_reducible refine rd_sl ?_)
  | (with_reducible refine rd_nopart ?_) | (with_reducible refine rd_part ?_) | (with_reducible refine rd_parti ?_) | (with_reducible refine rd_bm ?_) | (with_reducible refine rd_bm0 ?_)
  | (with_reducible refine rd_int ?_) | (with_reducible refine rd_intb ?_) | (with_reducible refine rd_abs ?_) | (with_reducible refine rd_min2 ?_) | (with_reducible refine rd_max2 ?_))
local macro_rules | `(tactic| walk_at "rvs") => `(tactic| repeat (walk_at "rv"))

/-- TooMany -/
structure TooC (K : PySem.W.Frag) (mg : Str → Option Value) (C fI : Addr) (fdI : FuncData) : Prop where
  T : OexC K C
  iC : PySem.W.findIn K (.ref C) "__init__" = some (some (.ref fI))
  tI : PySem.W.typeIn K (.ref fI) = some (.type "function")
  m : mg "TooMany" = some (.ref C)
  b : Binds K fdI ["self", "limit"] []
/-- what is let out where there are too many -/
def OutM (C : Addr) (H : Hp) (E : XK) : Prop := ∀ (dd : Addr) (H' : Hp), Evl.Ex H H' → H dd = none → H' dd = some (.xd [("limit", .int 12)]) → E (.ref C) (some dd) H'
theorem OutM.ex {C : Addr} {H H1 : Hp} {E : XK} (e : Evl.Ex H H1) (h : OutM C H E) : OutM C H1 E := fun dd H' e' hd hx => h dd H' (e.trans e') (by
  cases q : H dd with
  | none => rfl
  | some o =>
    rw [e _ _ q] at hd
    cases hd) hx
section
variable {P : Program} {w : World} {K : PySem.W.Frag} {mg : Str → Option Value} {base : Heap}
def spSize (K : PySem.W.Frag) (C : Addr) : Sp := fun vs H Q E => ∃ (a c : Addr) (z : Str) (n : Nat), vs = [.ref a] ∧ SqT K H a [.str z, .ref c] ∧ OwnS n z ∧ n ≤ 60 ∧ (n ≤ 12 → Q .non H) ∧ (12 < n → OutM C H E)
theorem ok_size {f C fI : Addr} {fd fdI : FuncData} (F : Fun K "check_size" "check_size" scheck_size f fd) (T : Bl mg) (OTooMany : TooC K mg C fI fdI)
    (OITooMany : FnOk P w K mg base CX0 1 fI fdI ["self", "limit"] (spSup C "limit")) (mMS : ∃ u, mg "MAX_SEARCH" = some u ∧ RelV (.int 12) u) :
    FnOk P w K mg base (L2.CX P w) 3 f fd ["sentence"] (spSize K C) := by
  refine F.okX sccheck_size (fun vs H Q E h => ?_) (fun cdv A outer s H vs Q E hr h => ?_)
  · obtain ⟨a, c, z, n, rfl, _⟩ := h
    rfl
  · obtain ⟨a, c, z, n, rfl, ha, hz, hn, q1, q2⟩ := h
    refine ⟨_, (pss_one (ps_if (pt_cmpR op_gt (pe_callB c_lenS (by rfl) T.len (by decide +kernel) (pa_cons (pe_ix (ik_tup (K := K) rfl) (pv 0) pe_int (fun _ _ => rfl)) pa_nil)) (C8.pe_gc (v := .int 12) (by rfl) mMS) (nomark _)) (pss_one (ps_raise rfl (takes_of rfl rfl rfl rfl) (pmk_oex OTooMany.T OTooMany.iC OTooMany.tI OITooMany (hr.mono (by decide)) OTooMany.b .nil pass0 (by rfl) OTooMany.m (pa_cons (C8.pe_gc (v := .int 12) (by rfl) mMS) pa_nil)))) pss_nil)), ?_⟩
    refine rd_start (σ' := [some (.ref a)]) rfl ?_
    walk_at "rds"
    refine rd_ixT ha rfl ?_
    walk_at "rds"
    refine rd_lenS (by rw [hz.1, sizeLine_eq]; omega) ?_
    rw [hz.1]
    walk_at "rds"
    refine rd_ite (fun c => ?_) (fun c => ?_)
    · walk_at "rds"
      show tMkO C (spSup C "limit") [] _ _ _ _
      unfold tMkO
      walk_at "rds"
      refine ⟨by show 1 ≤ 1000; decide, fun e he => ?_⟩
      refine ⟨e, .int 12, rfl, upd_same, fun dx hdx hne => ⟨rfl, dx, [("limit", .int 12)], upd_same, (upd_ne hne).trans upd_same, ?_, ?_⟩⟩
      · rw [upd_ne hne] at hdx
        exact hdx
      · rw [upd_ne hne] at hdx
        refine q2 (by omega) dx _ (fun b o q => ?_) hdx upd_same
        have b1 : b ≠ dx := ne_of_none q hdx
        have b2 : b ≠ e := ne_of_none q he
        rw [upd_ne b1, del_ne b2, upd_ne b2, upd_ne b1, upd_ne b2]
        exact q
    · walk_at "rds"
      exact q1 (by omega)
end
end KA
set_option Elab.async false
set_option linter.all false
set_option maxRecDepth 100000
set_option maxHeartbeats 400000
set_option pp.maxSteps 300
namespace KA
open PySem PySem.Spec PyProof.Rows L2 Ea
abbrev s_law_ends : Stmt := topS 22
theorem sc_law_ends : FnScope ["owners", "rows", "play", "left", "row", "rest", "at", "one", "two", "x"] ["owners", "rows", "play"] (defScope s_law_ends) :=
  ⟨rfl, rfl, rfl, by decide +kernel, rfl, by decide +kernel, by decide +kernel⟩
local macro_rules | `(tactic| walk_at "rd") => `(tactic| first
  | (with_reducible refine rd_seq ?_) | (with_reducible refine rd_asg ?_) | (with_reducible refine rd_if ?_) | (with_reducible refine rd_ret ?_) | (with_reducible refine rd_next ?_)
  | (with_reducible refine rd_drop ?_) | ((with_reducible refine rd_name (σ' := ?ss) ?hs ?_); (case hs => (dsimp only [List.set]; exact rfl)))
  | ((with_reducible refine rd_var (v := ?vv) ?hv ?_); (case hv => exact rfl)) | (with_reducible refine rd_c ?_) | (with_reducible refine rd_op ?_) | (with_reducible refine rd_un ?_)
  | (with_reducible refine rd_I0 ?_) | (with_reducible refine rd_U ?_) | (with_reducible refine rd_test ?_) | (with_reducible refine rd_B ?_) | (with_reducible refine rd_k ?_)
  | (with_reducible refine rd_not ?_) | (with_reducible refine rd_and ?_) | (with_reducible refine rd_or ?_) | (with_reducible refine rd_ifE ?_)
  | (with_reducible refine rd_par ?_) | ((with_reducible refine rd_par2 (σ' := ?ss) ?hs ?_); (case hs => (dsimp only [List.set]; exact rfl)))
  | (with_reducible refine rd_gsub ?_) | (with_reducible refine rd_andV ?_) | (with_reducible refine rd_orV ?_) | (with_reducible refine rd_notV ?_)
  | (with_reducible refine rd_lc ?_) | (with_reducible refine rd_iTup ?_) | (with_reducible refine rd_iList ?_) | (with_reducible refine rd_iRng1 ?_) | (with_reducible refine rd_iRng2 ?_) | (with_reducible refine rd_iEnumT ?_) | (with_reducible refine rd_iEnum ?_) | (with_reducible refine rd_iZipM ?_) | (with_reducible refine rd_iEnumS ?_) | (with_reducible refine rd_iKeys ?_) | (with_reducible refine rd_din ?_) | (with_reducible refine rd_dnotin ?_)
  | (with_reducible refine rd_yes ?_) | (with_reducible refine rd_true ?_) | (with_reducible refine rd_false ?_) | (with_reducible refine rd_m1 ?_) | (with_reducible refine rd_isS ?_)
  | ((with_reducible refine rd_eq ?hs ?_); (case hs => exact rfl)) | ((with_reducible refine rd_ne ?hs ?_); (case hs => exact rfl))
  | (with_reducible refine rd_listRg ?_) | (with_reducible refine rd_rg2 ?_) | (with_reducible refine rd_rgk ?_)
  | (with_reducible refine rd_dnew ?_) | (with_reducible refine rd_ddel ?_) | (with_reducible refine rd_kw ?_) | (with_reducible refine rd_callS ?_) | (with_reducible refine rd_dc ?_) | (with_reducible refine rd_for ?_) | (with_reducible refine rd_tru ?_) | (with_reducible refine rd_truI ?_)
  | (with_reducible refine rd_nil ?_) | (with_reducible refine rd_cons ?_) | (with_reducible refine rd_call ?_) | (with_reducible refine rd_cb ?_)
  | (with_reducible refine rd_tup ?_) | (with_reducible refine rd_lst ?_) | (with_reducible refine rd_dget ?_) | (with_reducible refine rd_dput ?_) | (with_reducible refine rd_dget2 ?_) | (with_reducible refine rd_sl ?_)
  | (with_reducible refine rd_nopart ?_) | (with_reducible refine rd_part ?_) | (with_reducible refine rd_parti ?_) | (with_reducible refine rd_bm ?_) | (with_reducible refine rd_bm0 ?_)
  | (with_reducible refine rd_int ?_) | (with_reducible refine rd_intb ?_) | (with_reducible refine rd_abs ?_) | (with_reducible refine rd_min2 ?_) | (with_reducible refine rd_max2 ?_))
local macro_rules | `(tactic| walk_at "rds") => `(tactic| repeat (walk_at "rd"))
local macro_rules | `(tactic| walk_at "rq") => `(tactic| first
  | (with_reducible refine rd_seq ?_) | (with_reducible refine rd_asg ?_) | (with_reducible refine rd_ret ?_) | (with_reducible refine rd_next ?_)
  | (with_reducible refine rd_drop ?_) | ((with_reducible refine rd_name (σ' := ?ss) ?hs ?_); (case hs => (dsimp only [List.set]; exact rfl)))
  | ((with_reducible refine rd_var (v := ?vv) ?hv ?_); (case hv => exact rfl)) | (with_reducible refine rd_c ?_) | (with_reducible refine rd_op ?_) | (with_reducible refine rd_un ?_)
  | (with_reducible refine rd_I0 ?_) | (with_reducible refine rd_U ?_) | (with_reducible refine rd_test ?_) | (with_reducible refine rd_B ?_) | (with_reducible refine rd_k ?_)
  | (with_reducible refine rd_not ?_) | (with_reducible refine rd_and ?_) | (with_reducible refine rd_or ?_) | (with_reducible refine rd_ifE ?_)
  | (with_reducible refine rd_par ?_) | ((with_reducible refine rd_par2 (σ' := ?ss) ?hs ?_); (case hs => (dsimp only [List.set]; exact rfl)))
  | (with_reducible refine rd_gsub ?_) | (with_reducible refine rd_andV ?_) | (with_reducible refine rd_orV ?_) | (with_reducible refine rd_notV ?_)
  | (with_reducible refine rd_lc ?_) | (with_reducible refine rd_iTup ?_) | (with_reducible refine rd_iList ?_) | (with_reducible refine rd_iRng1 ?_) | (with_reducible refine rd_iRng2 ?_) | (with_reducible refine rd_iEnumT ?_) | (with_reducible refine rd_iEnum ?_) | (with_reducible refine rd_iZipM ?_) | (with_reducible refine rd_iEnumS ?_) | (with_reducible refine rd_iKeys ?_) | (with_reducible refine rd_din ?_) | (with_reducible refine rd_dnotin ?_)
  | (with_reducible refine rd_yes ?_) | (with_reducible refine rd_true ?_) | (with_reducible refine rd_false ?_) | (with_reducible refine rd_m1 ?_) | (with_reducible refine rd_isS ?_)
  | ((with_reducible refine rd_eq ?hs ?_); (case hs => exact rfl)) | ((with_reducible refine rd_ne ?hs ?_); (case hs => exact rfl))
  | (with_reducible refine rd_listRg ?_) | (with_reducible refine rd_rg2 ?_) | (with_reducible refine rd_rgk ?_)
  | (with_reducible refine rd_dnew ?_) | (with_reducible refine rd_ddel ?_) | (with_reducible refine rd_kw ?_) | (with_reducible refine rd_callS ?_) | (with_reducible refine rd_dc ?_) | (with_reducible refine rd_for ?_) | (with_reducible refine rd_tru ?_) | (with_reducible refine rd_truI ?_)
  | (with_reducible refine rd_nil ?_) | (with_reducible refine rd_cons ?_) | (with_reducible refine rd_call ?_) | (with_reducible refine rd_cb ?_)
  | (with_reducible refine rd_tup ?_) | (with_reducible refine rd_lst ?_) | (with_reducible refine rd_dget ?_) | (with_reducible refine rd_dput ?_) | (with_reducible refine rd_dget2 ?_) | (with_reducible refine rd_sl ?_)
  | (with_reducible refine rd_nopart ?_) | (with_reducible refine rd_part ?_) | (with_reducible refine rd_parti ?_) | (with_reducible refine rd_bm ?_) | (with_reducible refine rd_bm0 ?_)
  | (with_reducible refine rd_int ?_) | (with_reducible refine rd_intb ?_) | (with_reducible refine rd_abs ?_) | (with_reducible refine rd_min2 ?_) | (with_reducible refine rd_max2 ?_))
local macro_rules | `(tactic| walk_at "rqs") => `(tactic| repeat (walk_at "rq"))
local macro_rules | `(tactic| walk_at "rv") => `(tactic| first
  | (with_reducible refine rd_seq ?_) | (with_reducible refine rd_asg ?_) | (with_reducible refine rd_ret ?_) | (with_reducible refine rd_next ?_)
  | (with_reducible refine rd_drop ?_) | ((with_reducible refine rd_name (σ' := ?ss) ?hs ?_); (case hs => (dsimp only [List.set]; exact rfl)))
  | ((with_reducible refine rd_var (v := ?vv) ?hv ?_); (case hv => exact rfl)) | (with_reducible refine rd_c ?_) | (with_reducible refine rd_op ?_) | (with_reducible refine rd_un ?_)
  | (with_reducible refine rd_I0 ?_) | (with_reducible refine rd_U ?_) | (with_reducible refine rd_test ?_) | (with_reducible refine rd_B ?_) | (with_reducible refine rd_k ?_)
  | (with_reducible refine rd_not ?_) | (with_reducible refine rd_and ?_) | (with_reducible refine rd_or ?_)
  | (with_reducible refine rd_par ?_) | ((with_reducible refine rd_par2 (σ' := ?ss) ?hs ?_); (case hs => (dsimp only [List.set]; exact rfl)))
  | (with_reducible refine rd_gsub ?_) | (with_reducible refine rd_andV ?_) | (with_reducible refine rd_orV ?_) | (with_reducible refine rd_notV ?_)
  | (with_reducible refine rd_lc ?_) | (with_reducible refine rd_iTup ?_) | (with_reducible refine rd_iList ?_) | (with_reducible refine rd_iRng1 ?_) | (with_reducible refine rd_iRng2 ?_) | (with_reducible refine rd_iEnumT ?_) | (with_reducible refine rd_iEnum ?_) | (with_reducible refine rd_iZipM ?_) | (with_reducible refine rd_iEnumS ?_) | (with_reducible refine rd_iKeys ?_) | (with_reducible refine rd_din ?_) | (with_reducible refine rd_dnotin ?_)
  | (with_reducible refine rd_yes ?_) | (with_reducible refine rd_true ?_) | (with_reducible refine rd_false ?_) | (with_reducible refine rd_m1 ?_) | (with_reducible refine rd_isS ?_)
  | ((with_reducible refine rd_eq ?hs ?_); (case hs => exact rfl)) | ((with_reducible refine rd_ne ?hs ?_); (case hs => exact rfl))
  | (with_reducible refine rd_listRg ?_) | (with_reducible refine rd_rg2 ?_) | (with_reducible refine rd_rgk ?_)
  | (with_reducible refine rd_dnew ?_) | (with_reducible refine rd_ddel ?_) | (with_reducible refine rd_kw ?_) | (with_reducible refine rd_callS ?_) | (with_reducible refine rd_dc ?_) | (with_reducible refine rd_for ?_) | (with_reducible refine rd_tru ?_) | (with_reducible refine rd_truI ?_)
  | (with_reducible refine rd_nil ?_) | (with_reducible refine rd_cons ?_) | (with_reducible refine rd_call ?_) | (with_reducible refine rd_cb ?_)
  | (with_reducible refine rd_tup ?_) | (with_reducible refine rd_lst ?_) | (with_reducible refine rd_dget ?_) | (with_reducible refine rd_dput ?_) | (with_reducible refine rd_dget2 ?_) | (with_reducible refine rd_sl ?_)
  | (with_reducible refine rd_nopart ?_) | (with_reducible refine rd_part ?_) | (with_reducible refine rd_parti ?_) | (with_reducible refine rd_bm ?_) | (with_reducible refine rd_bm0 ?_)
  | (with_reducible refine rd_int ?_) | (with_reducible refine rd_intb ?_) | (with_reducible refine rd_abs ?_) | (with_reducible refine rd_min2 ?_) | (with_reducible refine rd_max2 ?_))
local macro_rules | `(tactic| walk_at "rvs") => `(tactic| repeat (walk_at "rv"))

theorem rd_unl2 {K : PySem.W.Frag} {σ σ' : L2.St} {H : Hp} {p : Addr} {x y : V} {n i j : Nat} {N : L2.St → Hp → Prop} (s : SqL K H p [x, y]) (hn : n = 2) (hs : (σ.set i (some x)).set j (some y) = σ') (h : N σ' H) :
    gUnl K n (gCons (gName i) (gCons (gName j) gNil)) (.ref p) σ H N := ⟨p, [x, y], rfl, s, hn.symm, x, [y], rfl, y, [], rfl, rfl, by subst hs; exact h⟩
/-- what is asked of rows behind a play -/
def askedF (p : List Int) (rs : List (List Int)) : List (List Int) := (rs.filter fun r => !r.any (trueIn p)).map fun r => r.filter (openIn p)
/-- a play: the letters from 1 on -/
def PlayOk (p : List Int) : Prop := ∀ i x, p[i]? = some x → x.natAbs = i + 1
theorem PlayOk.take {p : List Int} (h : PlayOk p) (k : Nat) : PlayOk (p.take k) := fun i x e => by
  rw [List.getElem?_take] at e
  split at e
  · exact h i x e
  · cases e
theorem PlayOk.mem {p : List Int} (h : PlayOk p) {x : Int} (h1 : 1 ≤ x.natAbs) : decide (x ∈ p) = trueIn p x := by
  unfold trueIn
  by_cases c : x ∈ p
  · obtain ⟨i, hi⟩ := List.mem_iff_getElem?.mp c
    have e := h i x hi
    have hl := (List.getElem?_eq_some_iff.mp hi).1
    rw [decide_eq_true c, decide_eq_true (by omega), List.getD_eq_getElem?_getD, show x.natAbs - 1 = i by omega, hi]
    exact (decide_eq_true rfl).symm
  · rw [decide_eq_false c]
    by_cases c2 : x.natAbs ≤ p.length
    · rw [decide_eq_true c2, Bool.true_and]
      refine (decide_eq_false fun e => c ?_).symm
      rw [List.getD_eq_getElem?_getD, List.getElem?_eq_getElem (by omega), Option.getD_some] at e
      exact e ▸ List.getElem_mem _
    · rw [decide_eq_false c2, Bool.false_and]
theorem PlayOk.neg {p : List Int} (h : PlayOk p) {x : Int} (h1 : 1 ≤ x.natAbs) (hx : trueIn p x = false) : decide (-x ∈ p) = !openIn p x := by
  rw [h.mem (x := -x) (by rw [Int.natAbs_neg]; exact h1)]
  unfold trueIn openIn at *
  rw [Int.natAbs_neg]
  by_cases c : x.natAbs ≤ p.length
  · rw [decide_eq_true c, Bool.true_and] at hx ⊢
    have e0 : p.getD (x.natAbs - 1) 0 ≠ x := of_decide_eq_false hx
    have e1 : (p.getD (x.natAbs - 1) 0).natAbs = x.natAbs := by
      have := h (x.natAbs - 1) (p.getD (x.natAbs - 1) 0) (by rw [List.getD_eq_getElem?_getD, List.getElem?_eq_getElem (by omega)]; rfl)
      omega
    rw [decide_eq_true (by omega), decide_eq_false (p := p.length < x.natAbs) (by omega)] <;> rfl
  · rw [decide_eq_false c, Bool.false_and, decide_eq_true (p := p.length < x.natAbs) (by omega)] <;> rfl
theorem PlayOk.snoc {p : List Int} (h : PlayOk p) {x : Int} (e : x.natAbs = p.length + 1) : PlayOk (p ++ [x]) := fun i y hi => by
  rw [List.getElem?_append] at hi
  split at hi
  · exact h i y hi
  · next c =>
    have : i - p.length = 0 := by
      by_cases z : i - p.length = 0
      · exact z
      · rw [List.getElem?_eq_none (by show 1 ≤ i - p.length; omega)] at hi
        cases hi
    rw [this] at hi
    obtain rfl : x = y := Option.some.inj hi
    omega
theorem filter_none {α : Type} {f : α → Bool} {l : List α} : (l.filter f).isEmpty = !l.any f := by
  induction l with
  | nil => rfl
  | cons x t ih =>
    rw [List.filter_cons, List.any_cons]
    cases f x with
    | true => rfl
    | false =>
      rw [if_neg (by decide), ih, Bool.false_or]
theorem own_drop {z : Str} {k n : Nat} (h : OwnS n z) (hk : k ≤ n) : OwnS (n - k) (cutS z (some (k : Int)) none) := by
  have e1 : HT.sIx z.length 0 (some (k : Int)) = min k z.length := HT.sIx_nat _ _ _
  have e2 : HT.sIx z.length z.length none = z.length := HT.sIx_none _ _
  have e4 : z.length = n := h.1
  have e3 : z.cps.toList.length = n := h.1
  refine ⟨?_, fun c hc => h.2 c ?_⟩
  · show (cutS z (some (k : Int)) none).cps.size = n - k
    unfold cutS
    rw [e1, e2, List.size_toArray, List.length_take, List.length_drop, e3, e4]
    omega
  · unfold cutS at hc
    rw [List.toList_toArray] at hc
    exact List.mem_of_mem_drop (List.mem_of_mem_take hc)
theorem askedF_row {n : Nat} {p : List Int} {rs : List (List Int)} (h : ∀ r ∈ rs, Row n r) : ∀ r ∈ askedF p rs, Row n r := fun r hr => by
  obtain ⟨s, hs, rfl⟩ := List.mem_map.mp hr
  exact (h s (List.mem_filter.mp hs).1).sub List.filter_sublist
theorem askedF_from {n : Nat} {p : List Int} {rs : List (List Int)} (h : ∀ r ∈ rs, Row n r) : From n ((p.length : Int) + 1) (askedF p rs) := fun r hr => by
  obtain ⟨s, hs, rfl⟩ := List.mem_map.mp hr
  have hrow := h s (List.mem_filter.mp hs).1
  refine ⟨hrow.1.sublist List.filter_sublist, fun x hx => ?_⟩
  obtain ⟨h1, h2⟩ := List.mem_filter.mp hx
  have h2 : p.length < x.natAbs := of_decide_eq_true h2
  exact ⟨by omega, (hrow.2 x h1).2⟩
theorem askedF_len (p : List Int) (rs : List (List Int)) : (askedF p rs).length ≤ rs.length := by
  unfold askedF
  rw [List.length_map]
  exact List.length_filter_le _ _
/-- one letter more -/
theorem askedF_snoc {n : Nat} {p : List Int} {lit : Int} {rs : List (List Int)} (hl : lit.natAbs = p.length + 1) (h : From n ((p.length : Int) + 1) rs) (hne : [] ∉ rs) : askedF (p ++ [lit]) rs = beh lit rs := by
  have t1 : ∀ x : Int, p.length + 1 ≤ x.natAbs → trueIn (p ++ [lit]) x = decide (x = lit) := fun x hx => by
    unfold trueIn
    rw [List.length_append, List.length_singleton]
    by_cases c : x.natAbs = p.length + 1
    · rw [decide_eq_true (by omega), Bool.true_and, List.getD_eq_getElem?_getD, c, List.getElem?_append_right (by omega)]
      have : p.length + 1 - 1 - p.length = 0 := by omega
      rw [this]
      exact decide_eq_decide.mpr ⟨fun e => e.symm, fun e => e.symm⟩
    · rw [decide_eq_false (by omega), Bool.false_and]
      exact (decide_eq_false fun e => c (by rw [e]; exact hl)).symm
  have o1 : ∀ x : Int, openIn (p ++ [lit]) x = decide (p.length + 1 < x.natAbs) := fun x => by
    unfold openIn
    rw [List.length_append, List.length_singleton]
  unfold askedF beh
  have hmap : ∀ r ∈ rs, (!r.any (trueIn (p ++ [lit]))) = nextF lit r ∧ (nextF lit r = true → r.filter (openIn (p ++ [lit])) = nextG lit r) := fun r hr => by
    obtain ⟨hp, hx⟩ := h r hr
    cases r with
    | nil => exact absurd hr hne
    | cons y t =>
      have hy := hx y List.mem_cons_self
      have ht : ∀ x ∈ t, p.length + 1 < x.natAbs := fun x hm => by
        have := (List.pairwise_cons.mp hp).1 x hm
        omega
      have a1 : (y :: t).any (trueIn (p ++ [lit])) = decide (y = lit) := by
        rw [List.any_cons, t1 y (by omega)]
        have : t.any (trueIn (p ++ [lit])) = false := List.any_eq_false.mpr fun x hm => by
          rw [t1 x (by have := ht x hm; omega), decide_eq_true_eq]
          intro e
          have := ht x hm
          rw [e] at this
          omega
        rw [this, Bool.or_false]
      refine ⟨?_, fun hn => ?_⟩
      · rw [a1] <;> rfl
      · have hn : (!decide (y = lit)) = true := hn
        have hyl : y ≠ lit := by simpa using hn
        have ft : t.filter (openIn (p ++ [lit])) = t := List.filter_eq_self.mpr fun x hm => by
          rw [o1]
          exact decide_eq_true (ht x hm)
        show (y :: t).filter (openIn (p ++ [lit])) = if y = -lit then t else y :: t
        rw [List.filter_cons, o1, ft]
        by_cases c : y = -lit
        · rw [if_pos c, if_neg (by rw [decide_eq_true_eq, c, Int.natAbs_neg]; omega)]
        · have : p.length + 1 < y.natAbs := by
            have h1 := hy.1
            by_cases z : y.natAbs = p.length + 1
            · exfalso
              have : y.natAbs = lit.natAbs := by omega
              rcases Int.natAbs_eq_natAbs_iff.mp this with e | e
              · exact hyl e
              · exact c e
            · omega
          rw [if_neg c, if_pos (decide_eq_true this)]
  rw [List.filter_congr fun r hr => (hmap r hr).1]
  exact List.map_congr_left fun r hr => (hmap r (List.mem_filter.mp hr).1).2 (List.mem_filter.mp hr).2
def whoT (b : Bool) : Str := if b = true then "some" else "each"
theorem inV_who (b1 b2 : Bool) : inV (.str (Str.ofString "some")) [.str (whoT b1), .str (whoT b2)] = (b1 || b2) := by
  cases b1 <;> cases b2 <;> decide +kernel
theorem who_ne : ¬ V.str (whoT true) = V.str (whoT false) := by decide
theorem who_lit {b : Bool} {σ : L2.St} {H : Hp} {Q : VK} (h : Q (.str (whoT b)) H) : if b = true then tC (.str (Str.ofString "some")) σ H Q else tC (.str (Str.ofString "each")) σ H Q := by
  cases b <;> exact h
theorem cnt_add {a b m : Nat} (ha : a < 2 ^ 2 ^ m) (hb : b < 2 ^ 2 ^ m) : a + b < 2 ^ 2 ^ (m + 1) := by
  have e1 : 2 ^ 2 ^ (m + 1) = 2 ^ 2 ^ m * 2 ^ 2 ^ m := by rw [← Nat.pow_add, Nat.pow_succ]; congr 1; omega
  have h2 : 2 ≤ 2 ^ 2 ^ m := Nat.le_trans (by decide : 2 ≤ 2 ^ 1) (Nat.pow_le_pow_right (by decide) (Nat.one_le_two_pow))
  have := Nat.mul_le_mul_right (2 ^ 2 ^ m) h2
  omega
theorem cnt_mul {a b m : Nat} (ha : a < 2 ^ 2 ^ m) (hb : b < 2 ^ 2 ^ m) : a * b < 2 ^ 2 ^ (m + 1) := by
  have e1 : 2 ^ 2 ^ (m + 1) = 2 ^ 2 ^ m * 2 ^ 2 ^ m := by rw [← Nat.pow_add, Nat.pow_succ]; congr 1; omega
  rw [e1]
  exact Nat.mul_lt_mul'' ha hb
section
variable {P : Program} {w : World} {K : PySem.W.Frag} {mg : Str → Option Value} {base : Heap}
/-- what is told of a play: who wins, how many ways -/
def EndT (K : PySem.W.Frag) (H : Hp) (n : Nat) (z : Str) (p : List Int) (rs : List (List Int)) (v : V) : Prop :=
  ∃ (q : Addr) (cnt : Nat), v = .ref q ∧ cnt < 2 ^ 2 ^ (n - p.length) ∧ SqT K H q [.str (whoT (winR z (n - p.length) ((p.length : Int) + 1) (askedF p rs))), .int (cnt : Int)]
theorem EndT.ex {H H' : Hp} {n : Nat} {z : Str} {p : List Int} {rs : List (List Int)} {v : V} (e : Evl.Ex H H') (h : EndT K H n z p rs v) : EndT K H' n z p rs v := by
  obtain ⟨q, cnt, h1, h2, h3⟩ := h
  exact ⟨q, cnt, h1, h2, Evl.ex_t e h3⟩
def spEndsL (K : PySem.W.Frag) (M : Nat) : Sp := fun vs H Q _ => ∃ (z : Str) (a b : Addr) (n : Nat) (xs : List V) (rs : List (List Int)) (p : List Int), vs = [.str z, .ref a, .ref b] ∧ OwnS n z ∧ n ≤ 12 ∧ SqL K H a xs ∧ DpAll K H xs (rs.map dR) ∧ (∀ r ∈ rs, Row n r) ∧ rs.length ≤ 1000 ∧
  SqT K H b (p.map V.int) ∧ PlayOk p ∧ p.length ≤ n ∧ n - p.length < M ∧ ∀ (v : V) (H' : Hp), Evl.Ex H H' → EndT K H' n z p rs v → Q v H'
def spEndsT (K : PySem.W.Frag) (M : Nat) : Sp := fun vs H Q _ => ∃ (z : Str) (a b : Addr) (n : Nat) (xs : List V) (rs : List (List Int)) (p : List Int), vs = [.str z, .ref a, .ref b] ∧ OwnS n z ∧ n ≤ 12 ∧ SqT K H a xs ∧ DpAll K H xs (rs.map dR) ∧ (∀ r ∈ rs, Row n r) ∧ rs.length ≤ 1000 ∧
  SqT K H b (p.map V.int) ∧ PlayOk p ∧ p.length ≤ n ∧ n - p.length < M ∧ ∀ (v : V) (H' : Hp), Evl.Ex H H' → EndT K H' n z p rs v → Q v H'
theorem ok_ends1 {f fF : Addr} {fd fdF : FuncData} (F : Fun K "_law_ends" "_law_ends" s_law_ends f fd) (T : Bl mg) {M k : Nat} (hk : 1 ≤ k)
    (G_law_free : FnOk P w K mg base CX0 1 fF fdF ["owners"] (spFree K)) (C_law_free : Callee K mg "_law_free" fF fdF ["owners"])
    (G_law_ends : FnOk P w K mg base CX0 k f fd ["owners", "rows", "play"] (spEndsL K M)) (C_law_ends : Callee K mg "_law_ends" f fd ["owners", "rows", "play"]) :
    FnOk P w K mg base CX0 (k + 1) f fd ["owners", "rows", "play"] (spEndsL K (M + 1)) := by
  refine F.ok sc_law_ends (fun vs H Q E h => ?_) (fun cdv A outer s H vs Q E hr h => ?_)
  · obtain ⟨z, a, b, n, xs, rs, p, rfl, _⟩ := h
    rfl
  · obtain ⟨z, a, b, n, xs, rs, p, rfl, hz, hn, ha, hd, hrow, hl, hb, hp, pl, hM, q⟩ := h
    have hr1 : Room k (A.deeper (envOfC (Str.ofString "_law_ends") (defScope s_law_ends) s.heap.objs.size f cdv)) := hr
    have hr0 : Room 1 (A.deeper (envOfC (Str.ofString "_law_ends") (defScope s_law_ends) s.heap.objs.size f cdv)) := hr.mono hk
    refine ⟨_, (pss_cons (ps_set (i := 3) sc_law_ends.nd rfl (Or.inr rfl) (pe_lst pa_nil))
 (pss_cons (ps_for PassesOwn.never rfl (ik_listI (K := K) rfl (pv 1)) (pg_name (i := 4) sc_law_ends.nd rfl (Or.inl rfl)) (pss_one (ps_if (pt_cmpR (ok_eqD (K := K) rfl hr.units) (pe_lc (own := [("x", 9)]) (g := gName 9) rfl sc_law_ends.nd (ik_tupI (K := K) rfl (pv 4)) (blkOk_by (own := [("x", 9)]) (N := ["owners", "rows", "play", "left", "row", "rest", "at", "one", "two", "x"]) (sc := defScope s_law_ends) (by decide +kernel)) (fun _ _ _ _ _ => (pg_name (i := 9) sc_law_ends.nd rfl (Or.inl rfl))) (fun _ _ _ _ _ => (pts_one (pt_cmpR (ok_in (K := K) rfl) (pv 9) (pv 2) (by rfl)))) (fun _ _ _ _ _ => (pv 9))) (pe_lst pa_nil) (nomark _)) (pss_cons (ps_setLc (i := 5) (own := [("x", 9)]) (g := gName 9) rfl sc_law_ends.nd rfl rfl (sw_true rfl rfl rfl (by decide +kernel)) (ik_tupI (K := K) rfl (pv 4)) (blkOk_by (own := [("x", 9)]) (N := ["owners", "rows", "play", "left", "row", "rest", "at", "one", "two", "x"]) (sc := defScope s_law_ends) (by decide +kernel)) (fun _ _ _ _ _ => (pg_name (i := 9) sc_law_ends.nd rfl (Or.inl rfl))) (fun _ _ _ _ _ => (pts_one (pt_cmpR (ok_notIn (K := K) rfl) (pe_un un_neg (pv 9)) (pv 2) (by rfl)))) (fun _ _ _ _ _ => (pv 9)))
 (pss_cons (ps_if (pt_cmpR (ok_eqD (K := K) rfl hr.units) (pv 5) (pe_lst pa_nil) (nomark _)) (pss_one (ps_ret (pe_tup (pa_cons pe_str (pa_cons pe_int pa_nil))))) pss_nil)
 (pss_one (ps_expr (pe_bm PySem.F.plainAttrs_list PySem.F.slot_list_append PySem.F.type_list_append mt_append (pv 3) (pa_cons (pe_callTy (c_tuple (K := K) rfl) (by rfl) T.tuple (by decide +kernel) (pa_cons (pv 5) pa_nil)) pa_nil)))))) pss_nil)))
 (pss_cons (ps_set (i := 6) sc_law_ends.nd rfl (Or.inl rfl) (pe_callB (c_len (K := K) rfl) (by rfl) T.len (by decide +kernel) (pa_cons (pv 2) pa_nil)))
 (pss_cons (ps_if (pt_cmpR op_eq (pv 6) (pe_callB c_lenS (by rfl) T.len (by decide +kernel) (pa_cons (pv 0) pa_nil)) (nomark _)) (pss_one (ps_ret (pe_tup (pa_cons pe_str (pa_cons pe_int pa_nil))))) pss_nil)
 (pss_cons (ps_if (pt_cmpR (ok_eqD (K := K) rfl hr.units) (pv 3) (pe_lst pa_nil) (nomark _)) (pss_one (ps_ret (pe_tup (pa_cons pe_str (pa_cons (pe_call G_law_free hr0 (by rfl) C_law_free.m C_law_free.k C_law_free.b .nil pass0 (pa_cons (pe_slice sl_str (pv 0) (po_some (pv 6)) po_none) pa_nil)) pa_nil))))) pss_nil)
 (pss_cons (ps_asg (pe_lc (own := [("x", 9)]) (g := gName 9) rfl sc_law_ends.nd (ik_tupI (K := K) rfl (pe_tup (pa_cons (pe_op op_add (pv 6) pe_int) (pa_cons (pe_op op_sub (pe_un un_neg (pv 6)) pe_int) pa_nil)))) (blkOk_by (own := [("x", 9)]) (N := ["owners", "rows", "play", "left", "row", "rest", "at", "one", "two", "x"]) (sc := defScope s_law_ends) (by decide +kernel)) (fun _ _ _ _ _ => (pg_name (i := 9) sc_law_ends.nd rfl (Or.inl rfl))) (fun _ _ _ _ _ => pts_nil) (fun _ _ _ _ _ => (pe_call G_law_ends hr1 (by rfl) C_law_ends.m C_law_ends.k C_law_ends.b .nil pass0 (pa_cons (pv 0) (pa_cons (pv 3) (pa_cons (pe_op (ok_catT (K := K) rfl) (pv 2) (pe_tup (pa_cons (pv 9) pa_nil))) pa_nil)))))) (pg_unl rfl (pgs_cons (pg_name (i := 7) sc_law_ends.nd rfl (Or.inl rfl)) (pgs_cons (pg_name (i := 8) sc_law_ends.nd rfl (Or.inl rfl)) pgs_nil))))
 (pss_cons (ps_if (pt_cmpR op_eq (pe_ix ix_str (pv 0) (pv 6) (fun _ _ => rfl)) pe_str (nomark _)) (pss_one (ps_ret (pe_tup (pa_cons (pe_ifExp (pt_cmpR (ok_in (K := K) rfl) pe_str (pe_tup (pa_cons (pe_ix (ik_tup (K := K) rfl) (pv 7) pe_int (fun _ _ => rfl)) (pa_cons (pe_ix (ik_tup (K := K) rfl) (pv 8) pe_int (fun _ _ => rfl)) pa_nil))) (by rfl)) pe_str pe_str) (pa_cons (pe_op op_add (pe_ix (ik_tup (K := K) rfl) (pv 7) pe_int (fun _ _ => rfl)) (pe_ix (ik_tup (K := K) rfl) (pv 8) pe_int (fun _ _ => rfl))) pa_nil))))) pss_nil)
 (pss_one (ps_ret (pe_tup (pa_cons (pe_ifExp (pt_chain op_eq op_eq (pe_ix (ik_tup (K := K) rfl) (pv 7) pe_int (fun _ _ => rfl)) (pe_ix (ik_tup (K := K) rfl) (pv 8) pe_int (fun _ _ => rfl)) pe_str) pe_str pe_str) (pa_cons (pe_op op_mulW (pe_ix (ik_tup (K := K) rfl) (pv 7) pe_int (fun _ _ => rfl)) (pe_ix (ik_tup (K := K) rfl) (pv 8) pe_int (fun _ _ => rfl))) pa_nil)))))))))))), ?_⟩
    have lx : xs.length = rs.length := by rw [dpAll_len hd, List.length_map]
    have psz : (p.map V.int).length = p.length := List.length_map ..
    refine rd_start (σ' := [some (.str z), some (.ref a), some (.ref b), none, none, none, none, none, none, none]) rfl ?_
    walk_at "rqs"
    refine ⟨Nat.zero_le _, fun L hL => ?_⟩
    have eL := Evl.Ex.new (o := .lst []) hL
    walk_at "rqs"
    refine rd_refL (Evl.ex_l eL ha) ?_
    refine fr_list (xs := xs) (fun i σ' H' => ∃ (x4 x5 : Option V) (ys : List V), σ' = [some (.str z), some (.ref a), some (.ref b), some (.ref L), x4, x5, none, none, none, none] ∧ Evl.Ex H H' ∧ H' L = some (.lst ys) ∧ DpAll K H' ys ((askedF p (rs.take i)).map dR) ∧ [] ∉ askedF p (rs.take i))
      ⟨_, _, [], rfl, eL, upd_same, .nil, (by show [] ∉ ([] : List (List Int)); exact nofun)⟩ (fun i σ' H' _ ⟨_, _, _, _, e, _⟩ => Evl.ex_l e ha) (fun i x σ' H' hi hP => ?_) fun σ' H' hP => ?_
    · obtain ⟨x4, x5, ys, rfl, e, eL', hys, hne⟩ := hP
      obtain ⟨d0, hd0, hx⟩ := dpAll_get hd hi
      rw [List.getElem?_map] at hd0
      obtain ⟨r, hr', rfl⟩ := Option.map_eq_some_iff.mp hd0
      have hrm := List.mem_of_getElem? hr'
      have hrr := hrow r hrm
      obtain ⟨c, rfl, sv0⟩ := dp_row hx
      have sv := Evl.ex_t e sv0
      have htk : rs.take (i + 1) = rs.take i ++ [r] := by rw [List.take_add_one, hr'] <;> rfl
      have hys1 : ys.length ≤ 1000 := by
        rw [dpAll_len hys, List.length_map]
        have h1 := askedF_len p (rs.take i)
        have h2 := List.length_take (i := i) (l := rs)
        omega
      refine rd_start (σ' := [some (.str z), some (.ref a), some (.ref b), some (.ref L), some (.ref c), x5, none, none, none, none]) rfl ?_
      walk_at "rqs"
      refine rd_if ?_
      walk_at "rqs"
      refine rd_ref sv ?_
      refine lc_fmT (trueIn p) V.int (σx := fun x => [some (.str z), some (.ref a), some (.ref b), some (.ref L), some (.ref c), x5, none, none, none, some x]) sv (by have := hrr.length; omega) (fun _ => rfl) (fun _ => rfl)
        (fun x hx H2 N S e2 kN kS => ?_) fun D H2 e2 eD hD => ?_
      · walk_at "rqs"
        refine rd_inT (Evl.ex_t (e.trans e2) hb) ?_
        rw [hp.mem (hrr.2 x hx).1]
        walk_at "rqs"
        cases c : trueIn p x with
        | true =>
          rw [if_pos rfl]
          walk_at "rqs"
          exact kN c _ (Evl.Ex.refl _)
        | false =>
          rw [if_neg (by decide)]
          exact kS c _ (Evl.Ex.refl _)
      walk_at "rqs"
      refine ⟨Nat.zero_le _, fun t ht => ?_⟩
      have e3 := Evl.Ex.trans e2 (Evl.Ex.new (o := .lst []) ht)
      refine rd_noneI (SqL.of ((Evl.Ex.new ht) _ _ hD)) (SqL.of upd_same) ?_
      rw [filter_none]
      walk_at "rqs"
      have eLt := e3 _ _ eL'
      have hyt := dpAll_ex e3 _ _ hys
      have et := e.trans e3
      have svt := Evl.ex_t e3 sv
      clear hys eL' e3 e2 hD eD sv
      generalize upd H2 t (.lst []) = H3 at eLt hyt et svt ⊢
      cases ct : r.any (trueIn p) with
      | true =>
        refine (if_neg (by decide)).mpr ?_
        walk_at "rqs"
        have ea : askedF p (rs.take (i + 1)) = askedF p (rs.take i) := by
          unfold askedF
          rw [htk, List.filter_append, List.map_append]
          simp [ct]
        refine ⟨_, _, ys, rfl, et, eLt, ?_, ?_⟩
        · rw [ea]
          exact hyt
        · rw [ea]
          exact hne
      | false =>
        refine (if_pos (by decide)).mpr ?_
        have hno : ∀ x ∈ r, trueIn p x = false := fun x hx => by
          have := List.any_eq_false.mp ct x hx
          simpa using this
        have ea : askedF p (rs.take (i + 1)) = askedF p (rs.take i) ++ [r.filter (openIn p)] := by
          unfold askedF
          rw [htk, List.filter_append, List.map_append]
          simp [ct]
        walk_at "rqs"
        refine rd_ref svt ?_
        refine lc_fmT (openIn p) V.int (σx := fun x => [some (.str z), some (.ref a), some (.ref b), some (.ref L), some (.ref c), x5, none, none, none, some x]) svt (by have := hrr.length; omega) (fun _ => rfl) (fun _ => rfl)
          (fun x hx H2 N S e2 kN kS => ?_) fun D H4 e4 eD hD => ?_
        · walk_at "rqs"
          refine rd_notInT (Evl.ex_t (et.trans e2) hb) ?_
          rw [hp.neg (hrr.2 x hx).1 (hno x hx), Bool.not_not]
          walk_at "rqs"
          cases c : openIn p x with
          | true =>
            rw [if_pos rfl]
            walk_at "rqs"
            exact kN c _ (Evl.Ex.refl _)
          | false =>
            rw [if_neg (by decide)]
            exact kS c _ (Evl.Ex.refl _)
        walk_at "rqs"
        refine rd_if ?_
        walk_at "rqs"
        refine ⟨Nat.zero_le _, fun t2 ht2 => ?_⟩
        have e5 := Evl.Ex.trans e4 (Evl.Ex.new (o := .lst []) ht2)
        have hD5 := (Evl.Ex.new (o := .lst []) ht2) _ _ hD
        refine rd_noneI (SqL.of hD5) (SqL.of upd_same) ?_
        walk_at "rqs"
        have eL5 := e5 _ _ eLt
        have hy5 := dpAll_ex e5 _ _ hyt
        have et5 := et.trans e5
        clear eLt hyt hD eD e4
        generalize upd H4 t2 (.lst []) = H5 at eL5 hy5 et5 hD5 ⊢
        cases cr : (r.filter (openIn p)).isEmpty with
        | true =>
          refine (if_pos rfl).mpr ?_
          walk_at "rqs"
          refine ⟨(by show 2 ≤ sizeLine; decide), fun o ho => ?_⟩
          refine q _ _ (et5.trans (Evl.Ex.new ho)) ⟨o, 0, rfl, Nat.two_pow_pos _, ?_⟩
          have hin : [] ∈ askedF p rs := by
            have h1 : r.filter (openIn p) = [] := List.isEmpty_iff.mp cr
            exact List.mem_map.mpr ⟨r, List.mem_filter.mpr ⟨hrm, by rw [ct]; rfl⟩, h1⟩
          rw [winR_lost hin]
          exact SqT.of upd_same
        | false =>
          refine (if_neg (by decide)).mpr ?_
          walk_at "rqs"
          refine rd_tyL eL5 ?_
          walk_at "rqs"
          refine rd_tupL (SqL.of hD5) fun o ho => ?_
          have e6 := Evl.Ex.new (o := .tup ((r.filter (openIn p)).map V.int)) ho
          walk_at "rqs"
          refine rd_append (e6 _ _ eL5) (by omega) ?_
          walk_at "rqs"
          refine ⟨_, _, ys ++ [.ref o], rfl, Evl.Ex.mut (et5.trans e6) hL, upd_same, ?_, ?_⟩
          · rw [ea, List.map_append]
            refine dps_mono (fun _ _ t => tup_upd (e6 _ _ eL5) lst_not t) _ _ ?_ (dpAll_app (dpAll_ex e6 _ _ hy5) (.cons (dp_of_row (SqT.of upd_same)) .nil))
            exact noLs_all fun d h => by
              rcases List.mem_append.mp h with h | h
              · obtain ⟨r, _, rfl⟩ := List.mem_map.mp h
                exact noL_dR r
              · obtain ⟨r, _, rfl⟩ := List.mem_map.mp h
                exact noL_dR r
          · rw [ea]
            intro hm
            rcases List.mem_append.mp hm with hm | hm
            · exact hne hm
            · rw [← List.mem_singleton.mp hm] at cr
              cases cr
    · obtain ⟨x4, x5, ys, rfl, e, eL', hys, hne⟩ := hP
      rw [lx, List.take_of_length_le (Nat.le_refl _)] at hys hne
      have yl : ys.length = (askedF p rs).length := by rw [dpAll_len hys, List.length_map]
      have al := askedF_len p rs
      have hfrom := askedF_from (p := p) hrow
      have harow := askedF_row (p := p) hrow
      walk_at "rqs"
      refine rd_lenT (Evl.ex_t e hb) ?_
      rw [psz]
      walk_at "rqs"
      refine rd_if ?_
      walk_at "rqs"
      refine rd_lenS (by rw [hz.1, sizeLine_eq]; omega) ?_
      rw [hz.1]
      walk_at "rqs"
      refine rd_ite (fun cn => ?_) (fun cn => ?_)
      · have cn := V.int.inj cn
        walk_at "rqs"
        refine ⟨(by show 2 ≤ sizeLine; decide), fun o ho => ?_⟩
        refine q _ _ (e.trans (Evl.Ex.new ho)) ⟨o, 1, rfl, Nat.lt_of_lt_of_le (by decide : 1 < 2 ^ 1) (Nat.pow_le_pow_right (by decide) (Nat.one_le_two_pow)), ?_⟩
        have hnil : askedF p rs = [] := by
          cases hq : askedF p rs with
          | nil => rfl
          | cons r0 t0 =>
            exfalso
            have h0 := hfrom r0 (by rw [hq]; exact List.mem_cons_self)
            cases r0 with
            | nil => exact hne (by rw [hq]; exact List.mem_cons_self)
            | cons y t =>
              have := h0.2 y List.mem_cons_self
              omega
        rw [hnil, winR_nil]
        exact SqT.of upd_same
      · have cn : p.length < n := by
          have : (p.length : Int) ≠ (n : Int) := fun z => cn (congrArg V.int z)
          omega
        walk_at "rqs"
        refine rd_if ?_
        walk_at "rqs"
        refine ⟨Nat.zero_le _, fun t ht => ?_⟩
        have e2 := Evl.Ex.new (o := .lst []) ht
        refine ⟨.list ((askedF p rs).map dR), .list [], .lst (SqL.of (e2 _ _ eL')) (dpAll_ex e2 _ _ hys), .lst (SqL.of upd_same) .nil, (Nice.lst (nice_rows (by omega : n ≤ 60) harow)).shaped (by decide), rfl, ?_⟩
        have ee : PyData.eqv (.list ((askedF p rs).map dR)) (.list []) = (askedF p rs).isEmpty := by cases askedF p rs <;> rfl
        rw [ee]
        have e2 := e.trans e2
        have eL2 := (Evl.Ex.new (o := .lst []) ht) _ _ eL'
        have hy2 := dpAll_ex (Evl.Ex.new (o := .lst []) ht) _ _ hys
        clear e eL' hys
        generalize upd H' t (.lst []) = H2 at e2 eL2 hy2 ⊢
        walk_at "rqs"
        cases ca : (askedF p rs).isEmpty with
        | true =>
          refine (if_pos rfl).mpr ?_
          have ca := List.isEmpty_iff.mp ca
          walk_at "rqs"
          refine rd_slS (by rw [hz.1, sizeLine_eq]; omega) ?_
          walk_at "rqs"
          refine ⟨_, n - p.length, rfl, own_drop hz (by omega), by omega, fun g hg => ?_⟩
          walk_at "rqs"
          refine ⟨(by show 2 ≤ sizeLine; decide), fun o ho => ?_⟩
          refine q _ _ (e2.trans (Evl.Ex.new ho)) ⟨o, g, rfl, hg, ?_⟩
          rw [ca, winR_nil]
          exact SqT.of upd_same
        | false =>
          refine (if_neg (by decide)).mpr ?_
          have hne0 : askedF p rs ≠ [] := fun z => by rw [z] at ca; cases ca
          walk_at "rqs"
          refine ⟨(by show 2 ≤ sizeLine; decide), fun tt htt => ?_⟩
          have e3 := Evl.Ex.new (o := .tup [V.int ((p.length : Int) + 1), V.int (-(p.length : Int) - 1)]) htt
          have eL3 := e3 _ _ eL2
          have hy3 := dpAll_ex e3 _ _ hy2
          have stt : SqT K (upd H2 tt (.tup [V.int ((p.length : Int) + 1), V.int (-(p.length : Int) - 1)])) tt [V.int ((p.length : Int) + 1), V.int (-(p.length : Int) - 1)] := SqT.of upd_same
          have e3 := e2.trans e3
          clear e2 eL2 hy2
          generalize upd H2 tt (.tup [V.int ((p.length : Int) + 1), V.int (-(p.length : Int) - 1)]) = H3 at e3 eL3 hy3 stt ⊢
          refine rd_ref stt ?_
          let lit : Nat → Int := fun i => if i = 0 then (p.length : Int) + 1 else -(p.length : Int) - 1
          have hlit : ∀ i, (lit i).natAbs = p.length + 1 := fun i => by
            show (if i = 0 then (p.length : Int) + 1 else -(p.length : Int) - 1).natAbs = _
            split <;> omega
          refine lc_exT (σx := fun x => [some (.str z), some (.ref a), some (.ref b), some (.ref L), x4, x5, some (.int (p.length : Int)), none, none, some x])
            (fun i acc H' => acc.length = i ∧ ∀ j v, acc[j]? = some v → EndT K H' n z (p ++ [lit j]) (askedF p rs) v)
            (fun i acc H1 D ys u hD h => ⟨h.1, fun j v hj => by
              obtain ⟨q1, c1, h1, h2, h3⟩ := h.2 j v hj
              exact ⟨q1, c1, h1, h2, tup_upd hD lst_not h3⟩⟩) stt (by show 2 ≤ 40000; decide) (fun _ => rfl) (fun _ => rfl) (fun H' _ => ⟨rfl, fun j v hj => by simp at hj⟩)
            (fun i x hi acc H' N e4 hP hN => ?_) fun D acc H5 e5 hDn hD hP => ?_
          · have hx : x = .int (lit i) := by
              cases i with
              | zero => exact (Option.some.inj hi).symm
              | succ i =>
                cases i with
                | zero => exact (Option.some.inj hi).symm
                | succ i => simp at hi
            subst hx
            walk_at "rqs"
            refine ⟨(by show 1 ≤ sizeLine; decide), fun u hu => ?_⟩
            have e5 := e4.trans (Evl.Ex.new (o := .tup [V.int (lit i)]) hu)
            refine rd_catT (Evl.ex_t (e3.trans e5) hb) (SqT.of upd_same) (by rw [psz, sizeLine_eq]; show _ + 1 ≤ _; omega) fun c H6 e6 s6 => ?_
            have e7 := e5.trans e6
            have s6 : SqT K H6 c ((p ++ [lit i]).map V.int) := by
              rw [List.map_append]
              exact s6
            have hlen : (p ++ [lit i]).length = p.length + 1 := by rw [List.length_append] <;> rfl
            refine ⟨z, L, c, n, ys, askedF p rs, p ++ [lit i], rfl, hz, hn, SqL.of (e7 _ _ eL3), dpAll_ex e7 _ _ hy3, harow, by omega, s6, hp.snoc (hlit i), by rw [hlen]; omega, by rw [hlen]; omega, fun v H7 e8 hv => ?_⟩
            have e9 : Evl.Ex H' H7 := ((Evl.Ex.new (o := .tup [V.int (lit i)]) hu).trans e6).trans e8
            refine hN v H7 e9 ⟨by rw [List.length_append, hP.1] <;> rfl, fun j w' hj => ?_⟩
            rw [List.getElem?_append] at hj
            split at hj
            · exact (hP.2 j w' hj).ex e9
            · next hc =>
              have hji : j = i := by
                have h1 := hP.1
                by_cases z : j - acc.length = 0
                · omega
                · rw [List.getElem?_eq_none (by show 1 ≤ j - acc.length; omega)] at hj
                  cases hj
              subst hji
              rw [hP.1, Nat.sub_self] at hj
              obtain rfl : v = w' := Option.some.inj hj
              exact hv
          · obtain ⟨v1, v2, rfl⟩ : ∃ v1 v2, acc = [v1, v2] := by
              have h1 := hP.1
              match acc, h1 with
              | [v1, v2], _ => exact ⟨v1, v2, rfl⟩
            obtain ⟨q1, c1, rfl, hc1, t1⟩ := hP.2 0 v1 rfl
            obtain ⟨q2, c2, rfl, hc2, t2⟩ := hP.2 1 v2 rfl
            have l1 : (p ++ [lit 0]).length = p.length + 1 := by rw [List.length_append] <;> rfl
            have l2 : (p ++ [lit 1]).length = p.length + 1 := by rw [List.length_append] <;> rfl
            have as1 := askedF_snoc (rs := askedF p rs) (hlit 0) hfrom hne
            have as2 := askedF_snoc (rs := askedF p rs) (hlit 1) hfrom hne
            have hl1 : lit 1 = -((p.length : Int) + 1) := by show -(p.length : Int) - 1 = _; omega
            have hl0 : lit 0 = (p.length : Int) + 1 := rfl
            rw [l1] at hc1
            rw [l2] at hc2
            rw [l1, as1, hl0] at t1
            rw [l2, as2, hl1] at t2
            obtain ⟨m, hm⟩ : ∃ m, n - p.length = m + 1 := ⟨n - p.length - 1, by omega⟩
            have hm2 : n - (p.length + 1) = m := by omega
            rw [hm2] at hc1 hc2 t1 t2
            have step := winR_step (z := z) (m := m) (letter := (p.length : Int) + 1) hne0 hne
            rw [show ((p.length + 1 : Nat) : Int) + 1 = (p.length : Int) + 1 + 1 by omega] at t1 t2
            generalize winR z m ((p.length : Int) + 1 + 1) (beh ((p.length : Int) + 1) (askedF p rs)) = b1 at t1 step
            generalize winR z m ((p.length : Int) + 1 + 1) (beh (-((p.length : Int) + 1)) (askedF p rs)) = b2 at t2 step
            have fin : ∀ (cnt : Nat) (bw : Bool) (o : Addr) (H8 : Hp), Evl.Ex H5 H8 → H8 o = none → cnt < 2 ^ 2 ^ (m + 1) → winR z (m + 1) ((p.length : Int) + 1) (askedF p rs) = bw → Q (.ref o) (upd H8 o (.tup [.str (whoT bw), .int (cnt : Int)])) := fun cnt bw o H8 e8 ho hc hw => by
              refine q _ _ (((e3.trans e5).trans e8).trans (Evl.Ex.new ho)) ⟨o, cnt, rfl, ?_, ?_⟩
              · rw [hm]
                exact hc
              · rw [hm, hw]
                exact SqT.of upd_same
            refine rd_unl2 (SqL.of hD) rfl (σ' := [some (.str z), some (.ref a), some (.ref b), some (.ref L), x4, x5, some (.int (p.length : Int)), some (.ref q1), some (.ref q2), none]) rfl ?_
            walk_at "rqs"
            refine rd_if ?_
            walk_at "rqs"
            have hat : atI z.cps.toList (p.length : Int) = some (sgn z ((p.length : Int) + 1)) := by
              have := at_sgn2 hz (x := (p.length : Int) + 1) (by omega) (by omega)
              rw [show (p.length : Int) + 1 - 1 = (p.length : Int) by omega] at this
              exact this
            refine rd_ixS (by rw [hz.1, sizeLine_eq]; omega) hat ?_
            walk_at "rqs"
            refine rd_iteb (b := heldBy z "s" ((p.length : Int) + 1)) (fun ch => ?_) (fun ch => ?_)
            · rw [if_pos ch] at step
              walk_at "rqs"
              refine rd_ixT t1 rfl ?_
              walk_at "rqs"
              refine rd_ixT t2 rfl ?_
              walk_at "rqs"
              refine ⟨(by show 2 ≤ sizeLine; decide), fun u hu => ?_⟩
              have eu := Evl.Ex.new (o := .tup [V.str (whoT b1), .str (whoT b2)]) hu
              refine ⟨u, _, rfl, .inr (SqT.of upd_same), rfl, rfl, ?_⟩
              rw [if_neg (by decide), inV_who]
              walk_at "rqs"
              refine who_lit ?_
              walk_at "rqs"
              refine rd_ixT (Evl.ex_t eu t1) rfl ?_
              walk_at "rqs"
              refine rd_ixT (Evl.ex_t eu t2) rfl ?_
              walk_at "rqs"
              refine ⟨(by show 2 ≤ sizeLine; decide), fun o ho => ?_⟩
              exact fin (c1 + c2) (b1 || b2) o _ eu ho (cnt_add hc1 hc2) step
            · rw [if_neg (by rw [ch]; decide)] at step
              have hpow : (0 : Nat) < 2 ^ m := Nat.two_pow_pos m
              have hp13 : 2 ^ m ≤ 2 ^ 13 := Nat.pow_le_pow_right (by decide) (by omega)
              have h13 : (2 : Nat) ^ 13 = 8192 := by decide
              have last : ∀ (bw : Bool), (b1 && b2) = bw → tCons (tOp (rI CMulW fun i j => V.int (i * j)) (tOp (rIxT K) (tVar 7) (tC (.int 1))) (tOp (rIxT K) (tVar 8) (tC (.int 1)))) tNil [some (.str z), some (.ref a), some (.ref b), some (.ref L), x4, x5, some (.int (p.length : Int)), some (.ref q1), some (.ref q2), none] H5
                  (fun xs H2 => (V.str (whoT bw) :: xs).length ≤ sizeLine ∧ ∀ p, H2 p = none → Q (.ref p) (upd H2 p (.tup (V.str (whoT bw) :: xs)))) := fun bw hbw => by
                walk_at "rqs"
                refine rd_ixT t1 rfl ?_
                walk_at "rqs"
                refine rd_ixT t2 rfl ?_
                walk_at "rqs"
                refine rd_I (wide_mul (by rw [Int.natAbs_natCast]; exact hc1) (by rw [Int.natAbs_natCast]; exact hc2) hpow hpow (by omega)) ?_
                walk_at "rqs"
                refine ⟨(by show 2 ≤ sizeLine; decide), fun o ho => ?_⟩
                have := fin (c1 * c2) bw o _ (Evl.Ex.refl _) ho (cnt_mul hc1 hc2) (step.trans hbw)
                rw [Int.natCast_mul] at this
                exact this
              walk_at "rqs"
              refine rd_chain ?_
              walk_at "rqs"
              refine rd_ixT t1 rfl ?_
              walk_at "rqs"
              refine rd_ixT t2 rfl ?_
              walk_at "rqs"
              cases b1 with
              | true =>
                cases b2 with
                | true =>
                  refine (if_pos (decide_eq_true rfl)).mpr ?_
                  walk_at "rqs"
                  refine (if_pos (by decide)).mpr ?_
                  exact last true rfl
                | false =>
                  refine (if_neg (by decide)).mpr ?_
                  walk_at "rqs"
                  refine rd_ixT t1 rfl ?_
                  walk_at "rqs"
                  refine rd_ixT t2 rfl ?_
                  walk_at "rqs"
                  refine rd_I (wide_mul (by rw [Int.natAbs_natCast]; exact hc1) (by rw [Int.natAbs_natCast]; exact hc2) hpow hpow (by omega)) ?_
                  walk_at "rqs"
                  refine ⟨(by show 2 ≤ sizeLine; decide), fun o ho => ?_⟩
                  have := fin (c1 * c2) false o _ (Evl.Ex.refl _) ho (cnt_mul hc1 hc2) step
                  rw [Int.natCast_mul] at this
                  exact this
              | false =>
                cases b2 with
                | true =>
                  refine (if_neg (by decide)).mpr ?_
                  walk_at "rqs"
                  refine rd_ixT t1 rfl ?_
                  walk_at "rqs"
                  refine rd_ixT t2 rfl ?_
                  walk_at "rqs"
                  refine rd_I (wide_mul (by rw [Int.natAbs_natCast]; exact hc1) (by rw [Int.natAbs_natCast]; exact hc2) hpow hpow (by omega)) ?_
                  walk_at "rqs"
                  refine ⟨(by show 2 ≤ sizeLine; decide), fun o ho => ?_⟩
                  have := fin (c1 * c2) false o _ (Evl.Ex.refl _) ho (cnt_mul hc1 hc2) step
                  rw [Int.natCast_mul] at this
                  exact this
                | false =>
                  refine (if_pos (decide_eq_true rfl)).mpr ?_
                  walk_at "rqs"
                  refine (if_neg Bool.false_ne_true).mpr ?_
                  exact last false rfl
end
end KA
set_option Elab.async false
set_option linter.all false
set_option maxRecDepth 100000
set_option maxHeartbeats 400000
set_option pp.maxSteps 300
namespace KA
open PySem PySem.Spec PyProof.Rows L2 Ea
local macro_rules | `(tactic| walk_at "rd") => `(tactic| first
  | (with_reducible refine rd_seq ?_) | (with_reducible refine rd_asg ?_) | (with_reducible refine rd_if ?_) | (with_reducible refine rd_ret ?_) | (with_reducible refine rd_next ?_)
  | (with_reducible refine rd_drop ?_) | ((with_reducible refine rd_name (σ' := ?ss) ?hs ?_); (case hs => (dsimp only [List.set]; exact rfl)))
  | ((with_reducible refine rd_var (v := ?vv) ?hv ?_); (case hv => exact rfl)) | (with_reducible refine rd_c ?_) | (with_reducible refine rd_op ?_) | (with_reducible refine rd_un ?_)
  | (with_reducible refine rd_I0 ?_) | (with_reducible refine rd_U ?_) | (with_reducible refine rd_test ?_) | (with_reducible refine rd_B ?_) | (with_reducible refine rd_k ?_)
  | (with_reducible refine rd_not ?_) | (with_reducible refine rd_and ?_) | (with_reducible refine rd_or ?_) | (with_reducible refine rd_ifE ?_)
  | (with_reducible refine rd_par ?_) | ((with_reducible refine rd_par2 (σ' := ?ss) ?hs ?_); (case hs => (dsimp only [List.set]; exact rfl)))
  | (with_reducible refine rd_gsub ?_) | (with_reducible refine rd_andV ?_) | (with_reducible refine rd_orV ?_) | (with_reducible refine rd_notV ?_)
  | (with_reducible refine rd_lc ?_) | (with_reducible refine rd_iTup ?_) | (with_reducible refine rd_iList ?_) | (with_reducible refine rd_iRng1 ?_) | (with_reducible refine rd_iRng2 ?_) | (with_reducible refine rd_iEnumT ?_) | (with_reducible refine rd_iEnum ?_) | (with_reducible refine rd_iZipM ?_) | (with_reducible refine rd_iEnumS ?_) | (with_reducible refine rd_iKeys ?_) | (with_reducible refine rd_din ?_) | (with_reducible refine rd_dnotin ?_)
  | (with_reducible refine rd_yes ?_) | (with_reducible refine rd_true ?_) | (with_reducible refine rd_false ?_) | (with_reducible refine rd_m1 ?_) | (with_reducible refine rd_isS ?_)
  | ((with_reducible refine rd_eq ?hs ?_); (case hs => exact rfl)) | ((with_reducible refine rd_ne ?hs ?_); (case hs => exact rfl))
  | (with_reducible refine rd_listRg ?_) | (with_reducible refine rd_rg2 ?_) | (with_reducible refine rd_rgk ?_)
  | (with_reducible refine rd_dnew ?_) | (with_reducible refine rd_ddel ?_) | (with_reducible refine rd_kw ?_) | (with_reducible refine rd_callS ?_) | (with_reducible refine rd_dc ?_) | (with_reducible refine rd_for ?_) | (with_reducible refine rd_tru ?_) | (with_reducible refine rd_truI ?_)
  | (with_reducible refine rd_nil ?_) | (with_reducible refine rd_cons ?_) | (with_reducible refine rd_call ?_) | (with_reducible refine rd_cb ?_)
  | (with_reducible refine rd_tup ?_) | (with_reducible refine rd_lst ?_) | (with_reducible refine rd_dget ?_) | (with_reducible refine rd_dput ?_) | (with_reducible refine rd_dget2 ?_) | (with_reducible refine rd_sl ?_)
  | (with_reducible refine rd_nopart ?_) | (with_reducible refine rd_part ?_) | (with_reducible refine rd_parti ?_) | (with_reducible refine rd_bm ?_) | (with_reducible refine rd_bm0 ?_)
  | (with_reducible refine rd_int ?_) | (with_reducible refine rd_intb ?_) | (with_reducible refine rd_abs ?_) | (with_reducible refine rd_min2 ?_) | (with_reducible refine rd_max2 ?_))
local macro_rules | `(tactic| walk_at "rds") => `(tactic| repeat (walk_at "rd"))
local macro_rules | `(tactic| walk_at "rq") => `(tactic| first
  | (with_reducible refine rd_seq ?_) | (with_reducible refine rd_asg ?_) | (with_reducible refine rd_ret ?_) | (with_reducible refine rd_next ?_)
  | (with_reducible refine rd_drop ?_) | ((with_reducible refine rd_name (σ' := ?ss) ?hs ?_); (case hs => (dsimp only [List.set]; exact rfl)))
  | ((with_reducible refine rd_var (v := ?vv) ?hv ?_); (case hv => exact rfl)) | (with_reducible refine rd_c ?_) | (with_reducible refine rd_op ?_) | (with_reducible refine rd_un ?_)
  | (with_reducible refine rd_I0 ?_) | (with_reducible refine rd_U ?_) | (with_reducible refine rd_test ?_) | (with_reducible refine rd_B ?_) | (with_reducible refine rd_k ?_)
  | (with_reducible refine rd_not ?_) | (with_reducible refine rd_and ?_) | (with_reducible refine rd_or ?_) | (with_reducible refine rd_ifE ?_)
  | (with_reducible refine rd_par ?_) | ((with_reducible refine rd_par2 (σ' := ?ss) ?hs ?_); (case hs => (dsimp only [List.set]; exact rfl)))
  | (with_reducible refine rd_gsub ?_) | (with_reducible refine rd_andV ?_) | (with_reducible refine rd_orV ?_) | (with_reducible refine rd_notV ?_)
  | (with_reducible refine rd_lc ?_) | (with_reducible refine rd_iTup ?_) | (with_reducible refine rd_iList ?_) | (with_reducible refine rd_iRng1 ?_) | (with_reducible refine rd_iRng2 ?_) | (with_reducible refine rd_iEnumT ?_) | (with_reducible refine rd_iEnum ?_) | (with_reducible refine rd_iZipM ?_) | (with_reducible refine rd_iEnumS ?_) | (with_reducible refine rd_iKeys ?_) | (with_reducible refine rd_din ?_) | (with_reducible refine rd_dnotin ?_)
  | (with_reducible refine rd_yes ?_) | (with_reducible refine rd_true ?_) | (with_reducible refine rd_false ?_) | (with_reducible refine rd_m1 ?_) | (with_reducible refine rd_isS ?_)
  | ((with_reducible refine rd_eq ?hs ?_); (case hs => exact rfl)) | ((with_reducible refine rd_ne ?hs ?_); (case hs => exact rfl))
  | (with_reducible refine rd_listRg ?_) | (with_reducible refine rd_rg2 ?_) | (with_reducible refine rd_rgk ?_)
  | (with_reducible refine rd_dnew ?_) | (with_reducible refine rd_ddel ?_) | (with_reducible refine rd_kw ?_) | (with_reducible refine rd_callS ?_) | (with_reducible refine rd_dc ?_) | (with_reducible refine rd_for ?_) | (with_reducible refine rd_tru ?_) | (with_reducible refine rd_truI ?_)
  | (with_reducible refine rd_nil ?_) | (with_reducible refine rd_cons ?_) | (with_reducible refine rd_call ?_) | (with_reducible refine rd_cb ?_)
  | (with_reducible refine rd_tup ?_) | (with_reducible refine rd_lst ?_) | (with_reducible refine rd_dget ?_) | (with_reducible refine rd_dput ?_) | (with_reducible refine rd_dget2 ?_) | (with_reducible refine rd_sl ?_)
  | (with_reducible refine rd_nopart ?_) | (with_reducible refine rd_part ?_) | (with_reducible refine rd_parti ?_) | (with_reducible refine rd_bm ?_) | (with_reducible refine rd_bm0 ?_)
  | (with_reducible refine rd_int ?_) | (with_reducible refine rd_intb ?_) | (with_reducible refine rd_abs ?_) | (with_reducible refine rd_min2 ?_) | (with_reducible refine rd_max2 ?_))
local macro_rules | `(tactic| walk_at "rqs") => `(tactic| repeat (walk_at "rq"))
local macro_rules | `(tactic| walk_at "rv") => `(tactic| first
  | (with_reducible refine rd_seq ?_) | (with_reducible refine rd_asg ?_) | (with_reducible refine rd_ret ?_) | (with_reducible refine rd_next ?_)
  | (with_reducible refine rd_drop ?_) | ((with_reducible refine rd_name (σ' := ?ss) ?hs ?_); (case hs => (dsimp only [List.set]; exact rfl)))
  | ((with_reducible refine rd_var (v := ?vv) ?hv ?_); (case hv => exact rfl)) | (with_reducible refine rd_c ?_) | (with_reducible refine rd_op ?_) | (with_reducible refine rd_un ?_)
  | (with_reducible refine rd_I0 ?_) | (with_reducible refine rd_U ?_) | (with_reducible refine rd_test ?_) | (with_reducible refine rd_B ?_) | (with_reducible refine rd_k ?_)
  | (with_reducible refine rd_not ?_) | (with_reducible refine rd_and ?_) | (with_reducible refine rd_or ?_)
  | (with_reducible refine rd_par ?_) | ((with_reducible refine rd_par2 (σ' := ?ss) ?hs ?_); (case hs => (dsimp only [List.set]; exact rfl)))
  | (with_reducible refine rd_gsub ?_) | (with_reducible refine rd_andV ?_) | (with_reducible refine rd_orV ?_) | (with_reducible refine rd_notV ?_)
  | (with_reducible refine rd_lc ?_) | (with_reducible refine rd_iTup ?_) | (with_reducible refine rd_iList ?_) | (with_reducible refine rd_iRng1 ?_) | (with_reducible refine rd_iRng2 ?_) | (with_reducible refine rd_iEnumT ?_) | (with_reducible refine rd_iEnum ?_) | (with_reducible refine rd_iZipM ?_) | (with_reducible refine rd_iEnumS ?_) | (with_reducible refine rd_iKeys ?_) | (with_reducible refine rd_din ?_) | (with_reducible refine rd_dnotin ?_)
  | (with_reducible refine rd_yes ?_) | (with_reducible refine rd_true ?_) | (with_reducible refine rd_false ?_) | (with_reducible refine rd_m1 ?_) | (with_reducible refine rd_isS ?_)
  | ((with_reducible refine rd_eq ?hs ?_); (case hs => exact rfl)) | ((with_reducible refine rd_ne ?hs ?_); (case hs => exact rfl))
  | (with_reducible refine rd_listRg ?_) | (with_reducible refine rd_rg2 ?_) | (with_reducible refine rd_rgk ?_)
  | (with_reducible refine rd_dnew ?_) | (with_reducible refine rd_ddel ?_) | (with_reducible refine rd_kw ?_) | (with_reducible refine rd_callS ?_) | (with_reducible refine rd_dc ?_) | (with_reducible refine rd_for ?_) | (with_reducible refine rd_tru ?_) | (with_reducible refine rd_truI ?_)
  | (with_reducible refine rd_nil ?_) | (with_reducible refine rd_cons ?_) | (with_reducible refine rd_call ?_) | (with_reducible refine rd_cb ?_)
  | (with_reducible refine rd_tup ?_) | (with_reducible refine rd_lst ?_) | (with_reducible refine rd_dget ?_) | (with_reducible refine rd_dput ?_) | (with_reducible refine rd_dget2 ?_) | (with_reducible refine rd_sl ?_)
  | (with_reducible refine rd_nopart ?_) | (with_reducible refine rd_part ?_) | (with_reducible refine rd_parti ?_) | (with_reducible refine rd_bm ?_) | (with_reducible refine rd_bm0 ?_)
  | (with_reducible refine rd_int ?_) | (with_reducible refine rd_intb ?_) | (with_reducible refine rd_abs ?_) | (with_reducible refine rd_min2 ?_) | (with_reducible refine rd_max2 ?_))
local macro_rules | `(tactic| walk_at "rvs") => `(tactic| repeat (walk_at "rv"))

section
variable {P : Program} {w : World} {K : PySem.W.Frag} {mg : Str → Option Value} {base : Heap}
theorem ok_endsT {f fF : Addr} {fd fdF : FuncData} (F : Fun K "_law_ends" "_law_ends" s_law_ends f fd) (T : Bl mg) {M k : Nat} (hk : 1 ≤ k)
    (G_law_free : FnOk P w K mg base CX0 1 fF fdF ["owners"] (spFree K)) (C_law_free : Callee K mg "_law_free" fF fdF ["owners"])
    (G_law_ends : FnOk P w K mg base CX0 k f fd ["owners", "rows", "play"] (spEndsL K M)) (C_law_ends : Callee K mg "_law_ends" f fd ["owners", "rows", "play"]) :
    FnOk P w K mg base CX0 (k + 1) f fd ["owners", "rows", "play"] (spEndsT K (M + 1)) := by
  refine F.ok sc_law_ends (fun vs H Q E h => ?_) (fun cdv A outer s H vs Q E hr h => ?_)
  · obtain ⟨z, a, b, n, xs, rs, p, rfl, _⟩ := h
    rfl
  · obtain ⟨z, a, b, n, xs, rs, p, rfl, hz, hn, ha, hd, hrow, hl, hb, hp, pl, hM, q⟩ := h
    have hr1 : Room k (A.deeper (envOfC (Str.ofString "_law_ends") (defScope s_law_ends) s.heap.objs.size f cdv)) := hr
    have hr0 : Room 1 (A.deeper (envOfC (Str.ofString "_law_ends") (defScope s_law_ends) s.heap.objs.size f cdv)) := hr.mono hk
    refine ⟨_, (pss_cons (ps_set (i := 3) sc_law_ends.nd rfl (Or.inr rfl) (pe_lst pa_nil))
 (pss_cons (ps_for PassesOwn.never rfl (ik_tupI (K := K) rfl (pv 1)) (pg_name (i := 4) sc_law_ends.nd rfl (Or.inl rfl)) (pss_one (ps_if (pt_cmpR (ok_eqD (K := K) rfl hr.units) (pe_lc (own := [("x", 9)]) (g := gName 9) rfl sc_law_ends.nd (ik_tupI (K := K) rfl (pv 4)) (blkOk_by (own := [("x", 9)]) (N := ["owners", "rows", "play", "left", "row", "rest", "at", "one", "two", "x"]) (sc := defScope s_law_ends) (by decide +kernel)) (fun _ _ _ _ _ => (pg_name (i := 9) sc_law_ends.nd rfl (Or.inl rfl))) (fun _ _ _ _ _ => (pts_one (pt_cmpR (ok_in (K := K) rfl) (pv 9) (pv 2) (by rfl)))) (fun _ _ _ _ _ => (pv 9))) (pe_lst pa_nil) (nomark _)) (pss_cons (ps_setLc (i := 5) (own := [("x", 9)]) (g := gName 9) rfl sc_law_ends.nd rfl rfl (sw_true rfl rfl rfl (by decide +kernel)) (ik_tupI (K := K) rfl (pv 4)) (blkOk_by (own := [("x", 9)]) (N := ["owners", "rows", "play", "left", "row", "rest", "at", "one", "two", "x"]) (sc := defScope s_law_ends) (by decide +kernel)) (fun _ _ _ _ _ => (pg_name (i := 9) sc_law_ends.nd rfl (Or.inl rfl))) (fun _ _ _ _ _ => (pts_one (pt_cmpR (ok_notIn (K := K) rfl) (pe_un un_neg (pv 9)) (pv 2) (by rfl)))) (fun _ _ _ _ _ => (pv 9)))
 (pss_cons (ps_if (pt_cmpR (ok_eqD (K := K) rfl hr.units) (pv 5) (pe_lst pa_nil) (nomark _)) (pss_one (ps_ret (pe_tup (pa_cons pe_str (pa_cons pe_int pa_nil))))) pss_nil)
 (pss_one (ps_expr (pe_bm PySem.F.plainAttrs_list PySem.F.slot_list_append PySem.F.type_list_append mt_append (pv 3) (pa_cons (pe_callTy (c_tuple (K := K) rfl) (by rfl) T.tuple (by decide +kernel) (pa_cons (pv 5) pa_nil)) pa_nil)))))) pss_nil)))
 (pss_cons (ps_set (i := 6) sc_law_ends.nd rfl (Or.inl rfl) (pe_callB (c_len (K := K) rfl) (by rfl) T.len (by decide +kernel) (pa_cons (pv 2) pa_nil)))
 (pss_cons (ps_if (pt_cmpR op_eq (pv 6) (pe_callB c_lenS (by rfl) T.len (by decide +kernel) (pa_cons (pv 0) pa_nil)) (nomark _)) (pss_one (ps_ret (pe_tup (pa_cons pe_str (pa_cons pe_int pa_nil))))) pss_nil)
 (pss_cons (ps_if (pt_cmpR (ok_eqD (K := K) rfl hr.units) (pv 3) (pe_lst pa_nil) (nomark _)) (pss_one (ps_ret (pe_tup (pa_cons pe_str (pa_cons (pe_call G_law_free hr0 (by rfl) C_law_free.m C_law_free.k C_law_free.b .nil pass0 (pa_cons (pe_slice sl_str (pv 0) (po_some (pv 6)) po_none) pa_nil)) pa_nil))))) pss_nil)
 (pss_cons (ps_asg (pe_lc (own := [("x", 9)]) (g := gName 9) rfl sc_law_ends.nd (ik_tupI (K := K) rfl (pe_tup (pa_cons (pe_op op_add (pv 6) pe_int) (pa_cons (pe_op op_sub (pe_un un_neg (pv 6)) pe_int) pa_nil)))) (blkOk_by (own := [("x", 9)]) (N := ["owners", "rows", "play", "left", "row", "rest", "at", "one", "two", "x"]) (sc := defScope s_law_ends) (by decide +kernel)) (fun _ _ _ _ _ => (pg_name (i := 9) sc_law_ends.nd rfl (Or.inl rfl))) (fun _ _ _ _ _ => pts_nil) (fun _ _ _ _ _ => (pe_call G_law_ends hr1 (by rfl) C_law_ends.m C_law_ends.k C_law_ends.b .nil pass0 (pa_cons (pv 0) (pa_cons (pv 3) (pa_cons (pe_op (ok_catT (K := K) rfl) (pv 2) (pe_tup (pa_cons (pv 9) pa_nil))) pa_nil)))))) (pg_unl rfl (pgs_cons (pg_name (i := 7) sc_law_ends.nd rfl (Or.inl rfl)) (pgs_cons (pg_name (i := 8) sc_law_ends.nd rfl (Or.inl rfl)) pgs_nil))))
 (pss_cons (ps_if (pt_cmpR op_eq (pe_ix ix_str (pv 0) (pv 6) (fun _ _ => rfl)) pe_str (nomark _)) (pss_one (ps_ret (pe_tup (pa_cons (pe_ifExp (pt_cmpR (ok_in (K := K) rfl) pe_str (pe_tup (pa_cons (pe_ix (ik_tup (K := K) rfl) (pv 7) pe_int (fun _ _ => rfl)) (pa_cons (pe_ix (ik_tup (K := K) rfl) (pv 8) pe_int (fun _ _ => rfl)) pa_nil))) (by rfl)) pe_str pe_str) (pa_cons (pe_op op_add (pe_ix (ik_tup (K := K) rfl) (pv 7) pe_int (fun _ _ => rfl)) (pe_ix (ik_tup (K := K) rfl) (pv 8) pe_int (fun _ _ => rfl))) pa_nil))))) pss_nil)
 (pss_one (ps_ret (pe_tup (pa_cons (pe_ifExp (pt_chain op_eq op_eq (pe_ix (ik_tup (K := K) rfl) (pv 7) pe_int (fun _ _ => rfl)) (pe_ix (ik_tup (K := K) rfl) (pv 8) pe_int (fun _ _ => rfl)) pe_str) pe_str pe_str) (pa_cons (pe_op op_mulW (pe_ix (ik_tup (K := K) rfl) (pv 7) pe_int (fun _ _ => rfl)) (pe_ix (ik_tup (K := K) rfl) (pv 8) pe_int (fun _ _ => rfl))) pa_nil)))))))))))), ?_⟩
    have lx : xs.length = rs.length := by rw [dpAll_len hd, List.length_map]
    have psz : (p.map V.int).length = p.length := List.length_map ..
    refine rd_start (σ' := [some (.str z), some (.ref a), some (.ref b), none, none, none, none, none, none, none]) rfl ?_
    walk_at "rqs"
    refine ⟨Nat.zero_le _, fun L hL => ?_⟩
    have eL := Evl.Ex.new (o := .lst []) hL
    walk_at "rqs"
    refine rd_ref (Evl.ex_t eL ha) ?_
    refine fr_tup (xs := xs) (fun i σ' H' => ∃ (x4 x5 : Option V) (ys : List V), σ' = [some (.str z), some (.ref a), some (.ref b), some (.ref L), x4, x5, none, none, none, none] ∧ Evl.Ex H H' ∧ H' L = some (.lst ys) ∧ DpAll K H' ys ((askedF p (rs.take i)).map dR) ∧ [] ∉ askedF p (rs.take i))
      ⟨_, _, [], rfl, eL, upd_same, .nil, (by show [] ∉ ([] : List (List Int)); exact nofun)⟩ (fun i σ' H' _ ⟨_, _, _, _, e, _⟩ => Evl.ex_t e ha) (fun i x σ' H' hi hP => ?_) fun σ' H' hP => ?_
    · obtain ⟨x4, x5, ys, rfl, e, eL', hys, hne⟩ := hP
      obtain ⟨d0, hd0, hx⟩ := dpAll_get hd hi
      rw [List.getElem?_map] at hd0
      obtain ⟨r, hr', rfl⟩ := Option.map_eq_some_iff.mp hd0
      have hrm := List.mem_of_getElem? hr'
      have hrr := hrow r hrm
      obtain ⟨c, rfl, sv0⟩ := dp_row hx
      have sv := Evl.ex_t e sv0
      have htk : rs.take (i + 1) = rs.take i ++ [r] := by rw [List.take_add_one, hr'] <;> rfl
      have hys1 : ys.length ≤ 1000 := by
        rw [dpAll_len hys, List.length_map]
        have h1 := askedF_len p (rs.take i)
        have h2 := List.length_take (i := i) (l := rs)
        omega
      refine rd_start (σ' := [some (.str z), some (.ref a), some (.ref b), some (.ref L), some (.ref c), x5, none, none, none, none]) rfl ?_
      walk_at "rqs"
      refine rd_if ?_
      walk_at "rqs"
      refine rd_ref sv ?_
      refine lc_fmT (trueIn p) V.int (σx := fun x => [some (.str z), some (.ref a), some (.ref b), some (.ref L), some (.ref c), x5, none, none, none, some x]) sv (by have := hrr.length; omega) (fun _ => rfl) (fun _ => rfl)
        (fun x hx H2 N S e2 kN kS => ?_) fun D H2 e2 eD hD => ?_
      · walk_at "rqs"
        refine rd_inT (Evl.ex_t (e.trans e2) hb) ?_
        rw [hp.mem (hrr.2 x hx).1]
        walk_at "rqs"
        cases c : trueIn p x with
        | true =>
          rw [if_pos rfl]
          walk_at "rqs"
          exact kN c _ (Evl.Ex.refl _)
        | false =>
          rw [if_neg (by decide)]
          exact kS c _ (Evl.Ex.refl _)
      walk_at "rqs"
      refine ⟨Nat.zero_le _, fun t ht => ?_⟩
      have e3 := Evl.Ex.trans e2 (Evl.Ex.new (o := .lst []) ht)
      refine rd_noneI (SqL.of ((Evl.Ex.new ht) _ _ hD)) (SqL.of upd_same) ?_
      rw [filter_none]
      walk_at "rqs"
      have eLt := e3 _ _ eL'
      have hyt := dpAll_ex e3 _ _ hys
      have et := e.trans e3
      have svt := Evl.ex_t e3 sv
      clear hys eL' e3 e2 hD eD sv
      generalize upd H2 t (.lst []) = H3 at eLt hyt et svt ⊢
      cases ct : r.any (trueIn p) with
      | true =>
        refine (if_neg (by decide)).mpr ?_
        walk_at "rqs"
        have ea : askedF p (rs.take (i + 1)) = askedF p (rs.take i) := by
          unfold askedF
          rw [htk, List.filter_append, List.map_append]
          simp [ct]
        refine ⟨_, _, ys, rfl, et, eLt, ?_, ?_⟩
        · rw [ea]
          exact hyt
        · rw [ea]
          exact hne
      | false =>
        refine (if_pos (by decide)).mpr ?_
        have hno : ∀ x ∈ r, trueIn p x = false := fun x hx => by
          have := List.any_eq_false.mp ct x hx
          simpa using this
        have ea : askedF p (rs.take (i + 1)) = askedF p (rs.take i) ++ [r.filter (openIn p)] := by
          unfold askedF
          rw [htk, List.filter_append, List.map_append]
          simp [ct]
        walk_at "rqs"
        refine rd_ref svt ?_
        refine lc_fmT (openIn p) V.int (σx := fun x => [some (.str z), some (.ref a), some (.ref b), some (.ref L), some (.ref c), x5, none, none, none, some x]) svt (by have := hrr.length; omega) (fun _ => rfl) (fun _ => rfl)
          (fun x hx H2 N S e2 kN kS => ?_) fun D H4 e4 eD hD => ?_
        · walk_at "rqs"
          refine rd_notInT (Evl.ex_t (et.trans e2) hb) ?_
          rw [hp.neg (hrr.2 x hx).1 (hno x hx), Bool.not_not]
          walk_at "rqs"
          cases c : openIn p x with
          | true =>
            rw [if_pos rfl]
            walk_at "rqs"
            exact kN c _ (Evl.Ex.refl _)
          | false =>
            rw [if_neg (by decide)]
            exact kS c _ (Evl.Ex.refl _)
        walk_at "rqs"
        refine rd_if ?_
        walk_at "rqs"
        refine ⟨Nat.zero_le _, fun t2 ht2 => ?_⟩
        have e5 := Evl.Ex.trans e4 (Evl.Ex.new (o := .lst []) ht2)
        have hD5 := (Evl.Ex.new (o := .lst []) ht2) _ _ hD
        refine rd_noneI (SqL.of hD5) (SqL.of upd_same) ?_
        walk_at "rqs"
        have eL5 := e5 _ _ eLt
        have hy5 := dpAll_ex e5 _ _ hyt
        have et5 := et.trans e5
        clear eLt hyt hD eD e4
        generalize upd H4 t2 (.lst []) = H5 at eL5 hy5 et5 hD5 ⊢
        cases cr : (r.filter (openIn p)).isEmpty with
        | true =>
          refine (if_pos rfl).mpr ?_
          walk_at "rqs"
          refine ⟨(by show 2 ≤ sizeLine; decide), fun o ho => ?_⟩
          refine q _ _ (et5.trans (Evl.Ex.new ho)) ⟨o, 0, rfl, Nat.two_pow_pos _, ?_⟩
          have hin : [] ∈ askedF p rs := by
            have h1 : r.filter (openIn p) = [] := List.isEmpty_iff.mp cr
            exact List.mem_map.mpr ⟨r, List.mem_filter.mpr ⟨hrm, by rw [ct]; rfl⟩, h1⟩
          rw [winR_lost hin]
          exact SqT.of upd_same
        | false =>
          refine (if_neg (by decide)).mpr ?_
          walk_at "rqs"
          refine rd_tyL eL5 ?_
          walk_at "rqs"
          refine rd_tupL (SqL.of hD5) fun o ho => ?_
          have e6 := Evl.Ex.new (o := .tup ((r.filter (openIn p)).map V.int)) ho
          walk_at "rqs"
          refine rd_append (e6 _ _ eL5) (by omega) ?_
          walk_at "rqs"
          refine ⟨_, _, ys ++ [.ref o], rfl, Evl.Ex.mut (et5.trans e6) hL, upd_same, ?_, ?_⟩
          · rw [ea, List.map_append]
            refine dps_mono (fun _ _ t => tup_upd (e6 _ _ eL5) lst_not t) _ _ ?_ (dpAll_app (dpAll_ex e6 _ _ hy5) (.cons (dp_of_row (SqT.of upd_same)) .nil))
            exact noLs_all fun d h => by
              rcases List.mem_append.mp h with h | h
              · obtain ⟨r, _, rfl⟩ := List.mem_map.mp h
                exact noL_dR r
              · obtain ⟨r, _, rfl⟩ := List.mem_map.mp h
                exact noL_dR r
          · rw [ea]
            intro hm
            rcases List.mem_append.mp hm with hm | hm
            · exact hne hm
            · rw [← List.mem_singleton.mp hm] at cr
              cases cr
    · obtain ⟨x4, x5, ys, rfl, e, eL', hys, hne⟩ := hP
      rw [lx, List.take_of_length_le (Nat.le_refl _)] at hys hne
      have yl : ys.length = (askedF p rs).length := by rw [dpAll_len hys, List.length_map]
      have al := askedF_len p rs
      have hfrom := askedF_from (p := p) hrow
      have harow := askedF_row (p := p) hrow
      walk_at "rqs"
      refine rd_lenT (Evl.ex_t e hb) ?_
      rw [psz]
      walk_at "rqs"
      refine rd_if ?_
      walk_at "rqs"
      refine rd_lenS (by rw [hz.1, sizeLine_eq]; omega) ?_
      rw [hz.1]
      walk_at "rqs"
      refine rd_ite (fun cn => ?_) (fun cn => ?_)
      · have cn := V.int.inj cn
        walk_at "rqs"
        refine ⟨(by show 2 ≤ sizeLine; decide), fun o ho => ?_⟩
        refine q _ _ (e.trans (Evl.Ex.new ho)) ⟨o, 1, rfl, Nat.lt_of_lt_of_le (by decide : 1 < 2 ^ 1) (Nat.pow_le_pow_right (by decide) (Nat.one_le_two_pow)), ?_⟩
        have hnil : askedF p rs = [] := by
          cases hq : askedF p rs with
          | nil => rfl
          | cons r0 t0 =>
            exfalso
            have h0 := hfrom r0 (by rw [hq]; exact List.mem_cons_self)
            cases r0 with
            | nil => exact hne (by rw [hq]; exact List.mem_cons_self)
            | cons y t =>
              have := h0.2 y List.mem_cons_self
              omega
        rw [hnil, winR_nil]
        exact SqT.of upd_same
      · have cn : p.length < n := by
          have : (p.length : Int) ≠ (n : Int) := fun z => cn (congrArg V.int z)
          omega
        walk_at "rqs"
        refine rd_if ?_
        walk_at "rqs"
        refine ⟨Nat.zero_le _, fun t ht => ?_⟩
        have e2 := Evl.Ex.new (o := .lst []) ht
        refine ⟨.list ((askedF p rs).map dR), .list [], .lst (SqL.of (e2 _ _ eL')) (dpAll_ex e2 _ _ hys), .lst (SqL.of upd_same) .nil, (Nice.lst (nice_rows (by omega : n ≤ 60) harow)).shaped (by decide), rfl, ?_⟩
        have ee : PyData.eqv (.list ((askedF p rs).map dR)) (.list []) = (askedF p rs).isEmpty := by cases askedF p rs <;> rfl
        rw [ee]
        have e2 := e.trans e2
        have eL2 := (Evl.Ex.new (o := .lst []) ht) _ _ eL'
        have hy2 := dpAll_ex (Evl.Ex.new (o := .lst []) ht) _ _ hys
        clear e eL' hys
        generalize upd H' t (.lst []) = H2 at e2 eL2 hy2 ⊢
        walk_at "rqs"
        cases ca : (askedF p rs).isEmpty with
        | true =>
          refine (if_pos rfl).mpr ?_
          have ca := List.isEmpty_iff.mp ca
          walk_at "rqs"
          refine rd_slS (by rw [hz.1, sizeLine_eq]; omega) ?_
          walk_at "rqs"
          refine ⟨_, n - p.length, rfl, own_drop hz (by omega), by omega, fun g hg => ?_⟩
          walk_at "rqs"
          refine ⟨(by show 2 ≤ sizeLine; decide), fun o ho => ?_⟩
          refine q _ _ (e2.trans (Evl.Ex.new ho)) ⟨o, g, rfl, hg, ?_⟩
          rw [ca, winR_nil]
          exact SqT.of upd_same
        | false =>
          refine (if_neg (by decide)).mpr ?_
          have hne0 : askedF p rs ≠ [] := fun z => by rw [z] at ca; cases ca
          walk_at "rqs"
          refine ⟨(by show 2 ≤ sizeLine; decide), fun tt htt => ?_⟩
          have e3 := Evl.Ex.new (o := .tup [V.int ((p.length : Int) + 1), V.int (-(p.length : Int) - 1)]) htt
          have eL3 := e3 _ _ eL2
          have hy3 := dpAll_ex e3 _ _ hy2
          have stt : SqT K (upd H2 tt (.tup [V.int ((p.length : Int) + 1), V.int (-(p.length : Int) - 1)])) tt [V.int ((p.length : Int) + 1), V.int (-(p.length : Int) - 1)] := SqT.of upd_same
          have e3 := e2.trans e3
          clear e2 eL2 hy2
          generalize upd H2 tt (.tup [V.int ((p.length : Int) + 1), V.int (-(p.length : Int) - 1)]) = H3 at e3 eL3 hy3 stt ⊢
          refine rd_ref stt ?_
          let lit : Nat → Int := fun i => if i = 0 then (p.length : Int) + 1 else -(p.length : Int) - 1
          have hlit : ∀ i, (lit i).natAbs = p.length + 1 := fun i => by
            show (if i = 0 then (p.length : Int) + 1 else -(p.length : Int) - 1).natAbs = _
            split <;> omega
          refine lc_exT (σx := fun x => [some (.str z), some (.ref a), some (.ref b), some (.ref L), x4, x5, some (.int (p.length : Int)), none, none, some x])
            (fun i acc H' => acc.length = i ∧ ∀ j v, acc[j]? = some v → EndT K H' n z (p ++ [lit j]) (askedF p rs) v)
            (fun i acc H1 D ys u hD h => ⟨h.1, fun j v hj => by
              obtain ⟨q1, c1, h1, h2, h3⟩ := h.2 j v hj
              exact ⟨q1, c1, h1, h2, tup_upd hD lst_not h3⟩⟩) stt (by show 2 ≤ 40000; decide) (fun _ => rfl) (fun _ => rfl) (fun H' _ => ⟨rfl, fun j v hj => by simp at hj⟩)
            (fun i x hi acc H' N e4 hP hN => ?_) fun D acc H5 e5 hDn hD hP => ?_
          · have hx : x = .int (lit i) := by
              cases i with
              | zero => exact (Option.some.inj hi).symm
              | succ i =>
                cases i with
                | zero => exact (Option.some.inj hi).symm
                | succ i => simp at hi
            subst hx
            walk_at "rqs"
            refine ⟨(by show 1 ≤ sizeLine; decide), fun u hu => ?_⟩
            have e5 := e4.trans (Evl.Ex.new (o := .tup [V.int (lit i)]) hu)
            refine rd_catT (Evl.ex_t (e3.trans e5) hb) (SqT.of upd_same) (by rw [psz, sizeLine_eq]; show _ + 1 ≤ _; omega) fun c H6 e6 s6 => ?_
            have e7 := e5.trans e6
            have s6 : SqT K H6 c ((p ++ [lit i]).map V.int) := by
              rw [List.map_append]
              exact s6
            have hlen : (p ++ [lit i]).length = p.length + 1 := by rw [List.length_append] <;> rfl
            refine ⟨z, L, c, n, ys, askedF p rs, p ++ [lit i], rfl, hz, hn, SqL.of (e7 _ _ eL3), dpAll_ex e7 _ _ hy3, harow, by omega, s6, hp.snoc (hlit i), by rw [hlen]; omega, by rw [hlen]; omega, fun v H7 e8 hv => ?_⟩
            have e9 : Evl.Ex H' H7 := ((Evl.Ex.new (o := .tup [V.int (lit i)]) hu).trans e6).trans e8
            refine hN v H7 e9 ⟨by rw [List.length_append, hP.1] <;> rfl, fun j w' hj => ?_⟩
            rw [List.getElem?_append] at hj
            split at hj
            · exact (hP.2 j w' hj).ex e9
            · next hc =>
              have hji : j = i := by
                have h1 := hP.1
                by_cases z : j - acc.length = 0
                · omega
                · rw [List.getElem?_eq_none (by show 1 ≤ j - acc.length; omega)] at hj
                  cases hj
              subst hji
              rw [hP.1, Nat.sub_self] at hj
              obtain rfl : v = w' := Option.some.inj hj
              exact hv
          · obtain ⟨v1, v2, rfl⟩ : ∃ v1 v2, acc = [v1, v2] := by
              have h1 := hP.1
              match acc, h1 with
              | [v1, v2], _ => exact ⟨v1, v2, rfl⟩
            obtain ⟨q1, c1, rfl, hc1, t1⟩ := hP.2 0 v1 rfl
            obtain ⟨q2, c2, rfl, hc2, t2⟩ := hP.2 1 v2 rfl
            have l1 : (p ++ [lit 0]).length = p.length + 1 := by rw [List.length_append] <;> rfl
            have l2 : (p ++ [lit 1]).length = p.length + 1 := by rw [List.length_append] <;> rfl
            have as1 := askedF_snoc (rs := askedF p rs) (hlit 0) hfrom hne
            have as2 := askedF_snoc (rs := askedF p rs) (hlit 1) hfrom hne
            have hl1 : lit 1 = -((p.length : Int) + 1) := by show -(p.length : Int) - 1 = _; omega
            have hl0 : lit 0 = (p.length : Int) + 1 := rfl
            rw [l1] at hc1
            rw [l2] at hc2
            rw [l1, as1, hl0] at t1
            rw [l2, as2, hl1] at t2
            obtain ⟨m, hm⟩ : ∃ m, n - p.length = m + 1 := ⟨n - p.length - 1, by omega⟩
            have hm2 : n - (p.length + 1) = m := by omega
            rw [hm2] at hc1 hc2 t1 t2
            have step := winR_step (z := z) (m := m) (letter := (p.length : Int) + 1) hne0 hne
            rw [show ((p.length + 1 : Nat) : Int) + 1 = (p.length : Int) + 1 + 1 by omega] at t1 t2
            generalize winR z m ((p.length : Int) + 1 + 1) (beh ((p.length : Int) + 1) (askedF p rs)) = b1 at t1 step
            generalize winR z m ((p.length : Int) + 1 + 1) (beh (-((p.length : Int) + 1)) (askedF p rs)) = b2 at t2 step
            have fin : ∀ (cnt : Nat) (bw : Bool) (o : Addr) (H8 : Hp), Evl.Ex H5 H8 → H8 o = none → cnt < 2 ^ 2 ^ (m + 1) → winR z (m + 1) ((p.length : Int) + 1) (askedF p rs) = bw → Q (.ref o) (upd H8 o (.tup [.str (whoT bw), .int (cnt : Int)])) := fun cnt bw o H8 e8 ho hc hw => by
              refine q _ _ (((e3.trans e5).trans e8).trans (Evl.Ex.new ho)) ⟨o, cnt, rfl, ?_, ?_⟩
              · rw [hm]
                exact hc
              · rw [hm, hw]
                exact SqT.of upd_same
            refine rd_unl2 (SqL.of hD) rfl (σ' := [some (.str z), some (.ref a), some (.ref b), some (.ref L), x4, x5, some (.int (p.length : Int)), some (.ref q1), some (.ref q2), none]) rfl ?_
            walk_at "rqs"
            refine rd_if ?_
            walk_at "rqs"
            have hat : atI z.cps.toList (p.length : Int) = some (sgn z ((p.length : Int) + 1)) := by
              have := at_sgn2 hz (x := (p.length : Int) + 1) (by omega) (by omega)
              rw [show (p.length : Int) + 1 - 1 = (p.length : Int) by omega] at this
              exact this
            refine rd_ixS (by rw [hz.1, sizeLine_eq]; omega) hat ?_
            walk_at "rqs"
            refine rd_iteb (b := heldBy z "s" ((p.length : Int) + 1)) (fun ch => ?_) (fun ch => ?_)
            · rw [if_pos ch] at step
              walk_at "rqs"
              refine rd_ixT t1 rfl ?_
              walk_at "rqs"
              refine rd_ixT t2 rfl ?_
              walk_at "rqs"
              refine ⟨(by show 2 ≤ sizeLine; decide), fun u hu => ?_⟩
              have eu := Evl.Ex.new (o := .tup [V.str (whoT b1), .str (whoT b2)]) hu
              refine ⟨u, _, rfl, .inr (SqT.of upd_same), rfl, rfl, ?_⟩
              rw [if_neg (by decide), inV_who]
              walk_at "rqs"
              refine who_lit ?_
              walk_at "rqs"
              refine rd_ixT (Evl.ex_t eu t1) rfl ?_
              walk_at "rqs"
              refine rd_ixT (Evl.ex_t eu t2) rfl ?_
              walk_at "rqs"
              refine ⟨(by show 2 ≤ sizeLine; decide), fun o ho => ?_⟩
              exact fin (c1 + c2) (b1 || b2) o _ eu ho (cnt_add hc1 hc2) step
            · rw [if_neg (by rw [ch]; decide)] at step
              have hpow : (0 : Nat) < 2 ^ m := Nat.two_pow_pos m
              have hp13 : 2 ^ m ≤ 2 ^ 13 := Nat.pow_le_pow_right (by decide) (by omega)
              have h13 : (2 : Nat) ^ 13 = 8192 := by decide
              have last : ∀ (bw : Bool), (b1 && b2) = bw → tCons (tOp (rI CMulW fun i j => V.int (i * j)) (tOp (rIxT K) (tVar 7) (tC (.int 1))) (tOp (rIxT K) (tVar 8) (tC (.int 1)))) tNil [some (.str z), some (.ref a), some (.ref b), some (.ref L), x4, x5, some (.int (p.length : Int)), some (.ref q1), some (.ref q2), none] H5
                  (fun xs H2 => (V.str (whoT bw) :: xs).length ≤ sizeLine ∧ ∀ p, H2 p = none → Q (.ref p) (upd H2 p (.tup (V.str (whoT bw) :: xs)))) := fun bw hbw => by
                walk_at "rqs"
                refine rd_ixT t1 rfl ?_
                walk_at "rqs"
                refine rd_ixT t2 rfl ?_
                walk_at "rqs"
                refine rd_I (wide_mul (by rw [Int.natAbs_natCast]; exact hc1) (by rw [Int.natAbs_natCast]; exact hc2) hpow hpow (by omega)) ?_
                walk_at "rqs"
                refine ⟨(by show 2 ≤ sizeLine; decide), fun o ho => ?_⟩
                have := fin (c1 * c2) bw o _ (Evl.Ex.refl _) ho (cnt_mul hc1 hc2) (step.trans hbw)
                rw [Int.natCast_mul] at this
                exact this
              walk_at "rqs"
              refine rd_chain ?_
              walk_at "rqs"
              refine rd_ixT t1 rfl ?_
              walk_at "rqs"
              refine rd_ixT t2 rfl ?_
              walk_at "rqs"
              cases b1 with
              | true =>
                cases b2 with
                | true =>
                  refine (if_pos (decide_eq_true rfl)).mpr ?_
                  walk_at "rqs"
                  refine (if_pos (by decide)).mpr ?_
                  exact last true rfl
                | false =>
                  refine (if_neg (by decide)).mpr ?_
                  walk_at "rqs"
                  refine rd_ixT t1 rfl ?_
                  walk_at "rqs"
                  refine rd_ixT t2 rfl ?_
                  walk_at "rqs"
                  refine rd_I (wide_mul (by rw [Int.natAbs_natCast]; exact hc1) (by rw [Int.natAbs_natCast]; exact hc2) hpow hpow (by omega)) ?_
                  walk_at "rqs"
                  refine ⟨(by show 2 ≤ sizeLine; decide), fun o ho => ?_⟩
                  have := fin (c1 * c2) false o _ (Evl.Ex.refl _) ho (cnt_mul hc1 hc2) step
                  rw [Int.natCast_mul] at this
                  exact this
              | false =>
                cases b2 with
                | true =>
                  refine (if_neg (by decide)).mpr ?_
                  walk_at "rqs"
                  refine rd_ixT t1 rfl ?_
                  walk_at "rqs"
                  refine rd_ixT t2 rfl ?_
                  walk_at "rqs"
                  refine rd_I (wide_mul (by rw [Int.natAbs_natCast]; exact hc1) (by rw [Int.natAbs_natCast]; exact hc2) hpow hpow (by omega)) ?_
                  walk_at "rqs"
                  refine ⟨(by show 2 ≤ sizeLine; decide), fun o ho => ?_⟩
                  have := fin (c1 * c2) false o _ (Evl.Ex.refl _) ho (cnt_mul hc1 hc2) step
                  rw [Int.natCast_mul] at this
                  exact this
                | false =>
                  refine (if_pos (decide_eq_true rfl)).mpr ?_
                  walk_at "rqs"
                  refine (if_neg Bool.false_ne_true).mpr ?_
                  exact last false rfl
theorem ok_ends0 {f : Addr} {fd : FuncData} : FnOk P w K mg base CX0 1 f fd ["owners", "rows", "play"] (spEndsL K 0) :=
  ⟨fun vs H Q E h => by
    obtain ⟨z, a, b, n, xs, rs, p, _, _, _, _, _, _, _, _, _, _, hM, _⟩ := h
    exact absurd hM (Nat.not_lt_zero _), fun A outer s H args us vs Q E hr e0 hb r hsp => by
    obtain ⟨z, a, b, n, xs, rs, p, _, _, _, _, _, _, _, _, _, _, hM, _⟩ := hsp
    exact absurd hM (Nat.not_lt_zero _)⟩
theorem ok_ends {f fF : Addr} {fd fdF : FuncData} (F : Fun K "_law_ends" "_law_ends" s_law_ends f fd) (T : Bl mg)
    (G_law_free : FnOk P w K mg base CX0 1 fF fdF ["owners"] (spFree K)) (C_law_free : Callee K mg "_law_free" fF fdF ["owners"])
    (C_law_ends : Callee K mg "_law_ends" f fd ["owners", "rows", "play"]) : ∀ M : Nat, FnOk P w K mg base CX0 (M + 1) f fd ["owners", "rows", "play"] (spEndsL K M)
  | 0 => ok_ends0
  | M + 1 => ok_ends1 F T (Nat.succ_le_succ (Nat.zero_le M)) G_law_free C_law_free (ok_ends F T G_law_free C_law_free C_law_ends M) C_law_ends
/-- at the top -/
theorem ok_endsTop {f fF : Addr} {fd fdF : FuncData} (F : Fun K "_law_ends" "_law_ends" s_law_ends f fd) (T : Bl mg)
    (G_law_free : FnOk P w K mg base CX0 1 fF fdF ["owners"] (spFree K)) (C_law_free : Callee K mg "_law_free" fF fdF ["owners"])
    (C_law_ends : Callee K mg "_law_ends" f fd ["owners", "rows", "play"]) : FnOk P w K mg base CX0 14 f fd ["owners", "rows", "play"] (spEndsT K 13) :=
  ok_endsT F T (by decide) G_law_free C_law_free (ok_ends F T G_law_free C_law_free C_law_ends 12) C_law_ends
end
end KA
set_option Elab.async false
set_option linter.all false
set_option maxRecDepth 100000
set_option maxHeartbeats 400000
set_option pp.maxSteps 300
namespace KA
open PySem PySem.Spec PyProof.Rows L2 Ea
local macro_rules | `(tactic| walk_at "rd") => `(tactic| first
  | (with_reducible refine rd_seq ?_) | (with_reducible refine rd_asg ?_) | (with_reducible refine rd_if ?_) | (with_reducible refine rd_ret ?_) | (with_reducible refine rd_next ?_)
  | (with_reducible refine rd_drop ?_) | ((with_reducible refine rd_name (σ' := ?ss) ?hs ?_); (case hs => (dsimp only [List.set]; exact rfl)))
  | ((with_reducible refine rd_var (v := ?vv) ?hv ?_); (case hv => exact rfl)) | (with_reducible refine rd_c ?_) | (with_reducible refine rd_op ?_) | (with_reducible refine rd_un ?_)
  | (with_reducible refine rd_I0 ?_) | (with_reducible refine rd_U ?_) | (with_reducible refine rd_test ?_) | (with_reducible refine rd_B ?_) | (with_reducible refine rd_k ?_)
  | (with_reducible refine rd_not ?_) | (with_reducible refine rd_and ?_) | (with_reducible refine rd_or ?_) | (with_reducible refine rd_ifE ?_)
  | (with_reducible refine rd_par ?_) | ((with_reducible refine rd_par2 (σ' := ?ss) ?hs ?_); (case hs => (dsimp only [List.set]; exact rfl)))
  | (with_reducible refine rd_gsub ?_) | (with_reducible refine rd_andV ?_) | (with_reducible refine rd_orV ?_) | (with_reducible refine rd_notV ?_)
  | (with_reducible refine rd_lc ?_) | (with_reducible refine rd_iTup ?_) | (with_reducible refine rd_iList ?_) | (with_reducible refine rd_iRng1 ?_) | (with_reducible refine rd_iRng2 ?_) | (with_reducible refine rd_iEnumT ?_) | (with_reducible refine rd_iEnum ?_) | (with_reducible refine rd_iZipM ?_) | (with_reducible refine rd_iEnumS ?_) | (with_reducible refine rd_iKeys ?_) | (with_reducible refine rd_din ?_) | (with_reducible refine rd_dnotin ?_)
  | (with_reducible refine rd_yes ?_) | (with_reducible refine rd_true ?_) | (with_reducible refine rd_false ?_) | (with_reducible refine rd_m1 ?_) | (with_reducible refine rd_isS ?_)
  | ((with_reducible refine rd_eq ?hs ?_); (case hs => exact rfl)) | ((with_reducible refine rd_ne ?hs ?_); (case hs => exact rfl))
  | (with_reducible refine rd_listRg ?_) | (with_reducible refine rd_rg2 ?_) | (with_reducible refine rd_rgk ?_)
  | (with_reducible refine rd_dnew ?_) | (with_reducible refine rd_ddel ?_) | (with_reducible refine rd_kw ?_) | (with_reducible refine rd_callS ?_) | (with_reducible refine rd_dc ?_) | (with_reducible refine rd_for ?_) | (with_reducible refine rd_tru ?_) | (with_reducible refine rd_truI ?_)
  | (with_reducible refine rd_nil ?_) | (with_reducible refine rd_cons ?_) | (with_reducible refine rd_call ?_) | (with_reducible refine rd_cb ?_)
  | (with_reducible refine rd_tup ?_) | (with_reducible refine rd_lst ?_) | (with_reducible refine rd_dget ?_) | (with_reducible refine rd_dput ?_) | (with_reducible refine rd_dget2 ?_) | (with_reducible refine rd_sl ?_)
  | (with_reducible refine rd_nopart ?_) | (with_reducible refine rd_part ?_) | (with_reducible refine rd_parti ?_) | (with_reducible refine rd_bm ?_) | (with_reducible refine rd_bm0 ?_)
  | (with_reducible refine rd_int ?_) | (with_reducible refine rd_intb ?_) | (with_reducible refine rd_abs ?_) | (with_reducible refine rd_min2 ?_) | (with_reducible refine rd_max2 ?_))
local macro_rules | `(tactic| walk_at "rds") => `(tactic| repeat (walk_at "rd"))
local macro_rules | `(tactic| walk_at "rq") => `(tactic| first
  | (with_reducible refine rd_seq ?_) | (with_reducible refine rd_asg ?_) | (with_reducible refine rd_ret ?_) | (with_reducible refine rd_next ?_)
  | (with_reducible refine rd_drop ?_) | ((with_reducible refine rd_name (σ' := ?ss) ?hs ?_); (case hs => (dsimp only [List.set]; exact rfl)))
  | ((with_reducible refine rd_var (v := ?vv) ?hv ?_); (case hv => exact rfl)) | (with_reducible refine rd_c ?_) | (with_reducible refine rd_op ?_) | (with_reducible refine rd_un ?_)
  | (with_reducible refine rd_I0 ?_) | (with_reducible refine rd_U ?_) | (with_reducible refine rd_test ?_) | (with_reducible refine rd_B ?_) | (with_reducible refine rd_k ?_)
  | (with_reducible refine rd_not ?_) | (with_reducible refine rd_and ?_) | (with_reducible refine rd_or ?_) | (with_reducible refine rd_ifE ?_)
  | (with_reducible refine rd_par ?_) | ((with_reducible refine rd_par2 (σ' := ?ss) ?hs ?_); (case hs => (dsimp only [List.set]; exact rfl)))
  | (with_reducible refine rd_gsub ?_) | (with_reducible refine rd_andV ?_) | (with_reducible refine rd_orV ?_) | (with_reducible refine rd_notV ?_)
  | (with_reducible refine rd_lc ?_) | (with_reducible refine rd_iTup ?_) | (with_reducible refine rd_iList ?_) | (with_reducible refine rd_iRng1 ?_) | (with_reducible refine rd_iRng2 ?_) | (with_reducible refine rd_iEnumT ?_) | (with_reducible refine rd_iEnum ?_) | (with_reducible refine rd_iZipM ?_) | (with_reducible refine rd_iEnumS ?_) | (with_reducible refine rd_iKeys ?_) | (with_reducible refine rd_din ?_) | (with_reducible refine rd_dnotin ?_)
  | (with_reducible refine rd_yes ?_) | (with_reducible refine rd_true ?_) | (with_reducible refine rd_false ?_) | (with_reducible refine rd_m1 ?_) | (with_reducible refine rd_isS ?_)
  | ((with_reducible refine rd_eq ?hs ?_); (case hs => exact rfl)) | ((with_reducible refine rd_ne ?hs ?_); (case hs => exact rfl))
  | (with_reducible refine rd_listRg ?_) | (with_reducible refine rd_rg2 ?_) | (with_reducible refine rd_rgk ?_)
  | (with_reducible refine rd_dnew ?_) | (with_reducible refine rd_ddel ?_) | (with_reducible refine rd_kw ?_) | (with_reducible refine rd_callS ?_) | (with_reducible refine rd_dc ?_) | (with_reducible refine rd_for ?_) | (with_reducible refine rd_tru ?_) | (with_reducible refine rd_truI ?_)
  | (with_reducible refine rd_nil ?_) | (with_reducible refine rd_cons ?_) | (with_reducible refine rd_call ?_) | (with_reducible refine rd_cb ?_)
  | (with_reducible refine rd_tup ?_) | (with_reducible refine rd_lst ?_) | (with_reducible refine rd_dget ?_) | (with_reducible refine rd_dput ?_) | (with_reducible refine rd_dget2 ?_) | (with_reducible refine rd_sl ?_)
  | (with_reducible refine rd_nopart ?_) | (with_reducible refine rd_part ?_) | (with_reducible refine rd_parti ?_) | (with_reducible refine rd_bm ?_) | (with_reducible refine rd_bm0 ?_)
  | (with_reducible refine rd_int ?_) | (with_reducible refine rd_intb ?_) | (with_reducible refine rd_abs ?_) | (with_reducible refine rd_min2 ?_) | (with_reducible refine rd_max2 ?_))
local macro_rules | `(tactic| walk_at "rqs") => `(tactic| repeat (walk_at "rq"))
local macro_rules | `(tactic| walk_at "rv") => `(tactic| first
  | (with_reducible refine rd_seq ?_) | (with_reducible refine rd_asg ?_) | (with_reducible refine rd_ret ?_) | (with_reducible refine rd_next ?_)
  | (with_reducible refine rd_drop ?_) | ((with_reducible refine rd_name (σ' := ?ss) ?hs ?_); (case hs => (dsimp only [List.set]; exact rfl)))
  | ((with_reducible refine rd_var (v := ?vv) ?hv ?_); (case hv => exact rfl)) | (with_reducible refine rd_c ?_) | (with_reducible refine rd_op ?_) | (with_reducible refine rd_un ?_)
  | (with_reducible refine rd_I0 ?_) | (with_reducible refine rd_U ?_) | (with_reducible refine rd_test ?_) | (with_reducible refine rd_B ?_) | (with_reducible refine rd_k ?_)
  | (with_reducible refine rd_not ?_) | (with_reducible refine rd_and ?_) | (with_reducible refine rd_or ?_)
  | (with_reducible refine rd_par ?_) | ((with_reducible refine rd_par2 (σ' := ?ss) ?hs ?_); (case hs => (dsimp only [List.set]; exact rfl)))
  | (with_reducible refine rd_gsub ?_) | (with_reducible refine rd_andV ?_) | (with_reducible refine rd_orV ?_) | (with_reducible refine rd_notV ?_)
  | (with_reducible refine rd_lc ?_) | (with_reducible refine rd_iTup ?_) | (with_reducible refine rd_iList ?_) | (with_reducible refine rd_iRng1 ?_) | (with_reducible refine rd_iRng2 ?_) | (with_reducible refine rd_iEnumT ?_) | (with_reducible refine rd_iEnum ?_) | (with_reducible refine rd_iZipM ?_) | (with_reducible refine rd_iEnumS ?_) | (with_reducible refine rd_iKeys ?_) | (with_reducible refine rd_din ?_) | (with_reducible refine rd_dnotin ?_)
  | (with_reducible refine rd_yes ?_) | (with_reducible refine rd_true ?_) | (with_reducible refine rd_false ?_) | (with_reducible refine rd_m1 ?_) | (with_reducible refine rd_isS ?_)
  | ((with_reducible refine rd_eq ?hs ?_); (case hs => exact rfl)) | ((with_reducible refine rd_ne ?hs ?_); (case hs => exact rfl))
  | (with_reducible refine rd_listRg ?_) | (with_reducible refine rd_rg2 ?_) | (with_reducible refine rd_rgk ?_)
  | (with_reducible refine rd_dnew ?_) | (with_reducible refine rd_ddel ?_) | (with_reducible refine rd_kw ?_) | (with_reducible refine rd_callS ?_) | (with_reducible refine rd_dc ?_) | (with_reducible refine rd_for ?_) | (with_reducible refine rd_tru ?_) | (with_reducible refine rd_truI ?_)
  | (with_reducible refine rd_nil ?_) | (with_reducible refine rd_cons ?_) | (with_reducible refine rd_call ?_) | (with_reducible refine rd_cb ?_)
  | (with_reducible refine rd_tup ?_) | (with_reducible refine rd_lst ?_) | (with_reducible refine rd_dget ?_) | (with_reducible refine rd_dput ?_) | (with_reducible refine rd_dget2 ?_) | (with_reducible refine rd_sl ?_)
  | (with_reducible refine rd_nopart ?_) | (with_reducible refine rd_part ?_) | (with_reducible refine rd_parti ?_) | (with_reducible refine rd_bm ?_) | (with_reducible refine rd_bm0 ?_)
  | (with_reducible refine rd_int ?_) | (with_reducible refine rd_intb ?_) | (with_reducible refine rd_abs ?_) | (with_reducible refine rd_min2 ?_) | (with_reducible refine rd_max2 ?_))
local macro_rules | `(tactic| walk_at "rvs") => `(tactic| repeat (walk_at "rv"))

/-- by names alone: the values stand the other way round -/
abbrev KwRev (fd : FuncData) (ks : List Str) : Prop := ∀ (s : Shared) (ws : List Value), ws.length = ks.length → BindsTo s fd ⟨[], ks.reverse.zip ws⟩ (ks.zip ws.reverse)
theorem rd_byF {fld : Str} {C a : Addr} {cls : Value} {d : Option Addr} {te : TE} {σ : L2.St} {H : Hp} {Q : VK} (h : te σ H fun x H1 => x = .ref a ∧ cls = .ref C ∧ ∃ (dd : Addr) (v : V), d = some dd ∧ H1 dd = some (.xd [(fld, v)]) ∧ Q v H1) : tByF fld C a cls d te σ H Q := h
theorem row_lit {n : Nat} {r : List Int} (h : Row n r) (hn : n ≤ 60) : Lit r := ⟨fun x hx => ⟨(h.2 x hx).1, Nat.le_trans (h.2 x hx).2 hn⟩, Nat.le_trans h.length hn⟩
/-- a sentence -/
def Sen (K : PySem.W.Frag) (H : Hp) (n : Nat) (a : Addr) (z : Str) (rs : List (List Int)) : Prop :=
  ∃ (c : Addr) (xs : List V), SqT K H a [.str z, .ref c] ∧ SqT K H c xs ∧ DpAll K H xs (rs.map dR) ∧ OwnS n z ∧ n ≤ 60 ∧ (∀ r ∈ rs, Row n r) ∧ rs.length ≤ 300
theorem Sen.ex {K : PySem.W.Frag} {H H' : Hp} {n : Nat} {a : Addr} {z : Str} {rs : List (List Int)} (e : Evl.Ex H H') (h : Sen K H n a z rs) : Sen K H' n a z rs := by
  obtain ⟨c, xs, h1, h2, h3, h4⟩ := h
  exact ⟨c, xs, Evl.ex_t e h1, Evl.ex_t e h2, dpAll_ex e _ _ h3, h4⟩
/-- who wins behind a play -/
def winF (n : Nat) (z : Str) (rs : List (List Int)) (p : List Int) : Bool := winR z (n - p.length) ((p.length : Int) + 1) (askedF p rs)
def heardD (n : Nat) (z : Str) (rs : List (List Int)) (p : List Int) : PyData := if n ≤ 12 then .list [.str "told", .str (whoT (winF n z rs p))] else .list [.str "many", .int 12, .bool true]
section
variable {P : Program} {w : World} {K : PySem.W.Frag} {mg : Str → Option Value} {base : Heap}
def spWinner (K : PySem.W.Frag) (C : Addr) : Sp := fun vs H Q E => ∃ (a b : Addr) (z : Str) (n : Nat) (rs : List (List Int)) (p : List Int), vs = [.ref a, .ref b] ∧ Sen K H n a z rs ∧ SqT K H b (p.map V.int) ∧ p.length ≤ n ∧
  (n ≤ 12 → ∀ H', Evl.Ex H H' → Q (.str (whoT (winF n z rs p))) H') ∧ (12 < n → OutM C H E)
theorem ok_winner {f C fC fA fW : Addr} {fd fdC fdA fdW : FuncData} (F : Fun K "winner" "winner" swinner f fd) (T : Bl mg)
    (Gcheck_size : FnOk P w K mg base (L2.CX P w) 3 fC fdC ["sentence"] (spSize K C)) (Ccheck_size : Callee K mg "check_size" fC fdC ["sentence"])
    (Gasked_from : FnOk P w K mg base CX0 2 fA fdA ["sentence", "play"] (spFrom K)) (Casked_from : Callee K mg "asked_from" fA fdA ["sentence", "play"])
    (Gsome_wins : FnOk P w K mg base CX0 14 fW fdW ["owners", "letter", "asked"] (spWins K 13)) (Csome_wins : Callee K mg "some_wins" fW fdW ["owners", "letter", "asked"]) :
    FnOk P w K mg base (L2.CX P w) 15 f fd ["sentence", "play"] (spWinner K C) := by
  refine F.okX scwinner (fun vs H Q E h => ?_) (fun cdv A outer s H vs Q E hr h => ?_)
  · obtain ⟨a, b, z, n, rs, p, rfl, _⟩ := h
    rfl
  · obtain ⟨a, b, z, n, rs, p, rfl, ⟨c, xs, s1, s2, dd, hz, hn, hrow, hl⟩, hb, pl, q1, q2⟩ := h
    refine ⟨_, (pss_cons (ps_expr (pe_callS Gcheck_size (hr.mono (by decide)) (by rfl) Ccheck_size.m Ccheck_size.k Ccheck_size.b (fun σ => passAt (takes_of rfl rfl rfl rfl) σ) (pa_cons (pv 0) pa_nil)))
 (pss_cons (ps_set (i := 2) scwinner.nd rfl (Or.inl rfl) (pe_call Gsome_wins (hr.mono (by decide)) (by rfl) Csome_wins.m Csome_wins.k Csome_wins.b .nil pass0 (pa_cons (pe_ix (ik_tup (K := K) rfl) (pv 0) pe_int (fun _ _ => rfl)) (pa_cons (pe_op op_add (pe_callB (c_len (K := K) rfl) (by rfl) T.len (by decide +kernel) (pa_cons (pv 1) pa_nil)) pe_int) (pa_cons (pe_call Gasked_from (hr.mono (by decide)) (by rfl) Casked_from.m Casked_from.k Casked_from.b .nil pass0 (pa_cons (pv 0) (pa_cons (pv 1) pa_nil))) pa_nil)))))
 (pss_one (ps_ret (pe_ifExp (pt_val (pv 2)) pe_str pe_str))))), ?_⟩
    refine rd_start (σ' := [some (.ref a), some (.ref b), none]) rfl ?_
    walk_at "rqs"
    refine ⟨a, c, z, n, rfl, s1, hz, hn, fun hn12 => ?_, q2⟩
    walk_at "rqs"
    refine rd_ixT s1 rfl ?_
    walk_at "rqs"
    refine rd_lenT hb ?_
    rw [List.length_map]
    walk_at "rqs"
    refine ⟨a, c, b, z, xs, rs, p, rfl, s1, s2, dd, fun r hr => row_lit (hrow r hr) hn, by omega, hb, by omega, fun D ys H1 e1 eD hD hys => ?_⟩
    have hal := askedF_len p rs
    refine ⟨D, z, n, n - p.length, (p.length : Int) + 1, ys, askedF p rs, rfl, hz, hn, by omega, by omega, by omega, SqL.of hD, hys, askedF_from hrow, by omega, fun H2 e2 => ?_⟩
    walk_at "rds"
    exact who_lit (q1 hn12 _ (e1.trans e2))
end

theorem calm {P : Program} {w : World} {K : PySem.W.Frag} {mg : Str → Option Value} {base : Heap} {k : Nat} {f : Addr} {fd : FuncData} {ps : List Str} {sp sp0 : Sp} (F : FnOk P w K mg base (L2.CX P w) k f fd ps sp) (h : ∀ vs H Q E, sp0 vs H Q E → sp vs H Q E0) : FnOk P w K mg base CX0 k f fd ps sp0 :=
  ⟨fun vs H Q E h0 => F.len vs H Q E0 (h _ _ _ _ h0), fun A outer s H args us vs Q E hr he hb hv hs => codeAny_mono (F.run A outer s H args us vs Q E0 hr he hb hv (h _ _ _ _ hs)) fun r s' q => by
    cases r with
    | error e =>
      obtain ⟨_, _, _, _, _, _, _, _, _, _, _, _, z⟩ := q
      exact z.elim
    | ok fl => cases fl <;> exact q⟩
theorem trueIn_app {p : List Int} {l x : Int} (h : x.natAbs ≤ p.length) (h1 : 1 ≤ x.natAbs) : trueIn (p ++ [l]) x = trueIn p x := by
  unfold trueIn
  have e : (p ++ [l]).getD (x.natAbs - 1) 0 = p.getD (x.natAbs - 1) 0 := by
    rw [List.getD_eq_getElem?_getD, List.getD_eq_getElem?_getD, List.getElem?_append_left (by omega)]
  rw [e, decide_eq_true h, decide_eq_true (by rw [List.length_append]; omega : x.natAbs ≤ (p ++ [l]).length)]
theorem askedF_cons (p r : List Int) (t : List (List Int)) : askedF p (r :: t) = if r.any (trueIn p) = true then askedF p t else r.filter (openIn p) :: askedF p t := by
  unfold askedF
  rw [List.filter_cons]
  cases r.any (trueIn p) <;> rfl
theorem askedF_trans {p : List Int} {l : Int} : ∀ {rs : List (List Int)}, (∀ r ∈ rs, ∀ x ∈ r, 1 ≤ x.natAbs) → askedF (p ++ [l]) (askedF p rs) = askedF (p ++ [l]) rs
  | [], _ => rfl
  | r :: t, h => by
    have ih := askedF_trans (p := p) (l := l) (rs := t) fun r hr => h r (List.mem_cons_of_mem _ hr)
    have h1 := h r List.mem_cons_self
    rw [askedF_cons p r t, askedF_cons (p ++ [l]) r t]
    have ln : (p ++ [l]).length = p.length + 1 := by rw [List.length_append] <;> rfl
    cases c : r.any (trueIn p) with
    | true =>
      have c2 : r.any (trueIn (p ++ [l])) = true := by
        obtain ⟨x, hx, tx⟩ := List.any_eq_true.mp c
        refine List.any_eq_true.mpr ⟨x, hx, ?_⟩
        have hl : x.natAbs ≤ p.length := by
          unfold trueIn at tx
          rw [Bool.and_eq_true] at tx
          exact of_decide_eq_true tx.1
        rw [trueIn_app hl (h1 x hx)]
        exact tx
      rw [if_pos rfl, c2, if_pos rfl]
      exact ih
    | false =>
      rw [if_neg (by decide), askedF_cons]
      have ea : (r.filter (openIn p)).any (trueIn (p ++ [l])) = r.any (trueIn (p ++ [l])) := by
        rw [Bool.eq_iff_iff, List.any_eq_true, List.any_eq_true]
        refine ⟨fun ⟨x, hx, tx⟩ => ⟨x, (List.mem_filter.mp hx).1, tx⟩, fun ⟨x, hx, tx⟩ => ⟨x, List.mem_filter.mpr ⟨hx, ?_⟩, tx⟩⟩
        refine decide_eq_true (Nat.lt_of_not_le fun hl => ?_)
        rw [trueIn_app hl (h1 x hx)] at tx
        have := List.any_eq_false.mp c x hx
        exact this tx
      have eb : (r.filter (openIn p)).filter (openIn (p ++ [l])) = r.filter (openIn (p ++ [l])) := by
        rw [List.filter_filter]
        refine List.filter_congr fun x _ => ?_
        cases q : openIn (p ++ [l]) x with
        | false => rfl
        | true =>
          have q := of_decide_eq_true q
          rw [ln] at q
          have : openIn p x = true := decide_eq_true (by omega)
          rw [this] <;> rfl
      rw [ea, eb, ih]
theorem winF_step {n : Nat} {z : Str} {rs : List (List Int)} {p : List Int} (hrow : ∀ r ∈ rs, Row n r) (hp : p.length < n) :
    winF n z rs p = if heldBy z "s" ((p.length : Int) + 1) = true then winF n z rs (p ++ [(p.length : Int) + 1]) || winF n z rs (p ++ [-((p.length : Int) + 1)]) else winF n z rs (p ++ [(p.length : Int) + 1]) && winF n z rs (p ++ [-((p.length : Int) + 1)]) := by
  have h1 : ∀ r ∈ rs, ∀ x ∈ r, 1 ≤ x.natAbs := fun r hr x hx => ((hrow r hr).2 x hx).1
  obtain ⟨m, hm⟩ : ∃ m, n - p.length = m + 1 := ⟨n - p.length - 1, by omega⟩
  have ch : ∀ l : Int, winF n z rs (p ++ [l]) = winR z m ((p.length : Int) + 1 + 1) (askedF (p ++ [l]) (askedF p rs)) := fun l => by
    unfold winF
    have ln : (p ++ [l]).length = p.length + 1 := by rw [List.length_append] <;> rfl
    rw [askedF_trans h1, ln]
    have e1 : n - (p.length + 1) = m := by omega
    rw [e1]
    congr 1
  rw [ch, ch]
  have hfrom := askedF_from (p := p) hrow
  unfold winF
  rw [hm]
  by_cases h0 : askedF p rs = []
  · rw [h0]
    have en : ∀ q, askedF q [] = [] := fun q => rfl
    rw [en, en, winR_nil, winR_nil]
    split <;> rfl
  · by_cases hn : [] ∈ askedF p rs
    · have hc : ∀ l : Int, [] ∈ askedF (p ++ [l]) (askedF p rs) := fun l => List.mem_map.mpr ⟨[], List.mem_filter.mpr ⟨hn, rfl⟩, rfl⟩
      rw [winR_lost hn, winR_lost (hc _), winR_lost (hc _)]
      split <;> rfl
    · rw [winR_step h0 hn, askedF_snoc (by omega) hfrom hn, askedF_snoc (by omega) hfrom hn]
theorem askedF_nil {p : List Int} {rs : List (List Int)} : decide (askedF p rs = []) = rs.all fun r => r.any (trueIn p) := by
  induction rs with
  | nil => rfl
  | cons r t ih =>
    rw [askedF_cons, List.all_cons, ← ih]
    cases r.any (trueIn p) <;> simp
theorem winF_full {n : Nat} {z : Str} {rs : List (List Int)} {p : List Int} (hp : p.length = n) : winF n z rs p = rs.all fun r => r.any (trueIn p) := by
  rw [← askedF_nil]
  unfold winF
  rw [hp, Nat.sub_self]
  unfold winR
  by_cases h : askedF p rs = []
  · rw [if_pos h, decide_eq_true h]
  · rw [if_neg h, decide_eq_false h]
    split <;> rfl
section
variable {P : Program} {w : World} {K : PySem.W.Frag} {mg : Str → Option Value} {base : Heap}
/-- where there are not too many -/
def spWinner0 (K : PySem.W.Frag) : Sp := fun vs H Q _ => ∃ (a b : Addr) (z : Str) (n : Nat) (rs : List (List Int)) (p : List Int), vs = [.ref a, .ref b] ∧ Sen K H n a z rs ∧ SqT K H b (p.map V.int) ∧ p.length ≤ n ∧ n ≤ 12 ∧
  ∀ H', Evl.Ex H H' → Q (.str (whoT (winF n z rs p))) H'
theorem ok_winner0 {f C : Addr} {fd : FuncData} (G : FnOk P w K mg base (L2.CX P w) 15 f fd ["sentence", "play"] (spWinner K C)) : FnOk P w K mg base CX0 15 f fd ["sentence", "play"] (spWinner0 K) :=
  calm G fun vs H Q E ⟨a, b, z, n, rs, p, e, hs, hb, pl, hn, q⟩ => ⟨a, b, z, n, rs, p, e, hs, hb, pl, fun _ => q, fun h => absurd h (by omega)⟩
def resF (p : List Int) (rs : List (List Int)) : Str := if rs.all (fun r => r.any (trueIn p)) = true then "some" else "each"
theorem resF_lit {p : List Int} {rs : List (List Int)} {σ : L2.St} {H : Hp} {Q : VK} (h : Q (.str (resF p rs)) H) : if rs.all (fun r => r.any (trueIn p)) = true then tC (.str "some") σ H Q else tC (.str "each") σ H Q := by
  unfold resF at h
  split
  · next c =>
    rw [if_pos c] at h
    exact h
  · next c =>
    rw [if_neg c] at h
    exact h
def spResult (K : PySem.W.Frag) : Sp := fun vs H Q _ => ∃ (a c b : Addr) (z : Str) (xs : List V) (rs : List (List Int)) (p : List Int), vs = [.ref a, .ref b] ∧ SqT K H a [.str z, .ref c] ∧ SqT K H c xs ∧ DpAll K H xs (rs.map dR) ∧ (∀ r ∈ rs, Lit r) ∧ rs.length ≤ 1000 ∧ SqT K H b (p.map V.int) ∧ p.length ≤ 60 ∧
  ∀ H', Evl.Ex H H' → Q (.str (resF p rs)) H'
def spLResult (K : PySem.W.Frag) : Sp := fun vs H Q _ => ∃ (c b : Addr) (xs : List V) (rs : List (List Int)) (p : List Int), vs = [.ref c, .ref b] ∧ SqT K H c xs ∧ DpAll K H xs (rs.map dR) ∧ (∀ r ∈ rs, Lit r) ∧ rs.length ≤ 1000 ∧ SqT K H b (p.map V.int) ∧ PlayOk p ∧
  ∀ H', Evl.Ex H H' → Q (.str (resF p rs)) H'
theorem ones_nil {α : Type} {f : α → Bool} {l : List α} : (l.filter fun x => !f x).map (fun _ => V.int 1) = (((l.filter fun x => !f x).map fun _ => (1 : Int)).map V.int) := by rw [List.map_map] <;> rfl
theorem ones_empty {α : Type} {f : α → Bool} {l : List α} : ((l.filter fun x => !f x).map fun _ => (1 : Int)).isEmpty = l.all f := by
  rw [List.isEmpty_map, filter_none]
  induction l with
  | nil => rfl
  | cons x t ih =>
    rw [List.any_cons, List.all_cons, Bool.not_or, Bool.not_not, ih]
end
end KA
set_option Elab.async false
set_option linter.all false
set_option maxRecDepth 100000
set_option maxHeartbeats 400000
namespace Ea
open PySem PySem.Spec PyProof.Rows L2
/-- an if, its ends brought together -/
theorem rd_ifI {tt : TT} {ts tz : TS} {D : Ends} {σ : L2.St} {H : Hp} (I : L2.St → Hp → Prop) (h1 : ∀ N : L2.St → Hp → Prop, (∀ σ' H', I σ' H' → N σ' H') → tIfS tt ts tz { D with nx := N } σ H) (h : ∀ σ' H', I σ' H' → D.nx σ' H') : tIfS tt ts tz D σ H := h1 D.nx h
end Ea
namespace KA
open PySem PySem.Spec PyProof.Rows L2 Ea
local macro_rules | `(tactic| walk_at "rd") => `(tactic| first
  | (with_reducible refine rd_seq ?_) | (with_reducible refine rd_asg ?_) | (with_reducible refine rd_if ?_) | (with_reducible refine rd_ret ?_) | (with_reducible refine rd_next ?_)
  | (with_reducible refine rd_drop ?_) | ((with_reducible refine rd_name (σ' := ?ss) ?hs ?_); (case hs => (dsimp only [List.set]; exact rfl)))
  | ((with_reducible refine rd_var (v := ?vv) ?hv ?_); (case hv => exact rfl)) | (with_reducible refine rd_c ?_) | (with_reducible refine rd_op ?_) | (with_reducible refine rd_un ?_)
  | (with_reducible refine rd_I0 ?_) | (with_reducible refine rd_U ?_) | (with_reducible refine rd_test ?_) | (with_reducible refine rd_B ?_) | (with_reducible refine rd_k ?_)
  | (with_reducible refine rd_not ?_) | (with_reducible refine rd_and ?_) | (with_reducible refine rd_or ?_) | (with_reducible refine rd_ifE ?_)
  | (with_reducible refine rd_par ?_) | ((with_reducible refine rd_par2 (σ' := ?ss) ?hs ?_); (case hs => (dsimp only [List.set]; exact rfl)))
  | (with_reducible refine rd_gsub ?_) | (with_reducible refine rd_andV ?_) | (with_reducible refine rd_orV ?_) | (with_reducible refine rd_notV ?_)
  | (with_reducible refine rd_lc ?_) | (with_reducible refine rd_iTup ?_) | (with_reducible refine rd_iList ?_) | (with_reducible refine rd_iRng1 ?_)
  | (with_reducible refine rd_yes ?_) | (with_reducible refine rd_true ?_) | (with_reducible refine rd_false ?_) | (with_reducible refine rd_m1 ?_) | (with_reducible refine rd_isS ?_)
  | ((with_reducible refine rd_eq ?hs ?_); (case hs => exact rfl)) | ((with_reducible refine rd_ne ?hs ?_); (case hs => exact rfl))
  | (with_reducible refine rd_listRg ?_) | (with_reducible refine rd_rg2 ?_) | (with_reducible refine rd_rgk ?_)
  | (with_reducible refine rd_dnew ?_) | (with_reducible refine rd_ddel ?_) | (with_reducible refine rd_kw ?_) | (with_reducible refine rd_callS ?_) | (with_reducible refine rd_dc ?_) | (with_reducible refine rd_for ?_) | (with_reducible refine rd_tru ?_) | (with_reducible refine rd_truI ?_)
  | (with_reducible refine rd_nil ?_) | (with_reducible refine rd_cons ?_) | (with_reducible refine rd_call ?_) | (with_reducible refine rd_cb ?_)
  | (with_reducible refine rd_tup ?_) | (with_reducible refine rd_lst ?_) | (with_reducible refine rd_dget ?_) | (with_reducible refine rd_dput ?_) | (with_reducible refine rd_sl ?_)
  | (with_reducible refine rd_nopart ?_) | (with_reducible refine rd_part ?_) | (with_reducible refine rd_parti ?_) | (with_reducible refine rd_bm ?_) | (with_reducible refine rd_bm0 ?_)
  | (with_reducible refine rd_int ?_) | (with_reducible refine rd_intb ?_) | (with_reducible refine rd_abs ?_) | (with_reducible refine rd_min2 ?_) | (with_reducible refine rd_max2 ?_))
local macro_rules | `(tactic| walk_at "rds") => `(tactic| repeat (walk_at "rd"))
local macro_rules | `(tactic| walk_at "rq") => `(tactic| first
  | (with_reducible refine rd_seq ?_) | (with_reducible refine rd_asg ?_) | (with_reducible refine rd_ret ?_) | (with_reducible refine rd_next ?_)
  | (with_reducible refine rd_drop ?_) | ((with_reducible refine rd_name (σ' := ?ss) ?hs ?_); (case hs => (dsimp only [List.set]; exact rfl)))
  | ((with_reducible refine rd_var (v := ?vv) ?hv ?_); (case hv => exact rfl)) | (with_reducible refine rd_c ?_) | (with_reducible refine rd_op ?_) | (with_reducible refine rd_un ?_)
  | (with_reducible refine rd_I0 ?_) | (with_reducible refine rd_U ?_) | (with_reducible refine rd_test ?_) | (with_reducible refine rd_B ?_) | (with_reducible refine rd_k ?_)
  | (with_reducible refine rd_not ?_) | (with_reducible refine rd_and ?_) | (with_reducible refine rd_or ?_) | (with_reducible refine rd_ifE ?_)
  | (with_reducible refine rd_par ?_) | ((with_reducible refine rd_par2 (σ' := ?ss) ?hs ?_); (case hs => (dsimp only [List.set]; exact rfl)))
  | (with_reducible refine rd_gsub ?_) | (with_reducible refine rd_andV ?_) | (with_reducible refine rd_orV ?_) | (with_reducible refine rd_notV ?_)
  | (with_reducible refine rd_lc ?_) | (with_reducible refine rd_iTup ?_) | (with_reducible refine rd_iList ?_) | (with_reducible refine rd_iRng1 ?_)
  | (with_reducible refine rd_yes ?_) | (with_reducible refine rd_true ?_) | (with_reducible refine rd_false ?_) | (with_reducible refine rd_m1 ?_) | (with_reducible refine rd_isS ?_)
  | ((with_reducible refine rd_eq ?hs ?_); (case hs => exact rfl)) | ((with_reducible refine rd_ne ?hs ?_); (case hs => exact rfl))
  | (with_reducible refine rd_listRg ?_) | (with_reducible refine rd_rg2 ?_) | (with_reducible refine rd_rgk ?_)
  | (with_reducible refine rd_dnew ?_) | (with_reducible refine rd_ddel ?_) | (with_reducible refine rd_kw ?_) | (with_reducible refine rd_callS ?_) | (with_reducible refine rd_dc ?_) | (with_reducible refine rd_for ?_) | (with_reducible refine rd_tru ?_) | (with_reducible refine rd_truI ?_)
  | (with_reducible refine rd_nil ?_) | (with_reducible refine rd_cons ?_) | (with_reducible refine rd_call ?_) | (with_reducible refine rd_cb ?_)
  | (with_reducible refine rd_tup ?_) | (with_reducible refine rd_lst ?_) | (with_reducible refine rd_dget ?_) | (with_reducible refine rd_dput ?_) | (with_reducible refine rd_sl ?_)
  | (with_reducible refine rd_nopart ?_) | (with_reducible refine rd_part ?_) | (with_reducible refine rd_parti ?_) | (with_reducible refine rd_bm ?_) | (with_reducible refine rd_bm0 ?_)
  | (with_reducible refine rd_int ?_) | (with_reducible refine rd_intb ?_) | (with_reducible refine rd_abs ?_) | (with_reducible refine rd_min2 ?_) | (with_reducible refine rd_max2 ?_))
local macro_rules | `(tactic| walk_at "rqs") => `(tactic| repeat (walk_at "rq"))

section
variable {K : PySem.W.Frag} {H H' : Hp} {d l : Addr} {v : V} {r : List Int} {n : Nat}
theorem Gl.row (g : Gl d l H H') (hD : DeckL d l H) (h : Dp K H v (dR r)) : Dp K H' v (dR r) := by
  obtain ⟨a, rfl, s⟩ := dp_row h
  exact dp_of_row (g.tup hD s)
theorem Gl.rows (g : Gl d l H H') (hD : DeckL d l H) : ∀ {xs : List V} {rs : List (List Int)}, DpAll K H xs (rs.map dR) → DpAll K H' xs (rs.map dR)
  | _, [], .nil => .nil
  | _, _ :: _, .cons h t => .cons (Gl.row g hD h) (Gl.rows g hD t)
theorem rows_upd {p : Addr} {ys : List V} {u : HO} (e : H p = some (.lst ys)) : ∀ {xs : List V} {rs : List (List Int)}, DpAll K H xs (rs.map dR) → DpAll K (upd H p u) xs (rs.map dR)
  | _, [], .nil => .nil
  | _, _ :: _, .cons h t => .cons (by
      obtain ⟨a, rfl, s⟩ := dp_row h
      exact dp_of_row (tup_upd e lst_not s)) (rows_upd e t)
theorem rows_app {xs : List V} {rs : List (List Int)} (h : DpAll K H xs (rs.map dR)) (h2 : Dp K H v (dR r)) : DpAll K H (xs ++ [v]) ((rs ++ [r]).map dR) := by
  rw [List.map_append]
  exact dpAll_app h (.cons h2 .nil)
/-- a sentence: owners, clauses -/
def SentAt (K : PySem.W.Frag) (H : Hp) (n : Nat) (a : Addr) (z : Str) (rs : List (List Int)) : Prop :=
  ∃ (c : Addr) (xs : List V), SqT K H a [.str z, .ref c] ∧ SqT K H c xs ∧ DpAll K H xs (rs.map dR) ∧ OwnS n z ∧ (∀ r ∈ rs, Row n r) ∧ rs.Nodup
theorem take_rows {k : Nat} {rs : List (List Int)} : (rs.map dR).take k = (rs.take k).map dR := List.map_take.symm
theorem neg_at {k : Nat} {x : Int} (h : r[k]? = some x) : (r.take k ++ [-x] ++ r.drop (k + 1)).map Int.natAbs = r.map Int.natAbs := by
  have e : r = r.take k ++ ([x] ++ r.drop (k + 1)) := by
    have h1 := (List.getElem?_eq_some_iff.mp h)
    obtain ⟨hk, rfl⟩ := h1
    rw [List.singleton_append, List.getElem_cons_drop, List.take_append_drop]
  conv => rhs; rw [e]
  rw [List.append_assoc, List.map_append, List.map_append, List.map_append, List.map_append, List.map_singleton, List.map_singleton, Int.natAbs_neg]
end
section
variable {P : Program} {w : World} {K : PySem.W.Frag} {mg : Str → Option Value} {base : Heap}
def spSentence (K : PySem.W.Frag) : Sp := fun vs H Q _ => ∃ (d l : Addr) (n many most : Int), vs = [.ref d, .int n, .int many, .int most] ∧ DeckL d l H ∧ 0 ≤ n ∧ n ≤ 60 ∧ 0 ≤ many ∧ many ≤ 1000 ∧ 0 ≤ most ∧ most ≤ 60 ∧
  ∀ (a : Addr) (z : Str) (rs : List (List Int)) (H' : Hp), Gl d l H H' → SentAt K H' n.toNat a z rs → rs.length ≤ many.toNat → Q (.ref a) H'
end
end KA
set_option Elab.async false
set_option linter.all false
set_option maxRecDepth 100000
set_option maxHeartbeats 400000
set_option pp.maxSteps 300
namespace Ea
open PySem PySem.Spec PyProof.Rows L2
section
variable {K : PySem.W.Frag} {σ : L2.St} {H : Hp} {tb : TS} {D : Ends} {j1 j2 k : Nat} {n : Nat} {px py : Nat → V} {J : It}
theorem fr_enumL {a : Addr} {xs : List V} (hk : k = 2) (Pv : Nat → L2.St → Hp → Prop) (h0 : Pv 0 σ H) (hl : ∀ i σ H, Pv i σ H → SqL K H a xs)
    (hs : ∀ i σ H1 T, i < xs.length → Pv i σ H1 → H1 T = none → tb { D with nx := Pv (i + 1), ct := Pv (i + 1), bk := D.nx } ((σ.set j1 (some (.int (i : Nat)))).set j2 (some (xs.getD i .non))) (upd H1 T (.tup [.int (i : Nat), xs.getD i .non])))
    (hd : ∀ σ H, Pv xs.length σ H → D.nx σ H) : ForR (gTup K k (gCons (gName j1) (gCons (gName j2) gNil))) tb D σ (Ite K a) H :=
  fr_pairs (px := fun i => .int (i : Nat)) (py := fun i => xs.getD i .non) hk Pv h0 (fun i σ H' p hi => ⟨xs, xs[i], hl i σ H' p, List.getElem?_eq_getElem hi⟩) (fun σ H' p => ⟨xs, hl _ σ H' p, Nat.le_refl _⟩)
    (fun i σ H1 x H2 p hi hy => by
      obtain ⟨T, y, rfl, hT, rfl, h⟩ := hy
      have := h xs (hl i σ H1 p)
      refine ⟨T, rfl, hT, ?_⟩
      show _ = upd H1 T (.tup [.int (i : Nat), xs.getD i .non])
      rw [List.getD_eq_getElem?_getD, this] <;> rfl) hs hd
end
theorem ex_none {H H' : Hp} (e : Evl.Ex H H') {p : Addr} (h : H' p = none) : H p = none := by
  cases q : H p with
  | none => rfl
  | some o =>
    rw [e _ _ q] at h
    cases h
end Ea
namespace KA
open PySem PySem.Spec PyProof.Rows L2 Ea
local macro_rules | `(tactic| walk_at "rd") => `(tactic| first
  | (with_reducible refine rd_seq ?_) | (with_reducible refine rd_asg ?_) | (with_reducible refine rd_if ?_) | (with_reducible refine rd_ret ?_) | (with_reducible refine rd_next ?_)
  | (with_reducible refine rd_drop ?_) | ((with_reducible refine rd_name (σ' := ?ss) ?hs ?_); (case hs => (dsimp only [List.set]; exact rfl)))
  | ((with_reducible refine rd_var (v := ?vv) ?hv ?_); (case hv => exact rfl)) | (with_reducible refine rd_c ?_) | (with_reducible refine rd_op ?_) | (with_reducible refine rd_un ?_)
  | (with_reducible refine rd_I0 ?_) | (with_reducible refine rd_U ?_) | (with_reducible refine rd_test ?_) | (with_reducible refine rd_B ?_) | (with_reducible refine rd_k ?_)
  | (with_reducible refine rd_not ?_) | (with_reducible refine rd_and ?_) | (with_reducible refine rd_or ?_) | (with_reducible refine rd_ifE ?_)
  | (with_reducible refine rd_par ?_) | ((with_reducible refine rd_par2 (σ' := ?ss) ?hs ?_); (case hs => (dsimp only [List.set]; exact rfl)))
  | (with_reducible refine rd_gsub ?_) | (with_reducible refine rd_andV ?_) | (with_reducible refine rd_orV ?_) | (with_reducible refine rd_notV ?_)
  | (with_reducible refine rd_lc ?_) | (with_reducible refine rd_iTup ?_) | (with_reducible refine rd_iList ?_) | (with_reducible refine rd_iRng1 ?_) | (with_reducible refine rd_iRng2 ?_) | (with_reducible refine rd_iEnumT ?_) | (with_reducible refine rd_iEnum ?_) | (with_reducible refine rd_iZipM ?_) | (with_reducible refine rd_iEnumS ?_) | (with_reducible refine rd_iKeys ?_) | (with_reducible refine rd_din ?_) | (with_reducible refine rd_dnotin ?_)
  | (with_reducible refine rd_yes ?_) | (with_reducible refine rd_true ?_) | (with_reducible refine rd_false ?_) | (with_reducible refine rd_m1 ?_) | (with_reducible refine rd_isS ?_)
  | ((with_reducible refine rd_eq ?hs ?_); (case hs => exact rfl)) | ((with_reducible refine rd_ne ?hs ?_); (case hs => exact rfl))
  | (with_reducible refine rd_listRg ?_) | (with_reducible refine rd_rg2 ?_) | (with_reducible refine rd_rgk ?_)
  | (with_reducible refine rd_dnew ?_) | (with_reducible refine rd_ddel ?_) | (with_reducible refine rd_kw ?_) | (with_reducible refine rd_callS ?_) | (with_reducible refine rd_dc ?_) | (with_reducible refine rd_for ?_) | (with_reducible refine rd_tru ?_) | (with_reducible refine rd_truI ?_)
  | (with_reducible refine rd_nil ?_) | (with_reducible refine rd_cons ?_) | (with_reducible refine rd_call ?_) | (with_reducible refine rd_cb ?_)
  | (with_reducible refine rd_tup ?_) | (with_reducible refine rd_lst ?_) | (with_reducible refine rd_dget ?_) | (with_reducible refine rd_dput ?_) | (with_reducible refine rd_dget2 ?_) | (with_reducible refine rd_sl ?_)
  | (with_reducible refine rd_nopart ?_) | (with_reducible refine rd_part ?_) | (with_reducible refine rd_parti ?_) | (with_reducible refine rd_bm ?_) | (with_reducible refine rd_bm0 ?_)
  | (with_reducible refine rd_int ?_) | (with_reducible refine rd_intb ?_) | (with_reducible refine rd_abs ?_) | (with_reducible refine rd_min2 ?_) | (with_reducible refine rd_max2 ?_))
local macro_rules | `(tactic| walk_at "rds") => `(tactic| repeat (walk_at "rd"))
local macro_rules | `(tactic| walk_at "rq") => `(tactic| first
  | (with_reducible refine rd_seq ?_) | (with_reducible refine rd_asg ?_) | (with_reducible refine rd_ret ?_) | (with_reducible refine rd_next ?_)
  | (with_reducible refine rd_drop ?_) | ((with_reducible refine rd_name (σ' := ?ss) ?hs ?_); (case hs => (dsimp only [List.set]; exact rfl)))
  | ((with_reducible refine rd_var (v := ?vv) ?hv ?_); (case hv => exact rfl)) | (with_reducible refine rd_c ?_) | (with_reducible refine rd_op ?_) | (with_reducible refine rd_un ?_)
  | (with_reducible refine rd_I0 ?_) | (with_reducible refine rd_U ?_) | (with_reducible refine rd_test ?_) | (with_reducible refine rd_B ?_) | (with_reducible refine rd_k ?_)
  | (with_reducible refine rd_not ?_) | (with_reducible refine rd_and ?_) | (with_reducible refine rd_or ?_) | (with_reducible refine rd_ifE ?_)
  | (with_reducible refine rd_par ?_) | ((with_reducible refine rd_par2 (σ' := ?ss) ?hs ?_); (case hs => (dsimp only [List.set]; exact rfl)))
  | (with_reducible refine rd_gsub ?_) | (with_reducible refine rd_andV ?_) | (with_reducible refine rd_orV ?_) | (with_reducible refine rd_notV ?_)
  | (with_reducible refine rd_lc ?_) | (with_reducible refine rd_iTup ?_) | (with_reducible refine rd_iList ?_) | (with_reducible refine rd_iRng1 ?_) | (with_reducible refine rd_iRng2 ?_) | (with_reducible refine rd_iEnumT ?_) | (with_reducible refine rd_iEnum ?_) | (with_reducible refine rd_iZipM ?_) | (with_reducible refine rd_iEnumS ?_) | (with_reducible refine rd_iKeys ?_) | (with_reducible refine rd_din ?_) | (with_reducible refine rd_dnotin ?_)
  | (with_reducible refine rd_yes ?_) | (with_reducible refine rd_true ?_) | (with_reducible refine rd_false ?_) | (with_reducible refine rd_m1 ?_) | (with_reducible refine rd_isS ?_)
  | ((with_reducible refine rd_eq ?hs ?_); (case hs => exact rfl)) | ((with_reducible refine rd_ne ?hs ?_); (case hs => exact rfl))
  | (with_reducible refine rd_listRg ?_) | (with_reducible refine rd_rg2 ?_) | (with_reducible refine rd_rgk ?_)
  | (with_reducible refine rd_dnew ?_) | (with_reducible refine rd_ddel ?_) | (with_reducible refine rd_kw ?_) | (with_reducible refine rd_callS ?_) | (with_reducible refine rd_dc ?_) | (with_reducible refine rd_for ?_) | (with_reducible refine rd_tru ?_) | (with_reducible refine rd_truI ?_)
  | (with_reducible refine rd_nil ?_) | (with_reducible refine rd_cons ?_) | (with_reducible refine rd_call ?_) | (with_reducible refine rd_cb ?_)
  | (with_reducible refine rd_tup ?_) | (with_reducible refine rd_lst ?_) | (with_reducible refine rd_dget ?_) | (with_reducible refine rd_dput ?_) | (with_reducible refine rd_dget2 ?_) | (with_reducible refine rd_sl ?_)
  | (with_reducible refine rd_nopart ?_) | (with_reducible refine rd_part ?_) | (with_reducible refine rd_parti ?_) | (with_reducible refine rd_bm ?_) | (with_reducible refine rd_bm0 ?_)
  | (with_reducible refine rd_int ?_) | (with_reducible refine rd_intb ?_) | (with_reducible refine rd_abs ?_) | (with_reducible refine rd_min2 ?_) | (with_reducible refine rd_max2 ?_))
local macro_rules | `(tactic| walk_at "rqs") => `(tactic| repeat (walk_at "rq"))
local macro_rules | `(tactic| walk_at "rv") => `(tactic| first
  | (with_reducible refine rd_seq ?_) | (with_reducible refine rd_asg ?_) | (with_reducible refine rd_ret ?_) | (with_reducible refine rd_next ?_)
  | (with_reducible refine rd_drop ?_) | ((with_reducible refine rd_name (σ' := ?ss) ?hs ?_); (case hs => (dsimp only [List.set]; exact rfl)))
  | ((with_reducible refine rd_var (v := ?vv) ?hv ?_); (case hv => exact rfl)) | (with_reducible refine rd_c ?_) | (with_reducible refine rd_op ?_) | (with_reducible refine rd_un ?_)
  | (with_reducible refine rd_I0 ?_) | (with_reducible refine rd_U ?_) | (with_reducible refine rd_test ?_) | (with_reducible refine rd_B ?_) | (with_reducible refine rd_k ?_)
  | (with_reducible refine rd_not ?_) | (with_reducible refine rd_and ?_) | (with_reducible refine rd_or ?_)
  | (with_reducible refine rd_par ?_) | ((with_reducible refine rd_par2 (σ' := ?ss) ?hs ?_); (case hs => (dsimp only [List.set]; exact rfl)))
  | (with_reducible refine rd_gsub ?_) | (with_reducible refine rd_andV ?_) | (with_reducible refine rd_orV ?_) | (with_reducible refine rd_notV ?_)
  | (with_reducible refine rd_lc ?_) | (with_reducible refine rd_iTup ?_) | (with_reducible refine rd_iList ?_) | (with_reducible refine rd_iRng1 ?_) | (with_reducible refine rd_iRng2 ?_) | (with_reducible refine rd_iEnumT ?_) | (with_reducible refine rd_iEnum ?_) | (with_reducible refine rd_iZipM ?_) | (with_reducible refine rd_iEnumS ?_) | (with_reducible refine rd_iKeys ?_) | (with_reducible refine rd_din ?_) | (with_reducible refine rd_dnotin ?_)
  | (with_reducible refine rd_yes ?_) | (with_reducible refine rd_true ?_) | (with_reducible refine rd_false ?_) | (with_reducible refine rd_m1 ?_) | (with_reducible refine rd_isS ?_)
  | ((with_reducible refine rd_eq ?hs ?_); (case hs => exact rfl)) | ((with_reducible refine rd_ne ?hs ?_); (case hs => exact rfl))
  | (with_reducible refine rd_listRg ?_) | (with_reducible refine rd_rg2 ?_) | (with_reducible refine rd_rgk ?_)
  | (with_reducible refine rd_dnew ?_) | (with_reducible refine rd_ddel ?_) | (with_reducible refine rd_kw ?_) | (with_reducible refine rd_callS ?_) | (with_reducible refine rd_dc ?_) | (with_reducible refine rd_for ?_) | (with_reducible refine rd_tru ?_) | (with_reducible refine rd_truI ?_)
  | (with_reducible refine rd_nil ?_) | (with_reducible refine rd_cons ?_) | (with_reducible refine rd_call ?_) | (with_reducible refine rd_cb ?_)
  | (with_reducible refine rd_tup ?_) | (with_reducible refine rd_lst ?_) | (with_reducible refine rd_dget ?_) | (with_reducible refine rd_dput ?_) | (with_reducible refine rd_dget2 ?_) | (with_reducible refine rd_sl ?_)
  | (with_reducible refine rd_nopart ?_) | (with_reducible refine rd_part ?_) | (with_reducible refine rd_parti ?_) | (with_reducible refine rd_bm ?_) | (with_reducible refine rd_bm0 ?_)
  | (with_reducible refine rd_int ?_) | (with_reducible refine rd_intb ?_) | (with_reducible refine rd_abs ?_) | (with_reducible refine rd_min2 ?_) | (with_reducible refine rd_max2 ?_))
local macro_rules | `(tactic| walk_at "rvs") => `(tactic| repeat (walk_at "rv"))

theorem erase_permV {as : List V} {k : Nat} (h : k < as.length) : as.Perm (as[k] :: as.eraseIdx k) := by
  induction as generalizing k with
  | nil => cases h
  | cons x r ih =>
    cases k with
    | zero => exact List.Perm.refl _
    | succ k =>
      have h' : k < r.length := Nat.lt_of_succ_lt_succ h
      exact ((ih h').cons x).trans (List.Perm.swap _ _ _)
theorem perm_moveV (as bs : List V) (x : V) : (as ++ (bs ++ [x])).Perm ((x :: as) ++ bs) := by
  rw [← List.append_assoc]
  exact (List.perm_append_singleton x (as ++ bs)).trans (List.Perm.refl _)
section
variable {P : Program} {w : World} {K : PySem.W.Frag} {mg : Str → Option Value} {base : Heap}
def spMixedV (K : PySem.W.Frag) : Sp := fun vs H Q _ => ∃ (d l p : Addr) (ns : List V), vs = [.ref d, .ref p] ∧ DeckL d l H ∧ (SqL K H p ns ∨ SqT K H p ns) ∧ ns.length ≤ 1000 ∧
  ∀ (q : Addr) (ms : List V) (H' : Hp), Gl d l H H' → H q = none → H' q = some (.lst ms) → ms.Perm ns → Q (.ref q) H'
theorem ok_mixedV {f fD : Addr} {fd fdD : FuncData} (F : Fun K "_law_mixed" "_law_mixed" s_law_mixed f fd) (T : Bl mg)
    (G_law_draw : FnOk P w K mg base CX0 1 fD fdD ["deck", "many"] spDraw) (C_law_draw : Callee K mg "_law_draw" fD fdD ["deck", "many"]) :
    FnOk P w K mg base CX0 2 f fd ["deck", "items"] (spMixedV K) := by
  refine F.ok sc_law_mixed (fun vs H Q E h => ?_) (fun cdv A outer s H vs Q E hr h => ?_)
  · obtain ⟨d, l, p, ys, rfl, _⟩ := h
    rfl
  · obtain ⟨d, l, p, ns, rfl, hD, hp, h2, q⟩ := h
    refine ⟨_, (pss_cons (ps_par (i := 2) (j := 3) rfl sc_law_mixed.nd rfl rfl (by decide) rfl rfl (pa_cons (pe_callTy (c_list (K := K) rfl) (by rfl) T.list (by decide +kernel) (pa_cons (pv 1) pa_nil)) (pa_cons (pe_lst pa_nil) pa_nil)) (by rfl))
 (pss_cons (ps_while PassesOwn.never (pt_cmpR (op_ne0 (K := K) rfl hr.units) (pv 2) (pe_lst pa_nil) (nomark _)) (pss_one (ps_expr (pe_bm PySem.F.plainAttrs_list PySem.F.slot_list_append PySem.F.type_list_append mt_append (pv 3) (pa_cons (pe_bm PySem.F.plainAttrs_list PySem.F.slot_list_pop PySem.F.type_list_pop mt_popAt (pv 2) (pa_cons (pe_call G_law_draw (hr.mono (by decide)) (by rfl) C_law_draw.m C_law_draw.k C_law_draw.b .nil pass0 (pa_cons (pv 0) (pa_cons (pe_callB (c_len (K := K) rfl) (by rfl) T.len (by decide +kernel) (pa_cons (pv 2) pa_nil)) pa_nil))) pa_nil)) pa_nil)))))
 (pss_one (ps_ret (pv 3))))), ?_⟩
    refine rd_start (σ' := [some (.ref d), some (.ref p), none, none]) rfl ?_
    walk_at "rds"
    refine rd_listE hp fun a na => ?_
    have g1 : Gl d l H (upd H a (.lst ns)) := Gl.new hD na
    walk_at "rds"
    refine ⟨Nat.zero_le _, fun b nb => ?_⟩
    have nab : a ≠ b := fun e => by
      rw [e, upd_same] at nb
      cases nb
    have nb0 : H b = none := g1.back hD nb
    walk_at "rds"
    refine rd_whileE ⟨fun m σ' H' => ∃ as bs : List V, σ' = [some (.ref d), some (.ref p), some (.ref a), some (.ref b)] ∧ Gl d l H H' ∧
      H' a = some (.lst as) ∧ H' b = some (.lst bs) ∧ as.length = m ∧ (as ++ bs).Perm ns,
      ⟨ns.length, ns, [], rfl, g1.trans (Gl.new g1.dk nb), (upd_ne nab).trans upd_same, upd_same, rfl, by rw [List.append_nil]⟩, fun m σ' H' hW => ?_⟩
    obtain ⟨as, bs, rfl, g, ea, eb, rfl, pm⟩ := hW
    have hlen : as.length + bs.length = ns.length := by
      rw [← List.length_append]
      exact pm.length_eq
    obtain ⟨ad, al⟩ := hD.off na
    obtain ⟨bd, bl⟩ := hD.off nb0
    walk_at "rds"
    refine ⟨Nat.zero_le _, fun c nc => ?_⟩
    have cx : ∀ {o}, Gl d l H' (upd H' c o) := Gl.new g.dk nc
    have ea1 : (upd H' c (.lst [])) a = _ := (upd_ne (ne_of_none ea nc)).trans ea
    have eb1 : (upd H' c (.lst [])) b = _ := (upd_ne (ne_of_none eb nc)).trans eb
    refine rd_ne0 (SqL.of ea1) (SqL.of upd_same) ?_
    walk_at "rds"
    refine rd_iteb (fun c2 => ?_) (fun c2 => ?_)
    · refine ⟨fun σ2 H2 => ∃ (as2 bs2 : List V), σ2 = [some (.ref d), some (.ref p), some (.ref a), some (.ref b)] ∧ Gl d l H H2 ∧
        H2 a = some (.lst as2) ∧ H2 b = some (.lst bs2) ∧ as2.length + 1 = as.length ∧ (as2 ++ bs2).Perm ns, fun σ2 H2 h => ?_, ?_⟩
      · obtain ⟨as2, bs2, e1, e2, e3, e4, e5, e6⟩ := h
        exact ⟨as2.length, by omega, as2, bs2, e1, e2, e3, e4, rfl, e6⟩
      · walk_at "rds"
        refine rd_tyL eb1 ?_
        walk_at "rds"
        refine rd_tyL ea1 ?_
        walk_at "rds"
        refine rd_lenL (SqL.of ea1) ?_
        walk_at "rds"
        have hpos : 1 ≤ as.length := by
          cases as with
          | nil => cases c2
          | cons x r => exact Nat.succ_le_succ (Nat.zero_le _)
        refine ⟨d, l, _, rfl, cx.dk, by omega, by omega, fun r H1 g2 r0 r1 => ?_⟩
        have hr1 : r.toNat < as.length := by omega
        have ea2 : H1 a = _ := g2.kp a _ ad al ea1
        have eb2 : H1 b = _ := g2.kp b _ bd bl eb1
        walk_at "rds"
        refine rd_popAt (i := r) (k := r.toNat) (y := as[r.toNat]) ea2 (by omega) (List.getElem?_eq_getElem hr1) (by omega) ?_
        walk_at "rds"
        have nba : b ≠ a := nab.symm
        refine rd_append ((upd_ne nba).trans eb2) (by omega) ?_
        walk_at "rds"
        refine ⟨as.eraseIdx r.toNat, bs ++ [as[r.toNat]], rfl, ?_, ?_, ?_, ?_, ?_⟩
        · exact Gl.mut (Gl.mut (g.trans (cx.trans g2)) hD na) hD nb0
        · rw [upd_ne nab, upd_same]
        · rw [upd_same]
        · rw [List.length_eraseIdx_of_lt hr1]
          omega
        · refine List.Perm.trans ?_ pm
          have e : as.Perm (as[r.toNat] :: as.eraseIdx r.toNat) := erase_permV hr1
          exact (perm_moveV _ _ _).trans (e.symm.append_right bs)
    · have e0 : as = [] := by
        cases as with
        | nil => rfl
        | cons x r => cases c2
      subst e0
      walk_at "rds"
      exact q b bs _ (g.trans cx) nb0 eb1 pm
theorem dps_app {H : Hp} {xs ys : List V} {rs ss : List (List Int)} (h1 : DpAll K H xs (rs.map dR)) (h2 : DpAll K H ys (ss.map dR)) : DpAll K H (xs ++ ys) ((rs ++ ss).map dR) := by
  rw [List.map_append]
  exact dpAll_app h1 h2
def spPlays (K : PySem.W.Frag) : Sp := fun vs H Q _ => ∃ (n : Nat), vs = [.int (n : Int)] ∧ n ≤ 7 ∧
  ∀ (q : Addr) (ys : List V) (ps : List (List Int)) (H' : Hp), Evl.Ex H H' → H q = none → H' q = some (.lst ys) → DpAll K H' ys (ps.map dR) → (∀ p ∈ ps, PlayOk p ∧ p.length ≤ n) → 1 ≤ ys.length → ys.length ≤ 255 → Q (.ref q) H'
end
end KA
set_option Elab.async false
set_option linter.all false
set_option maxRecDepth 100000
set_option maxHeartbeats 400000
set_option pp.maxSteps 300
namespace KA
open PySem PySem.Spec PyProof.Rows L2 Ea
abbrev sowner_of : Stmt := topS 5
theorem scowner_of : FnScope ["sentence", "letter"] ["sentence", "letter"] (defScope sowner_of) :=
  ⟨rfl, rfl, rfl, by decide +kernel, rfl, by decide +kernel, by decide +kernel⟩
abbrev sgood_moves : Stmt := topS 15
theorem scgood_moves : FnScope ["sentence", "play", "letter", "party", "move"] ["sentence", "play"] (defScope sgood_moves) :=
  ⟨rfl, rfl, rfl, by decide +kernel, rfl, by decide +kernel, by decide +kernel⟩
local macro_rules | `(tactic| walk_at "rd") => `(tactic| first
  | (with_reducible refine rd_seq ?_) | (with_reducible refine rd_asg ?_) | (with_reducible refine rd_if ?_) | (with_reducible refine rd_ret ?_) | (with_reducible refine rd_next ?_)
  | (with_reducible refine rd_drop ?_) | ((with_reducible refine rd_name (σ' := ?ss) ?hs ?_); (case hs => (dsimp only [List.set]; exact rfl)))
  | ((with_reducible refine rd_var (v := ?vv) ?hv ?_); (case hv => exact rfl)) | (with_reducible refine rd_c ?_) | (with_reducible refine rd_op ?_) | (with_reducible refine rd_un ?_)
  | (with_reducible refine rd_I0 ?_) | (with_reducible refine rd_U ?_) | (with_reducible refine rd_test ?_) | (with_reducible refine rd_B ?_) | (with_reducible refine rd_k ?_)
  | (with_reducible refine rd_not ?_) | (with_reducible refine rd_and ?_) | (with_reducible refine rd_or ?_) | (with_reducible refine rd_ifE ?_)
  | (with_reducible refine rd_par ?_) | ((with_reducible refine rd_par2 (σ' := ?ss) ?hs ?_); (case hs => (dsimp only [List.set]; exact rfl)))
  | (with_reducible refine rd_gsub ?_) | (with_reducible refine rd_andV ?_) | (with_reducible refine rd_orV ?_) | (with_reducible refine rd_notV ?_)
  | (with_reducible refine rd_lc ?_) | (with_reducible refine rd_iTup ?_) | (with_reducible refine rd_iList ?_) | (with_reducible refine rd_iRng1 ?_) | (with_reducible refine rd_iRng2 ?_) | (with_reducible refine rd_iEnumT ?_) | (with_reducible refine rd_iEnum ?_) | (with_reducible refine rd_iZipM ?_) | (with_reducible refine rd_iEnumS ?_) | (with_reducible refine rd_iKeys ?_) | (with_reducible refine rd_din ?_) | (with_reducible refine rd_dnotin ?_)
  | (with_reducible refine rd_yes ?_) | (with_reducible refine rd_true ?_) | (with_reducible refine rd_false ?_) | (with_reducible refine rd_m1 ?_) | (with_reducible refine rd_isS ?_)
  | ((with_reducible refine rd_eq ?hs ?_); (case hs => exact rfl)) | ((with_reducible refine rd_ne ?hs ?_); (case hs => exact rfl))
  | (with_reducible refine rd_listRg ?_) | (with_reducible refine rd_rg2 ?_) | (with_reducible refine rd_rgk ?_)
  | (with_reducible refine rd_dnew ?_) | (with_reducible refine rd_ddel ?_) | (with_reducible refine rd_kw ?_) | (with_reducible refine rd_callS ?_) | (with_reducible refine rd_dc ?_) | (with_reducible refine rd_for ?_) | (with_reducible refine rd_tru ?_) | (with_reducible refine rd_truI ?_)
  | (with_reducible refine rd_nil ?_) | (with_reducible refine rd_cons ?_) | (with_reducible refine rd_call ?_) | (with_reducible refine rd_cb ?_)
  | (with_reducible refine rd_tup ?_) | (with_reducible refine rd_lst ?_) | (with_reducible refine rd_dget ?_) | (with_reducible refine rd_dput ?_) | (with_reducible refine rd_dget2 ?_) | (with_reducible refine rd_sl ?_)
  | (with_reducible refine rd_nopart ?_) | (with_reducible refine rd_part ?_) | (with_reducible refine rd_parti ?_) | (with_reducible refine rd_bm ?_) | (with_reducible refine rd_bm0 ?_)
  | (with_reducible refine rd_int ?_) | (with_reducible refine rd_intb ?_) | (with_reducible refine rd_abs ?_) | (with_reducible refine rd_min2 ?_) | (with_reducible refine rd_max2 ?_))
local macro_rules | `(tactic| walk_at "rds") => `(tactic| repeat (walk_at "rd"))
local macro_rules | `(tactic| walk_at "rq") => `(tactic| first
  | (with_reducible refine rd_seq ?_) | (with_reducible refine rd_asg ?_) | (with_reducible refine rd_ret ?_) | (with_reducible refine rd_next ?_)
  | (with_reducible refine rd_drop ?_) | ((with_reducible refine rd_name (σ' := ?ss) ?hs ?_); (case hs => (dsimp only [List.set]; exact rfl)))
  | ((with_reducible refine rd_var (v := ?vv) ?hv ?_); (case hv => exact rfl)) | (with_reducible refine rd_c ?_) | (with_reducible refine rd_op ?_) | (with_reducible refine rd_un ?_)
  | (with_reducible refine rd_I0 ?_) | (with_reducible refine rd_U ?_) | (with_reducible refine rd_test ?_) | (with_reducible refine rd_B ?_) | (with_reducible refine rd_k ?_)
  | (with_reducible refine rd_not ?_) | (with_reducible refine rd_and ?_) | (with_reducible refine rd_or ?_) | (with_reducible refine rd_ifE ?_)
  | (with_reducible refine rd_par ?_) | ((with_reducible refine rd_par2 (σ' := ?ss) ?hs ?_); (case hs => (dsimp only [List.set]; exact rfl)))
  | (with_reducible refine rd_gsub ?_) | (with_reducible refine rd_andV ?_) | (with_reducible refine rd_orV ?_) | (with_reducible refine rd_notV ?_)
  | (with_reducible refine rd_lc ?_) | (with_reducible refine rd_iTup ?_) | (with_reducible refine rd_iList ?_) | (with_reducible refine rd_iRng1 ?_) | (with_reducible refine rd_iRng2 ?_) | (with_reducible refine rd_iEnumT ?_) | (with_reducible refine rd_iEnum ?_) | (with_reducible refine rd_iZipM ?_) | (with_reducible refine rd_iEnumS ?_) | (with_reducible refine rd_iKeys ?_) | (with_reducible refine rd_din ?_) | (with_reducible refine rd_dnotin ?_)
  | (with_reducible refine rd_yes ?_) | (with_reducible refine rd_true ?_) | (with_reducible refine rd_false ?_) | (with_reducible refine rd_m1 ?_) | (with_reducible refine rd_isS ?_)
  | ((with_reducible refine rd_eq ?hs ?_); (case hs => exact rfl)) | ((with_reducible refine rd_ne ?hs ?_); (case hs => exact rfl))
  | (with_reducible refine rd_listRg ?_) | (with_reducible refine rd_rg2 ?_) | (with_reducible refine rd_rgk ?_)
  | (with_reducible refine rd_dnew ?_) | (with_reducible refine rd_ddel ?_) | (with_reducible refine rd_kw ?_) | (with_reducible refine rd_callS ?_) | (with_reducible refine rd_dc ?_) | (with_reducible refine rd_for ?_) | (with_reducible refine rd_tru ?_) | (with_reducible refine rd_truI ?_)
  | (with_reducible refine rd_nil ?_) | (with_reducible refine rd_cons ?_) | (with_reducible refine rd_call ?_) | (with_reducible refine rd_cb ?_)
  | (with_reducible refine rd_tup ?_) | (with_reducible refine rd_lst ?_) | (with_reducible refine rd_dget ?_) | (with_reducible refine rd_dput ?_) | (with_reducible refine rd_dget2 ?_) | (with_reducible refine rd_sl ?_)
  | (with_reducible refine rd_nopart ?_) | (with_reducible refine rd_part ?_) | (with_reducible refine rd_parti ?_) | (with_reducible refine rd_bm ?_) | (with_reducible refine rd_bm0 ?_)
  | (with_reducible refine rd_int ?_) | (with_reducible refine rd_intb ?_) | (with_reducible refine rd_abs ?_) | (with_reducible refine rd_min2 ?_) | (with_reducible refine rd_max2 ?_))
local macro_rules | `(tactic| walk_at "rqs") => `(tactic| repeat (walk_at "rq"))
local macro_rules | `(tactic| walk_at "rv") => `(tactic| first
  | (with_reducible refine rd_seq ?_) | (with_reducible refine rd_asg ?_) | (with_reducible refine rd_ret ?_) | (with_reducible refine rd_next ?_)
  | (with_reducible refine rd_drop ?_) | ((with_reducible refine rd_name (σ' := ?ss) ?hs ?_); (case hs => (dsimp only [List.set]; exact rfl)))
  | ((with_reducible refine rd_var (v := ?vv) ?hv ?_); (case hv => exact rfl)) | (with_reducible refine rd_c ?_) | (with_reducible refine rd_op ?_) | (with_reducible refine rd_un ?_)
  | (with_reducible refine rd_I0 ?_) | (with_reducible refine rd_U ?_) | (with_reducible refine rd_test ?_) | (with_reducible refine rd_B ?_) | (with_reducible refine rd_k ?_)
  | (with_reducible refine rd_not ?_) | (with_reducible refine rd_and ?_) | (with_reducible refine rd_or ?_)
  | (with_reducible refine rd_par ?_) | ((with_reducible refine rd_par2 (σ' := ?ss) ?hs ?_); (case hs => (dsimp only [List.set]; exact rfl)))
  | (with_reducible refine rd_gsub ?_) | (with_reducible refine rd_andV ?_) | (with_reducible refine rd_orV ?_) | (with_reducible refine rd_notV ?_)
  | (with_reducible refine rd_lc ?_) | (with_reducible refine rd_iTup ?_) | (with_reducible refine rd_iList ?_) | (with_reducible refine rd_iRng1 ?_) | (with_reducible refine rd_iRng2 ?_) | (with_reducible refine rd_iEnumT ?_) | (with_reducible refine rd_iEnum ?_) | (with_reducible refine rd_iZipM ?_) | (with_reducible refine rd_iEnumS ?_) | (with_reducible refine rd_iKeys ?_) | (with_reducible refine rd_din ?_) | (with_reducible refine rd_dnotin ?_)
  | (with_reducible refine rd_yes ?_) | (with_reducible refine rd_true ?_) | (with_reducible refine rd_false ?_) | (with_reducible refine rd_m1 ?_) | (with_reducible refine rd_isS ?_)
  | ((with_reducible refine rd_eq ?hs ?_); (case hs => exact rfl)) | ((with_reducible refine rd_ne ?hs ?_); (case hs => exact rfl))
  | (with_reducible refine rd_listRg ?_) | (with_reducible refine rd_rg2 ?_) | (with_reducible refine rd_rgk ?_)
  | (with_reducible refine rd_dnew ?_) | (with_reducible refine rd_ddel ?_) | (with_reducible refine rd_kw ?_) | (with_reducible refine rd_callS ?_) | (with_reducible refine rd_dc ?_) | (with_reducible refine rd_for ?_) | (with_reducible refine rd_tru ?_) | (with_reducible refine rd_truI ?_)
  | (with_reducible refine rd_nil ?_) | (with_reducible refine rd_cons ?_) | (with_reducible refine rd_call ?_) | (with_reducible refine rd_cb ?_)
  | (with_reducible refine rd_tup ?_) | (with_reducible refine rd_lst ?_) | (with_reducible refine rd_dget ?_) | (with_reducible refine rd_dput ?_) | (with_reducible refine rd_dget2 ?_) | (with_reducible refine rd_sl ?_)
  | (with_reducible refine rd_nopart ?_) | (with_reducible refine rd_part ?_) | (with_reducible refine rd_parti ?_) | (with_reducible refine rd_bm ?_) | (with_reducible refine rd_bm0 ?_)
  | (with_reducible refine rd_int ?_) | (with_reducible refine rd_intb ?_) | (with_reducible refine rd_abs ?_) | (with_reducible refine rd_min2 ?_) | (with_reducible refine rd_max2 ?_))
local macro_rules | `(tactic| walk_at "rvs") => `(tactic| repeat (walk_at "rv"))

theorem who_eq {a b : Bool} : (V.str (whoT a) = V.str (whoT b)) ↔ a = b := by cases a <;> cases b <;> decide
theorem who_dec {a b : Bool} : decide (V.str (whoT a) = V.str (whoT b)) = decide (a = b) := by cases a <;> cases b <;> decide
/-- whose move it is -/
def nextS (z : Str) (p : List Int) : Bool := heldBy z "s" ((p.length : Int) + 1)
/-- the moves behind which the one whose move it is wins -/
def goodF (n : Nat) (z : Str) (rs : List (List Int)) (p : List Int) : List Int := [-((p.length : Int) + 1), (p.length : Int) + 1].filter fun x => decide (winF n z rs (p ++ [x]) = nextS z p)
section
variable {P : Program} {w : World} {K : PySem.W.Frag} {mg : Str → Option Value} {base : Heap}
def spOwner (K : PySem.W.Frag) : Sp := fun vs H Q _ => ∃ (a c : Addr) (z : Str) (n : Nat) (x : Int), vs = [.ref a, .int x] ∧ SqT K H a [.str z, .ref c] ∧ OwnS n z ∧ n ≤ 60 ∧ 1 ≤ x ∧ x ≤ (n : Int) ∧ Q (.str ⟨#[sgn z x]⟩) H
theorem ok_owner {f : Addr} {fd : FuncData} (F : Fun K "owner_of" "owner_of" sowner_of f fd) (T : Bl mg) : FnOk P w K mg base CX0 1 f fd ["sentence", "letter"] (spOwner K) := by
  refine F.ok scowner_of (fun vs H Q E h => ?_) (fun cdv A outer s H vs Q E hr h => ?_)
  · obtain ⟨a, c, z, n, x, rfl, _⟩ := h
    rfl
  · obtain ⟨a, c, z, n, x, rfl, ha, hz, hn, x0, x1, q⟩ := h
    refine ⟨_, (pss_one (ps_ret (pe_ix ix_str (pe_ix (ik_tup (K := K) rfl) (pv 0) pe_int (fun _ _ => rfl)) (pe_op op_sub (pv 1) pe_int) (fun _ _ => rfl)))), ?_⟩
    refine rd_start (σ' := [some (.ref a), some (.int x)]) rfl ?_
    walk_at "rqs"
    refine rd_ixT ha rfl ?_
    walk_at "rqs"
    exact rd_ixS (by rw [hz.1, sizeLine_eq]; omega) (at_sgn2 hz (by omega) (by omega)) q
def spGood (K : PySem.W.Frag) (C : Addr) : Sp := fun vs H Q E => ∃ (a b : Addr) (z : Str) (n : Nat) (rs : List (List Int)) (p : List Int), vs = [.ref a, .ref b] ∧ Sen K H n a z rs ∧ SqT K H b (p.map V.int) ∧ p.length < n ∧
  (n ≤ 12 → ∀ (q : Addr) (H' : Hp), Evl.Ex H H' → SqT K H' q ((goodF n z rs p).map V.int) → Q (.ref q) H') ∧ (12 < n → OutM C H E)
theorem ok_good {f C fC fO fW : Addr} {fd fdC fdO fdW : FuncData} (F : Fun K "good_moves" "good_moves" sgood_moves f fd) (T : Bl mg)
    (Gcheck_size : FnOk P w K mg base (L2.CX P w) 3 fC fdC ["sentence"] (spSize K C)) (Ccheck_size : Callee K mg "check_size" fC fdC ["sentence"])
    (Gowner_of : FnOk P w K mg base CX0 1 fO fdO ["sentence", "letter"] (spOwner K)) (Cowner_of : Callee K mg "owner_of" fO fdO ["sentence", "letter"])
    (Gwinner : FnOk P w K mg base CX0 15 fW fdW ["sentence", "play"] (spWinner0 K)) (Cwinner : Callee K mg "winner" fW fdW ["sentence", "play"]) :
    FnOk P w K mg base (L2.CX P w) 16 f fd ["sentence", "play"] (spGood K C) := by
  refine F.okX scgood_moves (fun vs H Q E h => ?_) (fun cdv A outer s H vs Q E hr h => ?_)
  · obtain ⟨a, b, z, n, rs, p, rfl, _⟩ := h
    rfl
  · obtain ⟨a, b, z, n, rs, p, rfl, ⟨c, xs, s1, s2, dd, hz, hn, hrow, hl⟩, hb, pl, q1, q2⟩ := h
    refine ⟨_, (pss_cons (ps_expr (pe_callS Gcheck_size (hr.mono (by decide)) (by rfl) Ccheck_size.m Ccheck_size.k Ccheck_size.b (fun σ => passAt (takes_of rfl rfl rfl rfl) σ) (pa_cons (pv 0) pa_nil)))
 (pss_cons (ps_set (i := 2) scgood_moves.nd rfl (Or.inl rfl) (pe_op op_add (pe_callB (c_len (K := K) rfl) (by rfl) T.len (by decide +kernel) (pa_cons (pv 1) pa_nil)) pe_int))
 (pss_cons (ps_set (i := 3) scgood_moves.nd rfl (Or.inr rfl) (pe_ifExp (pt_cmpR op_eq (pe_call Gowner_of (hr.mono (by decide)) (by rfl) Cowner_of.m Cowner_of.k Cowner_of.b .nil pass0 (pa_cons (pv 0) (pa_cons (pv 2) pa_nil))) pe_str (nomark _)) pe_str pe_str))
 (pss_one (ps_ret (pe_callTy (c_tuple (K := K) rfl) (by rfl) T.tuple (by decide +kernel) (pa_cons (pe_lc (own := [("move", 4)]) (g := gName 4) rfl scgood_moves.nd (ik_tupI (K := K) rfl (pe_tup (pa_cons (pe_un un_neg (pv 2)) (pa_cons (pv 2) pa_nil)))) (blkOk_by (own := [("move", 4)]) (N := ["sentence", "play", "letter", "party", "move"]) (sc := defScope sgood_moves) (by decide +kernel)) (fun _ _ _ _ _ => (pg_name (i := 4) scgood_moves.nd rfl (Or.inl rfl))) (fun _ _ _ _ _ => (pts_one (pt_cmpR op_eq (pe_call Gwinner (hr.mono (by decide)) (by rfl) Cwinner.m Cwinner.k Cwinner.b .nil pass0 (pa_cons (pv 0) (pa_cons (pe_op (ok_catT (K := K) rfl) (pv 1) (pe_tup (pa_cons (pv 4) pa_nil))) pa_nil))) (pv 3) (nomark _)))) (fun _ _ _ _ _ => (pv 4))) pa_nil))))))), ?_⟩
    refine rd_start (σ' := [some (.ref a), some (.ref b), none, none, none]) rfl ?_
    walk_at "rqs"
    refine ⟨a, c, z, n, rfl, s1, hz, hn, fun hn12 => ?_, q2⟩
    walk_at "rqs"
    refine rd_lenT hb ?_
    rw [List.length_map]
    walk_at "rqs"
    refine ⟨a, c, z, n, (p.length : Int) + 1, rfl, s1, hz, hn, by omega, by omega, ?_⟩
    walk_at "rqs"
    refine who_lit (b := nextS z p) ?_
    walk_at "rqs"
    refine ⟨(by show 2 ≤ sizeLine; decide), fun tt htt => ?_⟩
    have e1 := Evl.Ex.new (o := .tup [V.int (-((p.length : Int) + 1)), V.int ((p.length : Int) + 1)]) htt
    have stt : SqT K (upd H tt (.tup [V.int (-((p.length : Int) + 1)), V.int ((p.length : Int) + 1)])) tt ([-((p.length : Int) + 1), (p.length : Int) + 1].map V.int) := SqT.of upd_same
    generalize upd H tt (.tup [V.int (-((p.length : Int) + 1)), V.int ((p.length : Int) + 1)]) = H1 at e1 stt ⊢
    refine rd_ref stt ?_
    refine lc_fmT (fun x => decide (winF n z rs (p ++ [x]) = nextS z p)) V.int (σx := fun x => [some (.ref a), some (.ref b), some (.int ((p.length : Int) + 1)), some (.str (whoT (nextS z p))), some x]) stt (by show 2 ≤ 40000; decide) (fun _ => rfl) (fun _ => rfl)
      (fun x hx H' N S e2 kN kS => ?_) fun D H2 e2 eD hD => ?_
    · walk_at "rqs"
      refine ⟨(by show 1 ≤ sizeLine; decide), fun u hu => ?_⟩
      have e3 := Evl.Ex.new (o := .tup [V.int x]) hu
      refine rd_catT (Evl.ex_t ((e1.trans e2).trans e3) hb) (SqT.of upd_same) (by rw [List.length_map, sizeLine_eq]; show _ + 1 ≤ _; omega) fun c2 H6 e6 s6 => ?_
      have e7 := (e1.trans e2).trans (e3.trans e6)
      have s6 : SqT K H6 c2 ((p ++ [x]).map V.int) := by
        rw [List.map_append]
        exact s6
      refine ⟨a, c2, z, n, rs, p ++ [x], rfl, ⟨c, xs, Evl.ex_t e7 s1, Evl.ex_t e7 s2, dpAll_ex e7 _ _ dd, hz, hn, hrow, hl⟩, s6, by rw [List.length_append]; show _ + 1 ≤ _; omega, hn12, fun H8 e8 => ?_⟩
      walk_at "rqs"
      rw [who_dec]
      cases cc : decide (winF n z rs (p ++ [x]) = nextS z p) with
      | true =>
        rw [if_pos rfl]
        walk_at "rqs"
        exact kN cc _ ((e3.trans e6).trans e8)
      | false =>
        rw [if_neg (by decide)]
        exact kS cc _ ((e3.trans e6).trans e8)
    · walk_at "rqs"
      refine rd_tupL (SqL.of hD) fun o ho => ?_
      walk_at "rqs"
      exact q1 hn12 o _ ((e1.trans e2).trans (Evl.Ex.new ho)) (SqT.of upd_same)
/-- where there are not too many -/
def spGood0 (K : PySem.W.Frag) : Sp := fun vs H Q _ => ∃ (a b : Addr) (z : Str) (n : Nat) (rs : List (List Int)) (p : List Int), vs = [.ref a, .ref b] ∧ Sen K H n a z rs ∧ SqT K H b (p.map V.int) ∧ p.length < n ∧ n ≤ 12 ∧
  ∀ (q : Addr) (H' : Hp), Evl.Ex H H' → SqT K H' q ((goodF n z rs p).map V.int) → Q (.ref q) H'
theorem ok_good0 {f C : Addr} {fd : FuncData} (G : FnOk P w K mg base (L2.CX P w) 16 f fd ["sentence", "play"] (spGood K C)) : FnOk P w K mg base CX0 16 f fd ["sentence", "play"] (spGood0 K) :=
  calm G fun vs H Q E ⟨a, b, z, n, rs, p, e, hs, hb, pl, hn, q⟩ => ⟨a, b, z, n, rs, p, e, hs, hb, pl, fun _ => q, fun h => absurd h (by omega)⟩
def spDue (K : PySem.W.Frag) : Sp := fun vs H Q _ => ∃ (a b : Addr) (z : Str) (n : Nat) (rs : List (List Int)) (p : List Int), vs = [.ref a, .ref b] ∧ Sen K H n a z rs ∧ SqT K H b (p.map V.int) ∧ PlayOk p ∧ p.length < n ∧ n ≤ 12 ∧
  ∀ (q : Addr) (H' : Hp), Evl.Ex H H' → SqT K H' q ((goodF n z rs p).map V.int) → Q (.ref q) H'
end
end KA
set_option Elab.async false
set_option linter.all false
set_option maxRecDepth 100000
set_option maxHeartbeats 400000
set_option pp.maxSteps 300
/-! Sentences woven of parts without common letters: SOME wins exactly if it wins each part ([B3]). -/
namespace KA
open PySem PySem.Spec PyProof.Rows L2 Ea
def resB (p : List Int) (rs : List (List Int)) : Bool := rs.all fun r => r.any (trueIn p)
theorem snoc_len (p : List Int) (x : Int) : (p ++ [x]).length = p.length + 1 := by rw [List.length_append] <;> rfl
/-- a part: how many letters, their owners, its rows, its letters' names -/
structure Pt where
  n : Nat
  z : Str
  R : List (List Int)
  nm : List Nat
/-- the names that are set -/
def knw (nm : List Nat) (m : Nat) : List Nat := nm.filter fun g => decide (g ≤ m)
/-- a play as the part sees it -/
def rs (nm : List Nat) (p : List Int) : List Int := (knw nm p.length).mapIdx fun j (g : Nat) => if (g : Int) ∈ p then (j : Int) + 1 else -((j : Int) + 1)
theorem fk_pos {a k : Nat} {t : List Nat} (h : a ≤ k) : (a :: t).filter (fun g => decide (g ≤ k)) = a :: t.filter (fun g => decide (g ≤ k)) := by rw [List.filter_cons, if_pos (decide_eq_true h)]
theorem fk_neg {a k : Nat} {t : List Nat} (h : ¬ a ≤ k) : (a :: t).filter (fun g => decide (g ≤ k)) = t.filter (fun g => decide (g ≤ k)) := by rw [List.filter_cons, if_neg (by rw [decide_eq_true_eq]; exact h)]
theorem knw_succ {nm : List Nat} {m : Nat} (h : nm.Pairwise (· < ·)) : knw nm (m + 1) = knw nm m ++ (if m + 1 ∈ nm then [m + 1] else []) := by
  unfold knw
  induction nm with
  | nil => rfl
  | cons a t ih =>
    obtain ⟨h1, h2⟩ := List.pairwise_cons.mp h
    have ih := ih h2
    by_cases c : a ≤ m
    · rw [fk_pos (by omega : a ≤ m + 1), fk_pos c, ih]
      have e : (m + 1 ∈ a :: t) ↔ m + 1 ∈ t := by
        rw [List.mem_cons]
        exact ⟨fun h => h.elim (fun e => by omega) id, .inr⟩
      by_cases c2 : m + 1 ∈ t
      · rw [if_pos c2, if_pos (e.mpr c2)] <;> rfl
      · rw [if_neg c2, if_neg (fun q => c2 (e.mp q))] <;> rfl
    · have tail : ∀ k, k ≤ m + 1 → t.filter (fun g => decide (g ≤ k)) = [] := fun k hk => List.filter_eq_nil_iff.mpr fun x hx => by
        have := h1 x hx
        rw [decide_eq_true_eq]
        omega
      rw [fk_neg c, tail m (by omega)]
      by_cases c2 : a = m + 1
      · subst c2
        rw [fk_pos (Nat.le_refl _), tail _ (Nat.le_refl _), if_pos List.mem_cons_self] <;> rfl
      · have nm1 : m + 1 ∉ a :: t := fun h => (List.mem_cons.mp h).elim (fun e => c2 e.symm) fun h => by
          have := h1 _ h
          omega
        rw [fk_neg (by omega), tail _ (Nat.le_refl _), if_neg nm1] <;> rfl
theorem knw_le {nm : List Nat} {m g : Nat} (h : g ∈ knw nm m) : g ≤ m := by
  have h2 := (List.mem_filter.mp h).2
  exact of_decide_eq_true h2
theorem all_same {α : Type} {l : List α} {f g : α → Bool} (h : ∀ x ∈ l, f x = g x) : l.all f = l.all g := by
  induction l with
  | nil => rfl
  | cons a t ih => rw [List.all_cons, List.all_cons, h a List.mem_cons_self, ih fun x hx => h x (List.mem_cons_of_mem _ hx)]
theorem rs_same {nm : List Nat} {p : List Int} {x : Int} (h : nm.Pairwise (· < ·)) (hx : x.natAbs = p.length + 1) (hm : p.length + 1 ∉ nm) : rs nm (p ++ [x]) = rs nm p := by
  unfold rs
  rw [snoc_len, knw_succ h, if_neg hm, List.append_nil]
  refine List.ext_getElem (by rw [List.length_mapIdx, List.length_mapIdx]) fun i a1 a2 => ?_
  rw [List.getElem_mapIdx, List.getElem_mapIdx]
  have hg : (knw nm p.length)[i]'(by rw [List.length_mapIdx] at a2; exact a2) ≤ p.length := knw_le (List.getElem_mem _)
  generalize (knw nm p.length)[i]'(by rw [List.length_mapIdx] at a2; exact a2) = g at hg
  have e : ((g : Int) ∈ p ++ [x]) ↔ (g : Int) ∈ p := by
    rw [List.mem_append, List.mem_singleton]
    exact ⟨fun h => h.elim id fun e => by omega, .inl⟩
  by_cases c : (g : Int) ∈ p
  · rw [if_pos c, if_pos (e.mpr c)]
  · rw [if_neg c, if_neg (fun q => c (e.mp q))]
theorem rs_snoc {nm : List Nat} {p : List Int} {x : Int} (h : nm.Pairwise (· < ·)) (hp : PlayOk p) (hx : x.natAbs = p.length + 1) (hm : p.length + 1 ∈ nm) : rs nm (p ++ [x]) = rs nm p ++ [if 0 < x then ((rs nm p).length : Int) + 1 else -(((rs nm p).length : Int) + 1)] := by
  have hlen : (rs nm p).length = (knw nm p.length).length := List.length_mapIdx
  rw [hlen]
  unfold rs
  rw [snoc_len, knw_succ h, if_pos hm, List.mapIdx_append]
  congr 1
  · refine List.ext_getElem (by rw [List.length_mapIdx, List.length_mapIdx]) fun i a1 a2 => ?_
    rw [List.getElem_mapIdx, List.getElem_mapIdx]
    have hg : (knw nm p.length)[i]'(by rw [List.length_mapIdx] at a2; exact a2) ≤ p.length := knw_le (List.getElem_mem _)
    generalize (knw nm p.length)[i]'(by rw [List.length_mapIdx] at a2; exact a2) = g at hg
    have e : ((g : Int) ∈ p ++ [x]) ↔ (g : Int) ∈ p := by
      rw [List.mem_append, List.mem_singleton]
      exact ⟨fun h => h.elim id fun e => by omega, .inl⟩
    by_cases c : (g : Int) ∈ p
    · rw [if_pos c, if_pos (e.mpr c)]
    · rw [if_neg c, if_neg (fun q => c (e.mp q))]
  · rw [List.mapIdx_cons, List.mapIdx_nil, Nat.zero_add]
    have e : (((p.length + 1 : Nat) : Int) ∈ p ++ [x]) ↔ 0 < x := by
      rw [List.mem_append, List.mem_singleton]
      constructor
      · rintro (h | h)
        · exfalso
          obtain ⟨i, hi⟩ := List.mem_iff_getElem?.mp h
          have h1 := hp i _ hi
          have h2 := (List.getElem?_eq_some_iff.mp hi).1
          omega
        · omega
      · intro h
        exact .inr (by omega)
    by_cases c : 0 < x
    · rw [if_pos c, if_pos (e.mpr c)]
    · rw [if_neg c, if_neg (fun q => c (e.mp q))]
/-- a sentence woven of parts -/
structure Wov (n : Nat) (z : Str) (R : List (List Int)) (ps : List Pt) : Prop where
  row : ∀ r ∈ R, Row n r
  rows : ∀ q ∈ ps, ∀ r ∈ q.R, Row q.n r
  asc : ∀ q ∈ ps, q.nm.Pairwise (· < ·)
  len : ∀ q ∈ ps, q.nm.length = q.n
  rng : ∀ q ∈ ps, ∀ g ∈ q.nm, 1 ≤ g ∧ g ≤ n
  cov : ∀ g, 1 ≤ g → g ≤ n → ∃ l1 q l2, ps = l1 ++ q :: l2 ∧ g ∈ q.nm ∧ (∀ r ∈ l1, g ∉ r.nm) ∧ ∀ r ∈ l2, g ∉ r.nm
  own : ∀ q ∈ ps, ∀ (j g : Nat), q.nm[j]? = some g → heldBy z "s" (g : Int) = heldBy q.z "s" ((j : Int) + 1)
  res : ∀ p, PlayOk p → p.length = n → resB p R = ps.all fun q => resB (rs q.nm p) q.R
theorem knw_all {nm : List Nat} {m : Nat} (h : ∀ g ∈ nm, g ≤ m) : knw nm m = nm := List.filter_eq_self.mpr fun g hg => decide_eq_true (h g hg)
theorem knw_pre {nm : List Nat} {m : Nat} (h : nm.Pairwise (· < ·)) : ∃ l, nm = knw nm m ++ l ∧ ∀ g ∈ l, m < g := by
  unfold knw
  induction nm with
  | nil => exact ⟨[], rfl, nofun⟩
  | cons a t ih =>
    obtain ⟨h1, h2⟩ := List.pairwise_cons.mp h
    by_cases c : a ≤ m
    · obtain ⟨l, e, hl⟩ := ih h2
      refine ⟨l, ?_, hl⟩
      rw [fk_pos c, List.cons_append, ← e]
    · refine ⟨a :: t, ?_, fun g hg => (List.mem_cons.mp hg).elim (fun e => by omega) fun h => by have := h1 g h; omega⟩
      rw [fk_neg c, List.filter_eq_nil_iff.mpr fun x hx => by have := h1 x hx; rw [decide_eq_true_eq]; omega] <;> rfl
theorem knw_at {nm : List Nat} {m : Nat} (h : nm.Pairwise (· < ·)) (hm : m + 1 ∈ nm) : nm[(knw nm m).length]? = some (m + 1) := by
  obtain ⟨l, e, hl⟩ := knw_pre (m := m) h
  have hml : m + 1 ∈ l := by
    rw [e] at hm
    refine (List.mem_append.mp hm).elim (fun h => ?_) id
    have := of_decide_eq_true (List.mem_filter.mp h).2
    omega
  have e2 : nm[(knw nm m).length]? = l[0]? := by
    have e3 : (knw nm m ++ l)[(knw nm m).length]? = l[0]? := by rw [List.getElem?_append_right (Nat.le_refl _), Nat.sub_self]
    rw [← e] at e3
    exact e3
  rw [e2]
  cases l with
  | nil => cases hml
  | cons a t =>
    have ha : m < a := hl a List.mem_cons_self
    have hp : (a :: t).Pairwise (· < ·) := by
      rw [e] at h
      exact (List.pairwise_append.mp h).2.1
    rcases List.mem_cons.mp hml with e4 | h4
    · rw [e4] <;> rfl
    · have := (List.pairwise_cons.mp hp).1 _ h4
      omega
theorem rs_ok (nm : List Nat) (p : List Int) : PlayOk (rs nm p) := fun i x e => by
  unfold rs at e
  rw [List.getElem?_mapIdx] at e
  obtain ⟨g, _, rfl⟩ := Option.map_eq_some_iff.mp e
  split <;> omega
theorem rs_len {nm : List Nat} {p : List Int} : (rs nm p).length = (knw nm p.length).length := List.length_mapIdx
theorem knw_len {nm : List Nat} {m : Nat} : (knw nm m).length ≤ nm.length := List.length_filter_le _ _
/-- SOME wins the woven sentence exactly if it wins each part -/
theorem weave {n : Nat} {z : Str} {R : List (List Int)} {ps : List Pt} (W : Wov n z R ps) : ∀ (m : Nat) (p : List Int), PlayOk p → p.length + m = n → winF n z R p = ps.all fun q => winF q.n q.z q.R (rs q.nm p)
  | 0, p, hp, hm => by
    rw [winF_full (by omega)]
    have h := W.res p hp (by omega)
    unfold resB at h
    rw [h]
    refine all_same fun q hq => ?_
    rw [winF_full (by rw [rs_len, knw_all (fun g hg => by have := W.rng q hq g hg; omega), W.len q hq])]
  | m + 1, p, hp, hm => by
    obtain ⟨l1, q, l2, e, hq, h1, h2⟩ := W.cov (p.length + 1) (by omega) (by omega)
    have hqm : q ∈ ps := e ▸ List.mem_append_right _ List.mem_cons_self
    have m1 : ∀ r ∈ l1, r ∈ ps := fun r h => e ▸ List.mem_append_left _ h
    have m2 : ∀ r ∈ l2, r ∈ ps := fun r h => e ▸ List.mem_append_right _ (List.mem_cons_of_mem _ h)
    have i1 := weave W m (p ++ [(p.length : Int) + 1]) (hp.snoc (by omega)) (by rw [snoc_len]; omega)
    have i2 := weave W m (p ++ [-((p.length : Int) + 1)]) (hp.snoc (by omega)) (by rw [snoc_len]; omega)
    have split3 : ∀ f : Pt → Bool, ps.all f = (l1.all f && (f q && l2.all f)) := fun f => by rw [e, List.all_append, List.all_cons]
    have same1 : ∀ x : Int, x.natAbs = p.length + 1 → (l1.all fun q => winF q.n q.z q.R (rs q.nm (p ++ [x]))) = l1.all fun q => winF q.n q.z q.R (rs q.nm p) := fun x hx => all_same fun r hr => by rw [rs_same (W.asc r (m1 r hr)) hx (h1 r hr)]
    have same2 : ∀ x : Int, x.natAbs = p.length + 1 → (l2.all fun q => winF q.n q.z q.R (rs q.nm (p ++ [x]))) = l2.all fun q => winF q.n q.z q.R (rs q.nm p) := fun x hx => all_same fun r hr => by rw [rs_same (W.asc r (m2 r hr)) hx (h2 r hr)]
    have hat := knw_at (W.asc q hqm) hq
    have ho := W.own q hqm _ _ hat
    have hlt : (rs q.nm p).length < q.n := by
      rw [rs_len, ← W.len q hqm]
      exact (List.getElem?_eq_some_iff.mp hat).1
    have ho2 : heldBy z "s" ((p.length : Int) + 1) = heldBy q.z "s" (((rs q.nm p).length : Int) + 1) := by
      rw [rs_len]
      exact ho
    rw [winF_step W.row (by omega), i1, i2, split3, split3, split3, same1 _ (by omega), same1 _ (by omega), same2 _ (by omega), same2 _ (by omega),
      rs_snoc (W.asc q hqm) hp (by omega) hq, rs_snoc (W.asc q hqm) hp (by omega) hq, if_pos (by omega : (0 : Int) < (p.length : Int) + 1), if_neg (by omega : ¬ (0 : Int) < -((p.length : Int) + 1)), winF_step (W.rows q hqm) hlt, ho2]
    generalize (l1.all fun q => winF q.n q.z q.R (rs q.nm p)) = A
    generalize (l2.all fun q => winF q.n q.z q.R (rs q.nm p)) = B
    generalize winF q.n q.z q.R (rs q.nm p ++ [((rs q.nm p).length : Int) + 1]) = x
    generalize winF q.n q.z q.R (rs q.nm p ++ [-(((rs q.nm p).length : Int) + 1)]) = y
    split <;> (cases A <;> cases B <;> cases x <;> cases y <;> rfl)
theorem rs_nil (nm : List Nat) (h : ∀ g ∈ nm, 1 ≤ g) : rs nm [] = [] := by
  unfold rs
  have : knw nm ([] : List Int).length = [] := List.filter_eq_nil_iff.mpr fun g hg => by
    have := h g hg
    show ¬ decide (g ≤ 0) = true
    rw [decide_eq_true_eq]
    omega
  rw [this] <;> rfl
end KA
set_option Elab.async false
set_option linter.all false
set_option maxRecDepth 100000
set_option maxHeartbeats 400000
set_option pp.maxSteps 300
namespace KA
open PySem PySem.Spec PyProof.Rows L2 Ea
abbrev s_law_won : Stmt := topS 23
theorem sc_law_won : FnScope ["deck", "way"] ["deck"] (defScope s_law_won) :=
  ⟨rfl, rfl, rfl, by decide +kernel, rfl, by decide +kernel, by decide +kernel⟩
abbrev s_law_lost : Stmt := topS 24
theorem sc_law_lost : FnScope ["deck", "way"] ["deck"] (defScope s_law_lost) :=
  ⟨rfl, rfl, rfl, by decide +kernel, rfl, by decide +kernel, by decide +kernel⟩
local macro_rules | `(tactic| walk_at "rd") => `(tactic| first
  | (with_reducible refine rd_seq ?_) | (with_reducible refine rd_asg ?_) | (with_reducible refine rd_if ?_) | (with_reducible refine rd_ret ?_) | (with_reducible refine rd_next ?_)
  | (with_reducible refine rd_drop ?_) | ((with_reducible refine rd_name (σ' := ?ss) ?hs ?_); (case hs => (dsimp only [List.set]; exact rfl)))
  | ((with_reducible refine rd_var (v := ?vv) ?hv ?_); (case hv => exact rfl)) | (with_reducible refine rd_c ?_) | (with_reducible refine rd_op ?_) | (with_reducible refine rd_un ?_)
  | (with_reducible refine rd_I0 ?_) | (with_reducible refine rd_U ?_) | (with_reducible refine rd_test ?_) | (with_reducible refine rd_B ?_) | (with_reducible refine rd_k ?_)
  | (with_reducible refine rd_not ?_) | (with_reducible refine rd_and ?_) | (with_reducible refine rd_or ?_) | (with_reducible refine rd_ifE ?_)
  | (with_reducible refine rd_par ?_) | ((with_reducible refine rd_par2 (σ' := ?ss) ?hs ?_); (case hs => (dsimp only [List.set]; exact rfl)))
  | (with_reducible refine rd_gsub ?_) | (with_reducible refine rd_andV ?_) | (with_reducible refine rd_orV ?_) | (with_reducible refine rd_notV ?_)
  | (with_reducible refine rd_lc ?_) | (with_reducible refine rd_iTup ?_) | (with_reducible refine rd_iList ?_) | (with_reducible refine rd_iRng1 ?_) | (with_reducible refine rd_iRng2 ?_) | (with_reducible refine rd_iEnumT ?_) | (with_reducible refine rd_iEnum ?_) | (with_reducible refine rd_iZipM ?_) | (with_reducible refine rd_iEnumS ?_) | (with_reducible refine rd_iKeys ?_) | (with_reducible refine rd_din ?_) | (with_reducible refine rd_dnotin ?_)
  | (with_reducible refine rd_yes ?_) | (with_reducible refine rd_true ?_) | (with_reducible refine rd_false ?_) | (with_reducible refine rd_m1 ?_) | (with_reducible refine rd_isS ?_)
  | ((with_reducible refine rd_eq ?hs ?_); (case hs => exact rfl)) | ((with_reducible refine rd_ne ?hs ?_); (case hs => exact rfl))
  | (with_reducible refine rd_listRg ?_) | (with_reducible refine rd_rg2 ?_) | (with_reducible refine rd_rgk ?_)
  | (with_reducible refine rd_dnew ?_) | (with_reducible refine rd_ddel ?_) | (with_reducible refine rd_kw ?_) | (with_reducible refine rd_callS ?_) | (with_reducible refine rd_dc ?_) | (with_reducible refine rd_for ?_) | (with_reducible refine rd_tru ?_) | (with_reducible refine rd_truI ?_)
  | (with_reducible refine rd_nil ?_) | (with_reducible refine rd_cons ?_) | (with_reducible refine rd_call ?_) | (with_reducible refine rd_cb ?_)
  | (with_reducible refine rd_tup ?_) | (with_reducible refine rd_lst ?_) | (with_reducible refine rd_dget ?_) | (with_reducible refine rd_dput ?_) | (with_reducible refine rd_dget2 ?_) | (with_reducible refine rd_sl ?_)
  | (with_reducible refine rd_nopart ?_) | (with_reducible refine rd_part ?_) | (with_reducible refine rd_parti ?_) | (with_reducible refine rd_bm ?_) | (with_reducible refine rd_bm0 ?_)
  | (with_reducible refine rd_int ?_) | (with_reducible refine rd_intb ?_) | (with_reducible refine rd_abs ?_) | (with_reducible refine rd_min2 ?_) | (with_reducible refine rd_max2 ?_))
local macro_rules | `(tactic| walk_at "rds") => `(tactic| repeat (walk_at "rd"))
local macro_rules | `(tactic| walk_at "rq") => `(tactic| first
  | (with_reducible refine rd_seq ?_) | (with_reducible refine rd_asg ?_) | (with_reducible refine rd_ret ?_) | (with_reducible refine rd_next ?_)
  | (with_reducible refine rd_drop ?_) | ((with_reducible refine rd_name (σ' := ?ss) ?hs ?_); (case hs => (dsimp only [List.set]; exact rfl)))
  | ((with_reducible refine rd_var (v := ?vv) ?hv ?_); (case hv => exact rfl)) | (with_reducible refine rd_c ?_) | (with_reducible refine rd_op ?_) | (with_reducible refine rd_un ?_)
  | (with_reducible refine rd_I0 ?_) | (with_reducible refine rd_U ?_) | (with_reducible refine rd_test ?_) | (with_reducible refine rd_B ?_) | (with_reducible refine rd_k ?_)
  | (with_reducible refine rd_not ?_) | (with_reducible refine rd_and ?_) | (with_reducible refine rd_or ?_) | (with_reducible refine rd_ifE ?_)
  | (with_reducible refine rd_par ?_) | ((with_reducible refine rd_par2 (σ' := ?ss) ?hs ?_); (case hs => (dsimp only [List.set]; exact rfl)))
  | (with_reducible refine rd_gsub ?_) | (with_reducible refine rd_andV ?_) | (with_reducible refine rd_orV ?_) | (with_reducible refine rd_notV ?_)
  | (with_reducible refine rd_lc ?_) | (with_reducible refine rd_iTup ?_) | (with_reducible refine rd_iList ?_) | (with_reducible refine rd_iRng1 ?_) | (with_reducible refine rd_iRng2 ?_) | (with_reducible refine rd_iEnumT ?_) | (with_reducible refine rd_iEnum ?_) | (with_reducible refine rd_iZipM ?_) | (with_reducible refine rd_iEnumS ?_) | (with_reducible refine rd_iKeys ?_) | (with_reducible refine rd_din ?_) | (with_reducible refine rd_dnotin ?_)
  | (with_reducible refine rd_yes ?_) | (with_reducible refine rd_true ?_) | (with_reducible refine rd_false ?_) | (with_reducible refine rd_m1 ?_) | (with_reducible refine rd_isS ?_)
  | ((with_reducible refine rd_eq ?hs ?_); (case hs => exact rfl)) | ((with_reducible refine rd_ne ?hs ?_); (case hs => exact rfl))
  | (with_reducible refine rd_listRg ?_) | (with_reducible refine rd_rg2 ?_) | (with_reducible refine rd_rgk ?_)
  | (with_reducible refine rd_dnew ?_) | (with_reducible refine rd_ddel ?_) | (with_reducible refine rd_kw ?_) | (with_reducible refine rd_callS ?_) | (with_reducible refine rd_dc ?_) | (with_reducible refine rd_for ?_) | (with_reducible refine rd_tru ?_) | (with_reducible refine rd_truI ?_)
  | (with_reducible refine rd_nil ?_) | (with_reducible refine rd_cons ?_) | (with_reducible refine rd_call ?_) | (with_reducible refine rd_cb ?_)
  | (with_reducible refine rd_tup ?_) | (with_reducible refine rd_lst ?_) | (with_reducible refine rd_dget ?_) | (with_reducible refine rd_dput ?_) | (with_reducible refine rd_dget2 ?_) | (with_reducible refine rd_sl ?_)
  | (with_reducible refine rd_nopart ?_) | (with_reducible refine rd_part ?_) | (with_reducible refine rd_parti ?_) | (with_reducible refine rd_bm ?_) | (with_reducible refine rd_bm0 ?_)
  | (with_reducible refine rd_int ?_) | (with_reducible refine rd_intb ?_) | (with_reducible refine rd_abs ?_) | (with_reducible refine rd_min2 ?_) | (with_reducible refine rd_max2 ?_))
local macro_rules | `(tactic| walk_at "rqs") => `(tactic| repeat (walk_at "rq"))
local macro_rules | `(tactic| walk_at "rv") => `(tactic| first
  | (with_reducible refine rd_seq ?_) | (with_reducible refine rd_asg ?_) | (with_reducible refine rd_ret ?_) | (with_reducible refine rd_next ?_)
  | (with_reducible refine rd_drop ?_) | ((with_reducible refine rd_name (σ' := ?ss) ?hs ?_); (case hs => (dsimp only [List.set]; exact rfl)))
  | ((with_reducible refine rd_var (v := ?vv) ?hv ?_); (case hv => exact rfl)) | (with_reducible refine rd_c ?_) | (with_reducible refine rd_op ?_) | (with_reducible refine rd_un ?_)
  | (with_reducible refine rd_I0 ?_) | (with_reducible refine rd_U ?_) | (with_reducible refine rd_test ?_) | (with_reducible refine rd_B ?_) | (with_reducible refine rd_k ?_)
  | (with_reducible refine rd_not ?_) | (with_reducible refine rd_and ?_) | (with_reducible refine rd_or ?_)
  | (with_reducible refine rd_par ?_) | ((with_reducible refine rd_par2 (σ' := ?ss) ?hs ?_); (case hs => (dsimp only [List.set]; exact rfl)))
  | (with_reducible refine rd_gsub ?_) | (with_reducible refine rd_andV ?_) | (with_reducible refine rd_orV ?_) | (with_reducible refine rd_notV ?_)
  | (with_reducible refine rd_lc ?_) | (with_reducible refine rd_iTup ?_) | (with_reducible refine rd_iList ?_) | (with_reducible refine rd_iRng1 ?_) | (with_reducible refine rd_iRng2 ?_) | (with_reducible refine rd_iEnumT ?_) | (with_reducible refine rd_iEnum ?_) | (with_reducible refine rd_iZipM ?_) | (with_reducible refine rd_iEnumS ?_) | (with_reducible refine rd_iKeys ?_) | (with_reducible refine rd_din ?_) | (with_reducible refine rd_dnotin ?_)
  | (with_reducible refine rd_yes ?_) | (with_reducible refine rd_true ?_) | (with_reducible refine rd_false ?_) | (with_reducible refine rd_m1 ?_) | (with_reducible refine rd_isS ?_)
  | ((with_reducible refine rd_eq ?hs ?_); (case hs => exact rfl)) | ((with_reducible refine rd_ne ?hs ?_); (case hs => exact rfl))
  | (with_reducible refine rd_listRg ?_) | (with_reducible refine rd_rg2 ?_) | (with_reducible refine rd_rgk ?_)
  | (with_reducible refine rd_dnew ?_) | (with_reducible refine rd_ddel ?_) | (with_reducible refine rd_kw ?_) | (with_reducible refine rd_callS ?_) | (with_reducible refine rd_dc ?_) | (with_reducible refine rd_for ?_) | (with_reducible refine rd_tru ?_) | (with_reducible refine rd_truI ?_)
  | (with_reducible refine rd_nil ?_) | (with_reducible refine rd_cons ?_) | (with_reducible refine rd_call ?_) | (with_reducible refine rd_cb ?_)
  | (with_reducible refine rd_tup ?_) | (with_reducible refine rd_lst ?_) | (with_reducible refine rd_dget ?_) | (with_reducible refine rd_dput ?_) | (with_reducible refine rd_dget2 ?_) | (with_reducible refine rd_sl ?_)
  | (with_reducible refine rd_nopart ?_) | (with_reducible refine rd_part ?_) | (with_reducible refine rd_parti ?_) | (with_reducible refine rd_bm ?_) | (with_reducible refine rd_bm0 ?_)
  | (with_reducible refine rd_int ?_) | (with_reducible refine rd_intb ?_) | (with_reducible refine rd_abs ?_) | (with_reducible refine rd_min2 ?_) | (with_reducible refine rd_max2 ?_))
local macro_rules | `(tactic| walk_at "rvs") => `(tactic| repeat (walk_at "rv"))

section
variable {P : Program} {w : World} {K : PySem.W.Frag} {mg : Str → Option Value} {base : Heap}
def spPart (K : PySem.W.Frag) : Sp := fun vs H Q _ => ∃ (d l : Addr), vs = [.ref d] ∧ DeckL d l H ∧
  ∀ (a : Addr) (z : Str) (n : Nat) (R : List (List Int)) (H' : Hp), Gl d l H H' → Sen K H' n a z R → 1 ≤ n → n ≤ 4 → R.length ≤ 4 → Q (.ref a) H'
theorem ok_won {f fD fP : Addr} {fd fdD fdP : FuncData} (F : Fun K "_law_won" "_law_won" s_law_won f fd) (T : Bl mg)
    (G_law_draw : FnOk P w K mg base CX0 1 fD fdD ["deck", "many"] spDraw) (C_law_draw : Callee K mg "_law_draw" fD fdD ["deck", "many"])
    (G_law_pick : FnOk P w K mg base CX0 2 fP fdP ["deck", "items"] spPick) (C_law_pick : Callee K mg "_law_pick" fP fdP ["deck", "items"]) :
    FnOk P w K mg base CX0 3 f fd ["deck"] (spPart K) := by
  refine F.ok sc_law_won (fun vs H Q E h => ?_) (fun cdv A outer s H vs Q E hr h => ?_)
  · obtain ⟨d, l, rfl, _⟩ := h
    rfl
  · obtain ⟨d, l, rfl, hD, q⟩ := h
    refine ⟨_, (pss_cons (ps_set (i := 1) sc_law_won.nd rfl (Or.inl rfl) (pe_call G_law_draw (hr.mono (by decide)) (by rfl) C_law_draw.m C_law_draw.k C_law_draw.b .nil pass0 (pa_cons (pv 0) (pa_cons pe_int pa_nil))))
 (pss_cons (ps_if (pt_cmpR op_eq (pv 1) pe_int (nomark _)) (pss_one (ps_ret (pe_tup (pa_cons pe_str (pa_cons (pe_tup (pa_cons (pe_tup (pa_cons (pe_un un_neg pe_int) (pa_cons pe_int pa_nil))) (pa_cons (pe_tup (pa_cons pe_int (pa_cons (pe_un un_neg pe_int) pa_nil))) pa_nil))) pa_nil))))) pss_nil)
 (pss_cons (ps_if (pt_cmpR op_eq (pv 1) pe_int (nomark _)) (pss_one (ps_ret (pe_tup (pa_cons pe_str (pa_cons (pe_tup (pa_cons (pe_tup (pa_cons pe_int (pa_cons pe_int (pa_cons (pe_un un_neg pe_int) pa_nil)))) (pa_cons (pe_tup (pa_cons (pe_un un_neg pe_int) (pa_cons (pe_un un_neg pe_int) (pa_cons (pe_un un_neg pe_int) pa_nil)))) (pa_cons (pe_tup (pa_cons pe_int (pa_cons (pe_un un_neg pe_int) (pa_cons pe_int pa_nil)))) (pa_cons (pe_tup (pa_cons (pe_un un_neg pe_int) (pa_cons pe_int (pa_cons pe_int pa_nil)))) pa_nil))))) pa_nil))))) pss_nil)
 (pss_cons (ps_if (pt_cmpR op_eq (pv 1) pe_int (nomark _)) (pss_one (ps_ret (pe_tup (pa_cons pe_str (pa_cons (pe_tup (pa_cons (pe_call G_law_pick (hr.mono (by decide)) (by rfl) C_law_pick.m C_law_pick.k C_law_pick.b .nil pass0 (pa_cons (pv 0) (pa_cons (pe_lst (pa_cons (pe_tup (pa_cons pe_int pa_nil)) (pa_cons (pe_tup (pa_cons (pe_un un_neg pe_int) pa_nil)) pa_nil))) pa_nil))) pa_nil)) pa_nil))))) pss_nil)
 (pss_cons (ps_if (pt_cmpR op_eq (pv 1) pe_int (nomark _)) (pss_one (ps_ret (pe_tup (pa_cons pe_str (pa_cons (pe_tup (pa_cons (pe_tup (pa_cons pe_int (pa_cons pe_int pa_nil))) pa_nil)) pa_nil))))) pss_nil)
 (pss_cons (ps_if (pt_cmpR op_eq (pv 1) pe_int (nomark _)) (pss_one (ps_ret (pe_tup (pa_cons pe_str (pa_cons (pe_tup (pa_cons (pe_tup (pa_cons pe_int (pa_cons pe_int pa_nil))) (pa_cons (pe_tup (pa_cons pe_int (pa_cons (pe_un un_neg pe_int) pa_nil))) pa_nil))) pa_nil))))) pss_nil)
 (pss_cons (ps_if (pt_cmpR op_eq (pv 1) pe_int (nomark _)) (pss_one (ps_ret (pe_tup (pa_cons pe_str (pa_cons (pe_tup (pa_cons (pe_tup (pa_cons pe_int pa_nil)) (pa_cons (pe_tup (pa_cons (pe_un un_neg pe_int) (pa_cons pe_int pa_nil))) (pa_cons (pe_tup (pa_cons (pe_un un_neg pe_int) (pa_cons pe_int pa_nil))) pa_nil)))) pa_nil))))) pss_nil)
 (pss_cons (ps_if (pt_cmpR op_eq (pv 1) pe_int (nomark _)) (pss_one (ps_ret (pe_tup (pa_cons pe_str (pa_cons (pe_tup (pa_cons (pe_tup (pa_cons (pe_un un_neg pe_int) (pa_cons pe_int pa_nil))) (pa_cons (pe_tup (pa_cons pe_int (pa_cons (pe_un un_neg pe_int) pa_nil))) (pa_cons (pe_tup (pa_cons (pe_un un_neg pe_int) (pa_cons pe_int pa_nil))) (pa_cons (pe_tup (pa_cons pe_int (pa_cons (pe_un un_neg pe_int) pa_nil))) pa_nil))))) pa_nil))))) pss_nil)
 (pss_cons (ps_if (pt_cmpR op_eq (pv 1) pe_int (nomark _)) (pss_one (ps_ret (pe_tup (pa_cons pe_str (pa_cons (pe_tup (pa_cons (pe_tup (pa_cons pe_int (pa_cons pe_int (pa_cons pe_int pa_nil)))) (pa_cons (pe_tup (pa_cons pe_int (pa_cons (pe_un un_neg pe_int) (pa_cons (pe_un un_neg pe_int) pa_nil)))) (pa_cons (pe_tup (pa_cons (pe_un un_neg pe_int) (pa_cons pe_int (pa_cons (pe_un un_neg pe_int) pa_nil)))) (pa_cons (pe_tup (pa_cons (pe_un un_neg pe_int) (pa_cons (pe_un un_neg pe_int) (pa_cons pe_int pa_nil)))) pa_nil))))) pa_nil))))) pss_nil)
 (pss_one (ps_ret (pe_tup (pa_cons pe_str (pa_cons (pe_tup (pa_cons (pe_tup (pa_cons pe_int (pa_cons pe_int (pa_cons pe_int pa_nil)))) (pa_cons (pe_tup (pa_cons (pe_un un_neg pe_int) (pa_cons (pe_un un_neg pe_int) (pa_cons pe_int pa_nil)))) pa_nil))) pa_nil)))))))))))))), ?_⟩
    refine rd_start (σ' := [some (.ref d), none]) rfl ?_
    walk_at "rds"
    refine ⟨d, l, 9, rfl, hD, by decide, by decide, fun w0 H0 g0 r0 r1 => ?_⟩
    walk_at "rds"
    refine rd_ite (fun c0 => ?_) (fun c0 => ?_)
    · walk_at "rds"
      refine ⟨(by show 2 ≤ sizeLine; decide), fun b0 h1 => ?_⟩
      have e1 := Evl.Ex.new (o := .tup [V.int (-1), V.int 2]) h1
      have sb0 : SqT K (upd H0 b0 (.tup [V.int (-1), V.int 2])) b0 (([(-1), 2] : List Int).map V.int) := SqT.of upd_same
      have g1 := g0.trans (Gl.ex e1 g0.dk)
      generalize upd H0 b0 (.tup [V.int (-1), V.int 2]) = H1 at e1 sb0 g1 ⊢
      walk_at "rds"
      refine ⟨(by show 2 ≤ sizeLine; decide), fun b1 h2 => ?_⟩
      have e2 := Evl.Ex.new (o := .tup [V.int 1, V.int (-2)]) h2
      have sb1 : SqT K (upd H1 b1 (.tup [V.int 1, V.int (-2)])) b1 (([1, (-2)] : List Int).map V.int) := SqT.of upd_same
      have sb0 := Evl.ex_t e2 sb0
      have g2 := g1.trans (Gl.ex e2 g1.dk)
      generalize upd H1 b1 (.tup [V.int 1, V.int (-2)]) = H2 at e2 sb0 sb1 g2 ⊢
      walk_at "rds"
      refine ⟨(by show 2 ≤ sizeLine; decide), fun c h3 => ?_⟩
      have e3 := Evl.Ex.new (o := .tup [V.ref b0, V.ref b1]) h3
      have sc : SqT K (upd H2 c (.tup [V.ref b0, V.ref b1])) c [V.ref b0, V.ref b1] := SqT.of upd_same
      have sb0 := Evl.ex_t e3 sb0
      have sb1 := Evl.ex_t e3 sb1
      have g3 := g2.trans (Gl.ex e3 g2.dk)
      generalize upd H2 c (.tup [V.ref b0, V.ref b1]) = H3 at e3 sb0 sb1 sc g3 ⊢
      walk_at "rds"
      refine ⟨(by show 2 ≤ sizeLine; decide), fun o h4 => ?_⟩
      have e4 := Evl.Ex.new (o := .tup [V.str "es", .ref c]) h4
      have so : SqT K (upd H3 o (.tup [V.str "es", .ref c])) o [V.str "es", .ref c] := SqT.of upd_same
      have sb0 := Evl.ex_t e4 sb0
      have sb1 := Evl.ex_t e4 sb1
      have sc := Evl.ex_t e4 sc
      have g4 := g3.trans (Gl.ex e4 g3.dk)
      generalize upd H3 o (.tup [V.str "es", .ref c]) = H4 at e4 sb0 sb1 sc so g4 ⊢
      walk_at "rds"
      exact q o "es" 2 [[(-1), 2], [1, (-2)]] _ g4 ⟨c, _, so, sc, .cons (dp_of_row sb0) (.cons (dp_of_row sb1) (.nil)), ⟨rfl, by decide⟩, by decide, (by unfold Ea.Row; decide), by show 2 ≤ 300; decide⟩ (by decide) (by decide) (by show 2 ≤ 4; decide)
    walk_at "rds"
    refine rd_ite (fun c0 => ?_) (fun c0 => ?_)
    · walk_at "rds"
      refine ⟨(by show 3 ≤ sizeLine; decide), fun b0 h1 => ?_⟩
      have e1 := Evl.Ex.new (o := .tup [V.int 1, V.int 2, V.int (-3)]) h1
      have sb0 : SqT K (upd H0 b0 (.tup [V.int 1, V.int 2, V.int (-3)])) b0 (([1, 2, (-3)] : List Int).map V.int) := SqT.of upd_same
      have g1 := g0.trans (Gl.ex e1 g0.dk)
      generalize upd H0 b0 (.tup [V.int 1, V.int 2, V.int (-3)]) = H1 at e1 sb0 g1 ⊢
      walk_at "rds"
      refine ⟨(by show 3 ≤ sizeLine; decide), fun b1 h2 => ?_⟩
      have e2 := Evl.Ex.new (o := .tup [V.int (-1), V.int (-2), V.int (-3)]) h2
      have sb1 : SqT K (upd H1 b1 (.tup [V.int (-1), V.int (-2), V.int (-3)])) b1 (([(-1), (-2), (-3)] : List Int).map V.int) := SqT.of upd_same
      have sb0 := Evl.ex_t e2 sb0
      have g2 := g1.trans (Gl.ex e2 g1.dk)
      generalize upd H1 b1 (.tup [V.int (-1), V.int (-2), V.int (-3)]) = H2 at e2 sb0 sb1 g2 ⊢
      walk_at "rds"
      refine ⟨(by show 3 ≤ sizeLine; decide), fun b2 h3 => ?_⟩
      have e3 := Evl.Ex.new (o := .tup [V.int 1, V.int (-2), V.int 3]) h3
      have sb2 : SqT K (upd H2 b2 (.tup [V.int 1, V.int (-2), V.int 3])) b2 (([1, (-2), 3] : List Int).map V.int) := SqT.of upd_same
      have sb0 := Evl.ex_t e3 sb0
      have sb1 := Evl.ex_t e3 sb1
      have g3 := g2.trans (Gl.ex e3 g2.dk)
      generalize upd H2 b2 (.tup [V.int 1, V.int (-2), V.int 3]) = H3 at e3 sb0 sb1 sb2 g3 ⊢
      walk_at "rds"
      refine ⟨(by show 3 ≤ sizeLine; decide), fun b3 h4 => ?_⟩
      have e4 := Evl.Ex.new (o := .tup [V.int (-1), V.int 2, V.int 3]) h4
      have sb3 : SqT K (upd H3 b3 (.tup [V.int (-1), V.int 2, V.int 3])) b3 (([(-1), 2, 3] : List Int).map V.int) := SqT.of upd_same
      have sb0 := Evl.ex_t e4 sb0
      have sb1 := Evl.ex_t e4 sb1
      have sb2 := Evl.ex_t e4 sb2
      have g4 := g3.trans (Gl.ex e4 g3.dk)
      generalize upd H3 b3 (.tup [V.int (-1), V.int 2, V.int 3]) = H4 at e4 sb0 sb1 sb2 sb3 g4 ⊢
      walk_at "rds"
      refine ⟨(by show 4 ≤ sizeLine; decide), fun c h5 => ?_⟩
      have e5 := Evl.Ex.new (o := .tup [V.ref b0, V.ref b1, V.ref b2, V.ref b3]) h5
      have sc : SqT K (upd H4 c (.tup [V.ref b0, V.ref b1, V.ref b2, V.ref b3])) c [V.ref b0, V.ref b1, V.ref b2, V.ref b3] := SqT.of upd_same
      have sb0 := Evl.ex_t e5 sb0
      have sb1 := Evl.ex_t e5 sb1
      have sb2 := Evl.ex_t e5 sb2
      have sb3 := Evl.ex_t e5 sb3
      have g5 := g4.trans (Gl.ex e5 g4.dk)
      generalize upd H4 c (.tup [V.ref b0, V.ref b1, V.ref b2, V.ref b3]) = H5 at e5 sb0 sb1 sb2 sb3 sc g5 ⊢
      walk_at "rds"
      refine ⟨(by show 2 ≤ sizeLine; decide), fun o h6 => ?_⟩
      have e6 := Evl.Ex.new (o := .tup [V.str "ees", .ref c]) h6
      have so : SqT K (upd H5 o (.tup [V.str "ees", .ref c])) o [V.str "ees", .ref c] := SqT.of upd_same
      have sb0 := Evl.ex_t e6 sb0
      have sb1 := Evl.ex_t e6 sb1
      have sb2 := Evl.ex_t e6 sb2
      have sb3 := Evl.ex_t e6 sb3
      have sc := Evl.ex_t e6 sc
      have g6 := g5.trans (Gl.ex e6 g5.dk)
      generalize upd H5 o (.tup [V.str "ees", .ref c]) = H6 at e6 sb0 sb1 sb2 sb3 sc so g6 ⊢
      walk_at "rds"
      exact q o "ees" 3 [[1, 2, (-3)], [(-1), (-2), (-3)], [1, (-2), 3], [(-1), 2, 3]] _ g6 ⟨c, _, so, sc, .cons (dp_of_row sb0) (.cons (dp_of_row sb1) (.cons (dp_of_row sb2) (.cons (dp_of_row sb3) (.nil)))), ⟨rfl, by decide⟩, by decide, (by unfold Ea.Row; decide), by show 4 ≤ 300; decide⟩ (by decide) (by decide) (by show 4 ≤ 4; decide)
    walk_at "rds"
    refine rd_ite (fun c0 => ?_) (fun c0 => ?_)
    · walk_at "rds"
      refine ⟨(by show 1 ≤ sizeLine; decide), fun b0 h1 => ?_⟩
      have e1 := Evl.Ex.new (o := .tup [V.int 1]) h1
      have sb0 : SqT K (upd H0 b0 (.tup [V.int 1])) b0 (([1] : List Int).map V.int) := SqT.of upd_same
      have g1 := g0.trans (Gl.ex e1 g0.dk)
      generalize upd H0 b0 (.tup [V.int 1]) = H1 at e1 sb0 g1 ⊢
      walk_at "rds"
      refine ⟨(by show 1 ≤ sizeLine; decide), fun b1 h2 => ?_⟩
      have e2 := Evl.Ex.new (o := .tup [V.int (-1)]) h2
      have sb1 : SqT K (upd H1 b1 (.tup [V.int (-1)])) b1 (([(-1)] : List Int).map V.int) := SqT.of upd_same
      have sb0 := Evl.ex_t e2 sb0
      have g2 := g1.trans (Gl.ex e2 g1.dk)
      generalize upd H1 b1 (.tup [V.int (-1)]) = H2 at e2 sb0 sb1 g2 ⊢
      walk_at "rds"
      refine ⟨(by show 2 ≤ sizeLine; decide), fun L h3 => ?_⟩
      have e3 := Evl.Ex.new (o := .lst [V.ref b0, V.ref b1]) h3
      have sb0 := Evl.ex_t e3 sb0
      have sb1 := Evl.ex_t e3 sb1
      have oL := g2.dk.off h3
      have g3 := g2.trans (Gl.ex e3 g2.dk)
      have hL : (upd H2 L (.lst [V.ref b0, V.ref b1])) L = some (.lst [V.ref b0, V.ref b1]) := upd_same
      generalize upd H2 L (.lst [V.ref b0, V.ref b1]) = H3 at e3 hL sb0 sb1 g3 ⊢
      walk_at "rds"
      refine ⟨d, l, L, _, rfl, g3.dk, hL, oL.1, oL.2, by show 1 ≤ 2; decide, by show 2 ≤ 1000; decide, fun y H4 gp hy => ?_⟩
      have g4 := g3.trans gp
      have sb0 := gp.tup g3.dk sb0
      have sb1 := gp.tup g3.dk sb1
      obtain ⟨b, r, rfl, sb, hr1⟩ : ∃ (b : Addr) (r : List Int), y = .ref b ∧ SqT K H4 b (r.map V.int) ∧ r ∈ ([[1], [(-1)]] : List (List Int)) := by
        simp only [List.mem_cons, List.not_mem_nil, or_false] at hy
        rcases hy with rfl | rfl
        · exact ⟨b0, [1], rfl, sb0, by simp⟩
        · exact ⟨b1, [(-1)], rfl, sb1, by simp⟩
      walk_at "rds"
      refine ⟨(by show 1 ≤ sizeLine; decide), fun c h5 => ?_⟩
      have e5 := Evl.Ex.new (o := .tup [V.ref b]) h5
      have sc : SqT K (upd H4 c (.tup [V.ref b])) c [V.ref b] := SqT.of upd_same
      have sb := Evl.ex_t e5 sb
      have g5 := g4.trans (Gl.ex e5 g4.dk)
      generalize upd H4 c (.tup [V.ref b]) = H5 at e5 sb sc g5 ⊢
      walk_at "rds"
      refine ⟨(by show 2 ≤ sizeLine; decide), fun o h6 => ?_⟩
      have e6 := Evl.Ex.new (o := .tup [V.str "s", .ref c]) h6
      have so : SqT K (upd H5 o (.tup [V.str "s", .ref c])) o [V.str "s", .ref c] := SqT.of upd_same
      have sb := Evl.ex_t e6 sb
      have sc := Evl.ex_t e6 sc
      have g6 := g5.trans (Gl.ex e6 g5.dk)
      generalize upd H5 o (.tup [V.str "s", .ref c]) = H6 at e6 sb sc so g6 ⊢
      walk_at "rds"
      have rowr : ∀ r ∈ ([[1], [(-1)]] : List (List Int)), Row 1 r := by unfold Ea.Row; decide
      exact q o "s" 1 [r] _ g6 ⟨c, _, so, sc, .cons (dp_of_row sb) .nil, ⟨rfl, by decide⟩, by decide, fun x hx => by rw [List.mem_singleton.mp hx]; exact rowr r hr1, by show 1 ≤ 300; decide⟩ (by decide) (by decide) (by show 1 ≤ 4; decide)
    walk_at "rds"
    refine rd_ite (fun c0 => ?_) (fun c0 => ?_)
    · walk_at "rds"
      refine ⟨(by show 2 ≤ sizeLine; decide), fun b0 h1 => ?_⟩
      have e1 := Evl.Ex.new (o := .tup [V.int 1, V.int 2]) h1
      have sb0 : SqT K (upd H0 b0 (.tup [V.int 1, V.int 2])) b0 (([1, 2] : List Int).map V.int) := SqT.of upd_same
      have g1 := g0.trans (Gl.ex e1 g0.dk)
      generalize upd H0 b0 (.tup [V.int 1, V.int 2]) = H1 at e1 sb0 g1 ⊢
      walk_at "rds"
      refine ⟨(by show 1 ≤ sizeLine; decide), fun c h2 => ?_⟩
      have e2 := Evl.Ex.new (o := .tup [V.ref b0]) h2
      have sc : SqT K (upd H1 c (.tup [V.ref b0])) c [V.ref b0] := SqT.of upd_same
      have sb0 := Evl.ex_t e2 sb0
      have g2 := g1.trans (Gl.ex e2 g1.dk)
      generalize upd H1 c (.tup [V.ref b0]) = H2 at e2 sb0 sc g2 ⊢
      walk_at "rds"
      refine ⟨(by show 2 ≤ sizeLine; decide), fun o h3 => ?_⟩
      have e3 := Evl.Ex.new (o := .tup [V.str "es", .ref c]) h3
      have so : SqT K (upd H2 o (.tup [V.str "es", .ref c])) o [V.str "es", .ref c] := SqT.of upd_same
      have sb0 := Evl.ex_t e3 sb0
      have sc := Evl.ex_t e3 sc
      have g3 := g2.trans (Gl.ex e3 g2.dk)
      generalize upd H2 o (.tup [V.str "es", .ref c]) = H3 at e3 sb0 sc so g3 ⊢
      walk_at "rds"
      exact q o "es" 2 [[1, 2]] _ g3 ⟨c, _, so, sc, .cons (dp_of_row sb0) (.nil), ⟨rfl, by decide⟩, by decide, (by unfold Ea.Row; decide), by show 1 ≤ 300; decide⟩ (by decide) (by decide) (by show 1 ≤ 4; decide)
    walk_at "rds"
    refine rd_ite (fun c0 => ?_) (fun c0 => ?_)
    · walk_at "rds"
      refine ⟨(by show 2 ≤ sizeLine; decide), fun b0 h1 => ?_⟩
      have e1 := Evl.Ex.new (o := .tup [V.int 1, V.int 2]) h1
      have sb0 : SqT K (upd H0 b0 (.tup [V.int 1, V.int 2])) b0 (([1, 2] : List Int).map V.int) := SqT.of upd_same
      have g1 := g0.trans (Gl.ex e1 g0.dk)
      generalize upd H0 b0 (.tup [V.int 1, V.int 2]) = H1 at e1 sb0 g1 ⊢
      walk_at "rds"
      refine ⟨(by show 2 ≤ sizeLine; decide), fun b1 h2 => ?_⟩
      have e2 := Evl.Ex.new (o := .tup [V.int 1, V.int (-2)]) h2
      have sb1 : SqT K (upd H1 b1 (.tup [V.int 1, V.int (-2)])) b1 (([1, (-2)] : List Int).map V.int) := SqT.of upd_same
      have sb0 := Evl.ex_t e2 sb0
      have g2 := g1.trans (Gl.ex e2 g1.dk)
      generalize upd H1 b1 (.tup [V.int 1, V.int (-2)]) = H2 at e2 sb0 sb1 g2 ⊢
      walk_at "rds"
      refine ⟨(by show 2 ≤ sizeLine; decide), fun c h3 => ?_⟩
      have e3 := Evl.Ex.new (o := .tup [V.ref b0, V.ref b1]) h3
      have sc : SqT K (upd H2 c (.tup [V.ref b0, V.ref b1])) c [V.ref b0, V.ref b1] := SqT.of upd_same
      have sb0 := Evl.ex_t e3 sb0
      have sb1 := Evl.ex_t e3 sb1
      have g3 := g2.trans (Gl.ex e3 g2.dk)
      generalize upd H2 c (.tup [V.ref b0, V.ref b1]) = H3 at e3 sb0 sb1 sc g3 ⊢
      walk_at "rds"
      refine ⟨(by show 2 ≤ sizeLine; decide), fun o h4 => ?_⟩
      have e4 := Evl.Ex.new (o := .tup [V.str "se", .ref c]) h4
      have so : SqT K (upd H3 o (.tup [V.str "se", .ref c])) o [V.str "se", .ref c] := SqT.of upd_same
      have sb0 := Evl.ex_t e4 sb0
      have sb1 := Evl.ex_t e4 sb1
      have sc := Evl.ex_t e4 sc
      have g4 := g3.trans (Gl.ex e4 g3.dk)
      generalize upd H3 o (.tup [V.str "se", .ref c]) = H4 at e4 sb0 sb1 sc so g4 ⊢
      walk_at "rds"
      exact q o "se" 2 [[1, 2], [1, (-2)]] _ g4 ⟨c, _, so, sc, .cons (dp_of_row sb0) (.cons (dp_of_row sb1) (.nil)), ⟨rfl, by decide⟩, by decide, (by unfold Ea.Row; decide), by show 2 ≤ 300; decide⟩ (by decide) (by decide) (by show 2 ≤ 4; decide)
    walk_at "rds"
    refine rd_ite (fun c0 => ?_) (fun c0 => ?_)
    · walk_at "rds"
      refine ⟨(by show 1 ≤ sizeLine; decide), fun b0 h1 => ?_⟩
      have e1 := Evl.Ex.new (o := .tup [V.int 1]) h1
      have sb0 : SqT K (upd H0 b0 (.tup [V.int 1])) b0 (([1] : List Int).map V.int) := SqT.of upd_same
      have g1 := g0.trans (Gl.ex e1 g0.dk)
      generalize upd H0 b0 (.tup [V.int 1]) = H1 at e1 sb0 g1 ⊢
      walk_at "rds"
      refine ⟨(by show 2 ≤ sizeLine; decide), fun b1 h2 => ?_⟩
      have e2 := Evl.Ex.new (o := .tup [V.int (-1), V.int 2]) h2
      have sb1 : SqT K (upd H1 b1 (.tup [V.int (-1), V.int 2])) b1 (([(-1), 2] : List Int).map V.int) := SqT.of upd_same
      have sb0 := Evl.ex_t e2 sb0
      have g2 := g1.trans (Gl.ex e2 g1.dk)
      generalize upd H1 b1 (.tup [V.int (-1), V.int 2]) = H2 at e2 sb0 sb1 g2 ⊢
      walk_at "rds"
      refine ⟨(by show 2 ≤ sizeLine; decide), fun b2 h3 => ?_⟩
      have e3 := Evl.Ex.new (o := .tup [V.int (-2), V.int 3]) h3
      have sb2 : SqT K (upd H2 b2 (.tup [V.int (-2), V.int 3])) b2 (([(-2), 3] : List Int).map V.int) := SqT.of upd_same
      have sb0 := Evl.ex_t e3 sb0
      have sb1 := Evl.ex_t e3 sb1
      have g3 := g2.trans (Gl.ex e3 g2.dk)
      generalize upd H2 b2 (.tup [V.int (-2), V.int 3]) = H3 at e3 sb0 sb1 sb2 g3 ⊢
      walk_at "rds"
      refine ⟨(by show 3 ≤ sizeLine; decide), fun c h4 => ?_⟩
      have e4 := Evl.Ex.new (o := .tup [V.ref b0, V.ref b1, V.ref b2]) h4
      have sc : SqT K (upd H3 c (.tup [V.ref b0, V.ref b1, V.ref b2])) c [V.ref b0, V.ref b1, V.ref b2] := SqT.of upd_same
      have sb0 := Evl.ex_t e4 sb0
      have sb1 := Evl.ex_t e4 sb1
      have sb2 := Evl.ex_t e4 sb2
      have g4 := g3.trans (Gl.ex e4 g3.dk)
      generalize upd H3 c (.tup [V.ref b0, V.ref b1, V.ref b2]) = H4 at e4 sb0 sb1 sb2 sc g4 ⊢
      walk_at "rds"
      refine ⟨(by show 2 ≤ sizeLine; decide), fun o h5 => ?_⟩
      have e5 := Evl.Ex.new (o := .tup [V.str "sss", .ref c]) h5
      have so : SqT K (upd H4 o (.tup [V.str "sss", .ref c])) o [V.str "sss", .ref c] := SqT.of upd_same
      have sb0 := Evl.ex_t e5 sb0
      have sb1 := Evl.ex_t e5 sb1
      have sb2 := Evl.ex_t e5 sb2
      have sc := Evl.ex_t e5 sc
      have g5 := g4.trans (Gl.ex e5 g4.dk)
      generalize upd H4 o (.tup [V.str "sss", .ref c]) = H5 at e5 sb0 sb1 sb2 sc so g5 ⊢
      walk_at "rds"
      exact q o "sss" 3 [[1], [(-1), 2], [(-2), 3]] _ g5 ⟨c, _, so, sc, .cons (dp_of_row sb0) (.cons (dp_of_row sb1) (.cons (dp_of_row sb2) (.nil))), ⟨rfl, by decide⟩, by decide, (by unfold Ea.Row; decide), by show 3 ≤ 300; decide⟩ (by decide) (by decide) (by show 3 ≤ 4; decide)
    walk_at "rds"
    refine rd_ite (fun c0 => ?_) (fun c0 => ?_)
    · walk_at "rds"
      refine ⟨(by show 2 ≤ sizeLine; decide), fun b0 h1 => ?_⟩
      have e1 := Evl.Ex.new (o := .tup [V.int (-1), V.int 2]) h1
      have sb0 : SqT K (upd H0 b0 (.tup [V.int (-1), V.int 2])) b0 (([(-1), 2] : List Int).map V.int) := SqT.of upd_same
      have g1 := g0.trans (Gl.ex e1 g0.dk)
      generalize upd H0 b0 (.tup [V.int (-1), V.int 2]) = H1 at e1 sb0 g1 ⊢
      walk_at "rds"
      refine ⟨(by show 2 ≤ sizeLine; decide), fun b1 h2 => ?_⟩
      have e2 := Evl.Ex.new (o := .tup [V.int 1, V.int (-2)]) h2
      have sb1 : SqT K (upd H1 b1 (.tup [V.int 1, V.int (-2)])) b1 (([1, (-2)] : List Int).map V.int) := SqT.of upd_same
      have sb0 := Evl.ex_t e2 sb0
      have g2 := g1.trans (Gl.ex e2 g1.dk)
      generalize upd H1 b1 (.tup [V.int 1, V.int (-2)]) = H2 at e2 sb0 sb1 g2 ⊢
      walk_at "rds"
      refine ⟨(by show 2 ≤ sizeLine; decide), fun b2 h3 => ?_⟩
      have e3 := Evl.Ex.new (o := .tup [V.int (-3), V.int 4]) h3
      have sb2 : SqT K (upd H2 b2 (.tup [V.int (-3), V.int 4])) b2 (([(-3), 4] : List Int).map V.int) := SqT.of upd_same
      have sb0 := Evl.ex_t e3 sb0
      have sb1 := Evl.ex_t e3 sb1
      have g3 := g2.trans (Gl.ex e3 g2.dk)
      generalize upd H2 b2 (.tup [V.int (-3), V.int 4]) = H3 at e3 sb0 sb1 sb2 g3 ⊢
      walk_at "rds"
      refine ⟨(by show 2 ≤ sizeLine; decide), fun b3 h4 => ?_⟩
      have e4 := Evl.Ex.new (o := .tup [V.int 3, V.int (-4)]) h4
      have sb3 : SqT K (upd H3 b3 (.tup [V.int 3, V.int (-4)])) b3 (([3, (-4)] : List Int).map V.int) := SqT.of upd_same
      have sb0 := Evl.ex_t e4 sb0
      have sb1 := Evl.ex_t e4 sb1
      have sb2 := Evl.ex_t e4 sb2
      have g4 := g3.trans (Gl.ex e4 g3.dk)
      generalize upd H3 b3 (.tup [V.int 3, V.int (-4)]) = H4 at e4 sb0 sb1 sb2 sb3 g4 ⊢
      walk_at "rds"
      refine ⟨(by show 4 ≤ sizeLine; decide), fun c h5 => ?_⟩
      have e5 := Evl.Ex.new (o := .tup [V.ref b0, V.ref b1, V.ref b2, V.ref b3]) h5
      have sc : SqT K (upd H4 c (.tup [V.ref b0, V.ref b1, V.ref b2, V.ref b3])) c [V.ref b0, V.ref b1, V.ref b2, V.ref b3] := SqT.of upd_same
      have sb0 := Evl.ex_t e5 sb0
      have sb1 := Evl.ex_t e5 sb1
      have sb2 := Evl.ex_t e5 sb2
      have sb3 := Evl.ex_t e5 sb3
      have g5 := g4.trans (Gl.ex e5 g4.dk)
      generalize upd H4 c (.tup [V.ref b0, V.ref b1, V.ref b2, V.ref b3]) = H5 at e5 sb0 sb1 sb2 sb3 sc g5 ⊢
      walk_at "rds"
      refine ⟨(by show 2 ≤ sizeLine; decide), fun o h6 => ?_⟩
      have e6 := Evl.Ex.new (o := .tup [V.str "eses", .ref c]) h6
      have so : SqT K (upd H5 o (.tup [V.str "eses", .ref c])) o [V.str "eses", .ref c] := SqT.of upd_same
      have sb0 := Evl.ex_t e6 sb0
      have sb1 := Evl.ex_t e6 sb1
      have sb2 := Evl.ex_t e6 sb2
      have sb3 := Evl.ex_t e6 sb3
      have sc := Evl.ex_t e6 sc
      have g6 := g5.trans (Gl.ex e6 g5.dk)
      generalize upd H5 o (.tup [V.str "eses", .ref c]) = H6 at e6 sb0 sb1 sb2 sb3 sc so g6 ⊢
      walk_at "rds"
      exact q o "eses" 4 [[(-1), 2], [1, (-2)], [(-3), 4], [3, (-4)]] _ g6 ⟨c, _, so, sc, .cons (dp_of_row sb0) (.cons (dp_of_row sb1) (.cons (dp_of_row sb2) (.cons (dp_of_row sb3) (.nil)))), ⟨rfl, by decide⟩, by decide, (by unfold Ea.Row; decide), by show 4 ≤ 300; decide⟩ (by decide) (by decide) (by show 4 ≤ 4; decide)
    walk_at "rds"
    refine rd_ite (fun c0 => ?_) (fun c0 => ?_)
    · walk_at "rds"
      refine ⟨(by show 3 ≤ sizeLine; decide), fun b0 h1 => ?_⟩
      have e1 := Evl.Ex.new (o := .tup [V.int 1, V.int 2, V.int 3]) h1
      have sb0 : SqT K (upd H0 b0 (.tup [V.int 1, V.int 2, V.int 3])) b0 (([1, 2, 3] : List Int).map V.int) := SqT.of upd_same
      have g1 := g0.trans (Gl.ex e1 g0.dk)
      generalize upd H0 b0 (.tup [V.int 1, V.int 2, V.int 3]) = H1 at e1 sb0 g1 ⊢
      walk_at "rds"
      refine ⟨(by show 3 ≤ sizeLine; decide), fun b1 h2 => ?_⟩
      have e2 := Evl.Ex.new (o := .tup [V.int 1, V.int (-2), V.int (-3)]) h2
      have sb1 : SqT K (upd H1 b1 (.tup [V.int 1, V.int (-2), V.int (-3)])) b1 (([1, (-2), (-3)] : List Int).map V.int) := SqT.of upd_same
      have sb0 := Evl.ex_t e2 sb0
      have g2 := g1.trans (Gl.ex e2 g1.dk)
      generalize upd H1 b1 (.tup [V.int 1, V.int (-2), V.int (-3)]) = H2 at e2 sb0 sb1 g2 ⊢
      walk_at "rds"
      refine ⟨(by show 3 ≤ sizeLine; decide), fun b2 h3 => ?_⟩
      have e3 := Evl.Ex.new (o := .tup [V.int (-1), V.int 2, V.int (-3)]) h3
      have sb2 : SqT K (upd H2 b2 (.tup [V.int (-1), V.int 2, V.int (-3)])) b2 (([(-1), 2, (-3)] : List Int).map V.int) := SqT.of upd_same
      have sb0 := Evl.ex_t e3 sb0
      have sb1 := Evl.ex_t e3 sb1
      have g3 := g2.trans (Gl.ex e3 g2.dk)
      generalize upd H2 b2 (.tup [V.int (-1), V.int 2, V.int (-3)]) = H3 at e3 sb0 sb1 sb2 g3 ⊢
      walk_at "rds"
      refine ⟨(by show 3 ≤ sizeLine; decide), fun b3 h4 => ?_⟩
      have e4 := Evl.Ex.new (o := .tup [V.int (-1), V.int (-2), V.int 3]) h4
      have sb3 : SqT K (upd H3 b3 (.tup [V.int (-1), V.int (-2), V.int 3])) b3 (([(-1), (-2), 3] : List Int).map V.int) := SqT.of upd_same
      have sb0 := Evl.ex_t e4 sb0
      have sb1 := Evl.ex_t e4 sb1
      have sb2 := Evl.ex_t e4 sb2
      have g4 := g3.trans (Gl.ex e4 g3.dk)
      generalize upd H3 b3 (.tup [V.int (-1), V.int (-2), V.int 3]) = H4 at e4 sb0 sb1 sb2 sb3 g4 ⊢
      walk_at "rds"
      refine ⟨(by show 4 ≤ sizeLine; decide), fun c h5 => ?_⟩
      have e5 := Evl.Ex.new (o := .tup [V.ref b0, V.ref b1, V.ref b2, V.ref b3]) h5
      have sc : SqT K (upd H4 c (.tup [V.ref b0, V.ref b1, V.ref b2, V.ref b3])) c [V.ref b0, V.ref b1, V.ref b2, V.ref b3] := SqT.of upd_same
      have sb0 := Evl.ex_t e5 sb0
      have sb1 := Evl.ex_t e5 sb1
      have sb2 := Evl.ex_t e5 sb2
      have sb3 := Evl.ex_t e5 sb3
      have g5 := g4.trans (Gl.ex e5 g4.dk)
      generalize upd H4 c (.tup [V.ref b0, V.ref b1, V.ref b2, V.ref b3]) = H5 at e5 sb0 sb1 sb2 sb3 sc g5 ⊢
      walk_at "rds"
      refine ⟨(by show 2 ≤ sizeLine; decide), fun o h6 => ?_⟩
      have e6 := Evl.Ex.new (o := .tup [V.str "ess", .ref c]) h6
      have so : SqT K (upd H5 o (.tup [V.str "ess", .ref c])) o [V.str "ess", .ref c] := SqT.of upd_same
      have sb0 := Evl.ex_t e6 sb0
      have sb1 := Evl.ex_t e6 sb1
      have sb2 := Evl.ex_t e6 sb2
      have sb3 := Evl.ex_t e6 sb3
      have sc := Evl.ex_t e6 sc
      have g6 := g5.trans (Gl.ex e6 g5.dk)
      generalize upd H5 o (.tup [V.str "ess", .ref c]) = H6 at e6 sb0 sb1 sb2 sb3 sc so g6 ⊢
      walk_at "rds"
      exact q o "ess" 3 [[1, 2, 3], [1, (-2), (-3)], [(-1), 2, (-3)], [(-1), (-2), 3]] _ g6 ⟨c, _, so, sc, .cons (dp_of_row sb0) (.cons (dp_of_row sb1) (.cons (dp_of_row sb2) (.cons (dp_of_row sb3) (.nil)))), ⟨rfl, by decide⟩, by decide, (by unfold Ea.Row; decide), by show 4 ≤ 300; decide⟩ (by decide) (by decide) (by show 4 ≤ 4; decide)
    walk_at "rds"
    refine ⟨(by show 3 ≤ sizeLine; decide), fun b0 h1 => ?_⟩
    have e1 := Evl.Ex.new (o := .tup [V.int 1, V.int 2, V.int 3]) h1
    have sb0 : SqT K (upd H0 b0 (.tup [V.int 1, V.int 2, V.int 3])) b0 (([1, 2, 3] : List Int).map V.int) := SqT.of upd_same
    have g1 := g0.trans (Gl.ex e1 g0.dk)
    generalize upd H0 b0 (.tup [V.int 1, V.int 2, V.int 3]) = H1 at e1 sb0 g1 ⊢
    walk_at "rds"
    refine ⟨(by show 3 ≤ sizeLine; decide), fun b1 h2 => ?_⟩
    have e2 := Evl.Ex.new (o := .tup [V.int (-1), V.int (-2), V.int 3]) h2
    have sb1 : SqT K (upd H1 b1 (.tup [V.int (-1), V.int (-2), V.int 3])) b1 (([(-1), (-2), 3] : List Int).map V.int) := SqT.of upd_same
    have sb0 := Evl.ex_t e2 sb0
    have g2 := g1.trans (Gl.ex e2 g1.dk)
    generalize upd H1 b1 (.tup [V.int (-1), V.int (-2), V.int 3]) = H2 at e2 sb0 sb1 g2 ⊢
    walk_at "rds"
    refine ⟨(by show 2 ≤ sizeLine; decide), fun c h3 => ?_⟩
    have e3 := Evl.Ex.new (o := .tup [V.ref b0, V.ref b1]) h3
    have sc : SqT K (upd H2 c (.tup [V.ref b0, V.ref b1])) c [V.ref b0, V.ref b1] := SqT.of upd_same
    have sb0 := Evl.ex_t e3 sb0
    have sb1 := Evl.ex_t e3 sb1
    have g3 := g2.trans (Gl.ex e3 g2.dk)
    generalize upd H2 c (.tup [V.ref b0, V.ref b1]) = H3 at e3 sb0 sb1 sc g3 ⊢
    walk_at "rds"
    refine ⟨(by show 2 ≤ sizeLine; decide), fun o h4 => ?_⟩
    have e4 := Evl.Ex.new (o := .tup [V.str "ses", .ref c]) h4
    have so : SqT K (upd H3 o (.tup [V.str "ses", .ref c])) o [V.str "ses", .ref c] := SqT.of upd_same
    have sb0 := Evl.ex_t e4 sb0
    have sb1 := Evl.ex_t e4 sb1
    have sc := Evl.ex_t e4 sc
    have g4 := g3.trans (Gl.ex e4 g3.dk)
    generalize upd H3 o (.tup [V.str "ses", .ref c]) = H4 at e4 sb0 sb1 sc so g4 ⊢
    walk_at "rds"
    exact q o "ses" 3 [[1, 2, 3], [(-1), (-2), 3]] _ g4 ⟨c, _, so, sc, .cons (dp_of_row sb0) (.cons (dp_of_row sb1) (.nil)), ⟨rfl, by decide⟩, by decide, (by unfold Ea.Row; decide), by show 2 ≤ 300; decide⟩ (by decide) (by decide) (by show 2 ≤ 4; decide)
theorem ok_lost {f fD fP : Addr} {fd fdD fdP : FuncData} (F : Fun K "_law_lost" "_law_lost" s_law_lost f fd) (T : Bl mg)
    (G_law_draw : FnOk P w K mg base CX0 1 fD fdD ["deck", "many"] spDraw) (C_law_draw : Callee K mg "_law_draw" fD fdD ["deck", "many"])
    (G_law_pick : FnOk P w K mg base CX0 2 fP fdP ["deck", "items"] spPick) (C_law_pick : Callee K mg "_law_pick" fP fdP ["deck", "items"]) :
    FnOk P w K mg base CX0 3 f fd ["deck"] (spPart K) := by
  refine F.ok sc_law_lost (fun vs H Q E h => ?_) (fun cdv A outer s H vs Q E hr h => ?_)
  · obtain ⟨d, l, rfl, _⟩ := h
    rfl
  · obtain ⟨d, l, rfl, hD, q⟩ := h
    refine ⟨_, (pss_cons (ps_set (i := 1) sc_law_lost.nd rfl (Or.inl rfl) (pe_call G_law_draw (hr.mono (by decide)) (by rfl) C_law_draw.m C_law_draw.k C_law_draw.b .nil pass0 (pa_cons (pv 0) (pa_cons pe_int pa_nil))))
 (pss_cons (ps_if (pt_cmpR op_eq (pv 1) pe_int (nomark _)) (pss_one (ps_ret (pe_tup (pa_cons pe_str (pa_cons (pe_tup (pa_cons (pe_tup (pa_cons (pe_un un_neg pe_int) (pa_cons pe_int pa_nil))) (pa_cons (pe_tup (pa_cons pe_int (pa_cons (pe_un un_neg pe_int) pa_nil))) pa_nil))) pa_nil))))) pss_nil)
 (pss_cons (ps_if (pt_cmpR op_eq (pv 1) pe_int (nomark _)) (pss_one (ps_ret (pe_tup (pa_cons pe_str (pa_cons (pe_tup (pa_cons (pe_tup (pa_cons pe_int (pa_cons pe_int (pa_cons (pe_un un_neg pe_int) pa_nil)))) (pa_cons (pe_tup (pa_cons (pe_un un_neg pe_int) (pa_cons (pe_un un_neg pe_int) (pa_cons (pe_un un_neg pe_int) pa_nil)))) (pa_cons (pe_tup (pa_cons pe_int (pa_cons (pe_un un_neg pe_int) (pa_cons pe_int pa_nil)))) (pa_cons (pe_tup (pa_cons (pe_un un_neg pe_int) (pa_cons pe_int (pa_cons pe_int pa_nil)))) pa_nil))))) pa_nil))))) pss_nil)
 (pss_cons (ps_if (pt_cmpR op_eq (pv 1) pe_int (nomark _)) (pss_one (ps_ret (pe_tup (pa_cons pe_str (pa_cons (pe_tup (pa_cons (pe_tup (pa_cons pe_int pa_nil)) pa_nil)) pa_nil))))) pss_nil)
 (pss_cons (ps_if (pt_cmpR op_eq (pv 1) pe_int (nomark _)) (pss_one (ps_ret (pe_tup (pa_cons pe_str (pa_cons (pe_tup (pa_cons (pe_tup (pa_cons pe_int (pa_cons pe_int pa_nil))) (pa_cons (pe_tup (pa_cons pe_int (pa_cons (pe_un un_neg pe_int) pa_nil))) (pa_cons (pe_tup (pa_cons (pe_un un_neg pe_int) (pa_cons pe_int pa_nil))) (pa_cons (pe_tup (pa_cons (pe_un un_neg pe_int) (pa_cons (pe_un un_neg pe_int) pa_nil))) pa_nil))))) pa_nil))))) pss_nil)
 (pss_cons (ps_if (pt_cmpR op_eq (pv 1) pe_int (nomark _)) (pss_one (ps_ret (pe_tup (pa_cons pe_str (pa_cons (pe_tup (pa_cons (pe_call G_law_pick (hr.mono (by decide)) (by rfl) C_law_pick.m C_law_pick.k C_law_pick.b .nil pass0 (pa_cons (pv 0) (pa_cons (pe_lst (pa_cons (pe_tup (pa_cons pe_int (pa_cons pe_int pa_nil))) (pa_cons (pe_tup (pa_cons (pe_un un_neg pe_int) (pa_cons pe_int pa_nil))) (pa_cons (pe_tup (pa_cons pe_int (pa_cons (pe_un un_neg pe_int) pa_nil))) pa_nil)))) pa_nil))) pa_nil)) pa_nil))))) pss_nil)
 (pss_cons (ps_if (pt_cmpR op_eq (pv 1) pe_int (nomark _)) (pss_one (ps_ret (pe_tup (pa_cons pe_str (pa_cons (pe_tup (pa_cons (pe_tup (pa_cons pe_int pa_nil)) (pa_cons (pe_tup (pa_cons (pe_un un_neg pe_int) (pa_cons pe_int pa_nil))) (pa_cons (pe_tup (pa_cons (pe_un un_neg pe_int) (pa_cons pe_int pa_nil))) pa_nil)))) pa_nil))))) pss_nil)
 (pss_one (ps_ret (pe_tup (pa_cons pe_str (pa_cons (pe_tup (pa_cons (pe_tup (pa_cons pe_int (pa_cons pe_int pa_nil))) (pa_cons (pe_tup (pa_cons (pe_un un_neg pe_int) (pa_cons pe_int pa_nil))) (pa_cons (pe_tup (pa_cons (pe_un un_neg pe_int) pa_nil)) pa_nil)))) pa_nil)))))))))))), ?_⟩
    refine rd_start (σ' := [some (.ref d), none]) rfl ?_
    walk_at "rds"
    refine ⟨d, l, 7, rfl, hD, by decide, by decide, fun w0 H0 g0 r0 r1 => ?_⟩
    walk_at "rds"
    refine rd_ite (fun c0 => ?_) (fun c0 => ?_)
    · walk_at "rds"
      refine ⟨(by show 2 ≤ sizeLine; decide), fun b0 h1 => ?_⟩
      have e1 := Evl.Ex.new (o := .tup [V.int (-1), V.int 2]) h1
      have sb0 : SqT K (upd H0 b0 (.tup [V.int (-1), V.int 2])) b0 (([(-1), 2] : List Int).map V.int) := SqT.of upd_same
      have g1 := g0.trans (Gl.ex e1 g0.dk)
      generalize upd H0 b0 (.tup [V.int (-1), V.int 2]) = H1 at e1 sb0 g1 ⊢
      walk_at "rds"
      refine ⟨(by show 2 ≤ sizeLine; decide), fun b1 h2 => ?_⟩
      have e2 := Evl.Ex.new (o := .tup [V.int 1, V.int (-2)]) h2
      have sb1 : SqT K (upd H1 b1 (.tup [V.int 1, V.int (-2)])) b1 (([1, (-2)] : List Int).map V.int) := SqT.of upd_same
      have sb0 := Evl.ex_t e2 sb0
      have g2 := g1.trans (Gl.ex e2 g1.dk)
      generalize upd H1 b1 (.tup [V.int 1, V.int (-2)]) = H2 at e2 sb0 sb1 g2 ⊢
      walk_at "rds"
      refine ⟨(by show 2 ≤ sizeLine; decide), fun c h3 => ?_⟩
      have e3 := Evl.Ex.new (o := .tup [V.ref b0, V.ref b1]) h3
      have sc : SqT K (upd H2 c (.tup [V.ref b0, V.ref b1])) c [V.ref b0, V.ref b1] := SqT.of upd_same
      have sb0 := Evl.ex_t e3 sb0
      have sb1 := Evl.ex_t e3 sb1
      have g3 := g2.trans (Gl.ex e3 g2.dk)
      generalize upd H2 c (.tup [V.ref b0, V.ref b1]) = H3 at e3 sb0 sb1 sc g3 ⊢
      walk_at "rds"
      refine ⟨(by show 2 ≤ sizeLine; decide), fun o h4 => ?_⟩
      have e4 := Evl.Ex.new (o := .tup [V.str "se", .ref c]) h4
      have so : SqT K (upd H3 o (.tup [V.str "se", .ref c])) o [V.str "se", .ref c] := SqT.of upd_same
      have sb0 := Evl.ex_t e4 sb0
      have sb1 := Evl.ex_t e4 sb1
      have sc := Evl.ex_t e4 sc
      have g4 := g3.trans (Gl.ex e4 g3.dk)
      generalize upd H3 o (.tup [V.str "se", .ref c]) = H4 at e4 sb0 sb1 sc so g4 ⊢
      walk_at "rds"
      exact q o "se" 2 [[(-1), 2], [1, (-2)]] _ g4 ⟨c, _, so, sc, .cons (dp_of_row sb0) (.cons (dp_of_row sb1) (.nil)), ⟨rfl, by decide⟩, by decide, (by unfold Ea.Row; decide), by show 2 ≤ 300; decide⟩ (by decide) (by decide) (by show 2 ≤ 4; decide)
    walk_at "rds"
    refine rd_ite (fun c0 => ?_) (fun c0 => ?_)
    · walk_at "rds"
      refine ⟨(by show 3 ≤ sizeLine; decide), fun b0 h1 => ?_⟩
      have e1 := Evl.Ex.new (o := .tup [V.int 1, V.int 2, V.int (-3)]) h1
      have sb0 : SqT K (upd H0 b0 (.tup [V.int 1, V.int 2, V.int (-3)])) b0 (([1, 2, (-3)] : List Int).map V.int) := SqT.of upd_same
      have g1 := g0.trans (Gl.ex e1 g0.dk)
      generalize upd H0 b0 (.tup [V.int 1, V.int 2, V.int (-3)]) = H1 at e1 sb0 g1 ⊢
      walk_at "rds"
      refine ⟨(by show 3 ≤ sizeLine; decide), fun b1 h2 => ?_⟩
      have e2 := Evl.Ex.new (o := .tup [V.int (-1), V.int (-2), V.int (-3)]) h2
      have sb1 : SqT K (upd H1 b1 (.tup [V.int (-1), V.int (-2), V.int (-3)])) b1 (([(-1), (-2), (-3)] : List Int).map V.int) := SqT.of upd_same
      have sb0 := Evl.ex_t e2 sb0
      have g2 := g1.trans (Gl.ex e2 g1.dk)
      generalize upd H1 b1 (.tup [V.int (-1), V.int (-2), V.int (-3)]) = H2 at e2 sb0 sb1 g2 ⊢
      walk_at "rds"
      refine ⟨(by show 3 ≤ sizeLine; decide), fun b2 h3 => ?_⟩
      have e3 := Evl.Ex.new (o := .tup [V.int 1, V.int (-2), V.int 3]) h3
      have sb2 : SqT K (upd H2 b2 (.tup [V.int 1, V.int (-2), V.int 3])) b2 (([1, (-2), 3] : List Int).map V.int) := SqT.of upd_same
      have sb0 := Evl.ex_t e3 sb0
      have sb1 := Evl.ex_t e3 sb1
      have g3 := g2.trans (Gl.ex e3 g2.dk)
      generalize upd H2 b2 (.tup [V.int 1, V.int (-2), V.int 3]) = H3 at e3 sb0 sb1 sb2 g3 ⊢
      walk_at "rds"
      refine ⟨(by show 3 ≤ sizeLine; decide), fun b3 h4 => ?_⟩
      have e4 := Evl.Ex.new (o := .tup [V.int (-1), V.int 2, V.int 3]) h4
      have sb3 : SqT K (upd H3 b3 (.tup [V.int (-1), V.int 2, V.int 3])) b3 (([(-1), 2, 3] : List Int).map V.int) := SqT.of upd_same
      have sb0 := Evl.ex_t e4 sb0
      have sb1 := Evl.ex_t e4 sb1
      have sb2 := Evl.ex_t e4 sb2
      have g4 := g3.trans (Gl.ex e4 g3.dk)
      generalize upd H3 b3 (.tup [V.int (-1), V.int 2, V.int 3]) = H4 at e4 sb0 sb1 sb2 sb3 g4 ⊢
      walk_at "rds"
      refine ⟨(by show 4 ≤ sizeLine; decide), fun c h5 => ?_⟩
      have e5 := Evl.Ex.new (o := .tup [V.ref b0, V.ref b1, V.ref b2, V.ref b3]) h5
      have sc : SqT K (upd H4 c (.tup [V.ref b0, V.ref b1, V.ref b2, V.ref b3])) c [V.ref b0, V.ref b1, V.ref b2, V.ref b3] := SqT.of upd_same
      have sb0 := Evl.ex_t e5 sb0
      have sb1 := Evl.ex_t e5 sb1
      have sb2 := Evl.ex_t e5 sb2
      have sb3 := Evl.ex_t e5 sb3
      have g5 := g4.trans (Gl.ex e5 g4.dk)
      generalize upd H4 c (.tup [V.ref b0, V.ref b1, V.ref b2, V.ref b3]) = H5 at e5 sb0 sb1 sb2 sb3 sc g5 ⊢
      walk_at "rds"
      refine ⟨(by show 2 ≤ sizeLine; decide), fun o h6 => ?_⟩
      have e6 := Evl.Ex.new (o := .tup [V.str "ese", .ref c]) h6
      have so : SqT K (upd H5 o (.tup [V.str "ese", .ref c])) o [V.str "ese", .ref c] := SqT.of upd_same
      have sb0 := Evl.ex_t e6 sb0
      have sb1 := Evl.ex_t e6 sb1
      have sb2 := Evl.ex_t e6 sb2
      have sb3 := Evl.ex_t e6 sb3
      have sc := Evl.ex_t e6 sc
      have g6 := g5.trans (Gl.ex e6 g5.dk)
      generalize upd H5 o (.tup [V.str "ese", .ref c]) = H6 at e6 sb0 sb1 sb2 sb3 sc so g6 ⊢
      walk_at "rds"
      exact q o "ese" 3 [[1, 2, (-3)], [(-1), (-2), (-3)], [1, (-2), 3], [(-1), 2, 3]] _ g6 ⟨c, _, so, sc, .cons (dp_of_row sb0) (.cons (dp_of_row sb1) (.cons (dp_of_row sb2) (.cons (dp_of_row sb3) (.nil)))), ⟨rfl, by decide⟩, by decide, (by unfold Ea.Row; decide), by show 4 ≤ 300; decide⟩ (by decide) (by decide) (by show 4 ≤ 4; decide)
    walk_at "rds"
    refine rd_ite (fun c0 => ?_) (fun c0 => ?_)
    · walk_at "rds"
      refine ⟨(by show 1 ≤ sizeLine; decide), fun b0 h1 => ?_⟩
      have e1 := Evl.Ex.new (o := .tup [V.int 1]) h1
      have sb0 : SqT K (upd H0 b0 (.tup [V.int 1])) b0 (([1] : List Int).map V.int) := SqT.of upd_same
      have g1 := g0.trans (Gl.ex e1 g0.dk)
      generalize upd H0 b0 (.tup [V.int 1]) = H1 at e1 sb0 g1 ⊢
      walk_at "rds"
      refine ⟨(by show 1 ≤ sizeLine; decide), fun c h2 => ?_⟩
      have e2 := Evl.Ex.new (o := .tup [V.ref b0]) h2
      have sc : SqT K (upd H1 c (.tup [V.ref b0])) c [V.ref b0] := SqT.of upd_same
      have sb0 := Evl.ex_t e2 sb0
      have g2 := g1.trans (Gl.ex e2 g1.dk)
      generalize upd H1 c (.tup [V.ref b0]) = H2 at e2 sb0 sc g2 ⊢
      walk_at "rds"
      refine ⟨(by show 2 ≤ sizeLine; decide), fun o h3 => ?_⟩
      have e3 := Evl.Ex.new (o := .tup [V.str "e", .ref c]) h3
      have so : SqT K (upd H2 o (.tup [V.str "e", .ref c])) o [V.str "e", .ref c] := SqT.of upd_same
      have sb0 := Evl.ex_t e3 sb0
      have sc := Evl.ex_t e3 sc
      have g3 := g2.trans (Gl.ex e3 g2.dk)
      generalize upd H2 o (.tup [V.str "e", .ref c]) = H3 at e3 sb0 sc so g3 ⊢
      walk_at "rds"
      exact q o "e" 1 [[1]] _ g3 ⟨c, _, so, sc, .cons (dp_of_row sb0) (.nil), ⟨rfl, by decide⟩, by decide, (by unfold Ea.Row; decide), by show 1 ≤ 300; decide⟩ (by decide) (by decide) (by show 1 ≤ 4; decide)
    walk_at "rds"
    refine rd_ite (fun c0 => ?_) (fun c0 => ?_)
    · walk_at "rds"
      refine ⟨(by show 2 ≤ sizeLine; decide), fun b0 h1 => ?_⟩
      have e1 := Evl.Ex.new (o := .tup [V.int 1, V.int 2]) h1
      have sb0 : SqT K (upd H0 b0 (.tup [V.int 1, V.int 2])) b0 (([1, 2] : List Int).map V.int) := SqT.of upd_same
      have g1 := g0.trans (Gl.ex e1 g0.dk)
      generalize upd H0 b0 (.tup [V.int 1, V.int 2]) = H1 at e1 sb0 g1 ⊢
      walk_at "rds"
      refine ⟨(by show 2 ≤ sizeLine; decide), fun b1 h2 => ?_⟩
      have e2 := Evl.Ex.new (o := .tup [V.int 1, V.int (-2)]) h2
      have sb1 : SqT K (upd H1 b1 (.tup [V.int 1, V.int (-2)])) b1 (([1, (-2)] : List Int).map V.int) := SqT.of upd_same
      have sb0 := Evl.ex_t e2 sb0
      have g2 := g1.trans (Gl.ex e2 g1.dk)
      generalize upd H1 b1 (.tup [V.int 1, V.int (-2)]) = H2 at e2 sb0 sb1 g2 ⊢
      walk_at "rds"
      refine ⟨(by show 2 ≤ sizeLine; decide), fun b2 h3 => ?_⟩
      have e3 := Evl.Ex.new (o := .tup [V.int (-1), V.int 2]) h3
      have sb2 : SqT K (upd H2 b2 (.tup [V.int (-1), V.int 2])) b2 (([(-1), 2] : List Int).map V.int) := SqT.of upd_same
      have sb0 := Evl.ex_t e3 sb0
      have sb1 := Evl.ex_t e3 sb1
      have g3 := g2.trans (Gl.ex e3 g2.dk)
      generalize upd H2 b2 (.tup [V.int (-1), V.int 2]) = H3 at e3 sb0 sb1 sb2 g3 ⊢
      walk_at "rds"
      refine ⟨(by show 2 ≤ sizeLine; decide), fun b3 h4 => ?_⟩
      have e4 := Evl.Ex.new (o := .tup [V.int (-1), V.int (-2)]) h4
      have sb3 : SqT K (upd H3 b3 (.tup [V.int (-1), V.int (-2)])) b3 (([(-1), (-2)] : List Int).map V.int) := SqT.of upd_same
      have sb0 := Evl.ex_t e4 sb0
      have sb1 := Evl.ex_t e4 sb1
      have sb2 := Evl.ex_t e4 sb2
      have g4 := g3.trans (Gl.ex e4 g3.dk)
      generalize upd H3 b3 (.tup [V.int (-1), V.int (-2)]) = H4 at e4 sb0 sb1 sb2 sb3 g4 ⊢
      walk_at "rds"
      refine ⟨(by show 4 ≤ sizeLine; decide), fun c h5 => ?_⟩
      have e5 := Evl.Ex.new (o := .tup [V.ref b0, V.ref b1, V.ref b2, V.ref b3]) h5
      have sc : SqT K (upd H4 c (.tup [V.ref b0, V.ref b1, V.ref b2, V.ref b3])) c [V.ref b0, V.ref b1, V.ref b2, V.ref b3] := SqT.of upd_same
      have sb0 := Evl.ex_t e5 sb0
      have sb1 := Evl.ex_t e5 sb1
      have sb2 := Evl.ex_t e5 sb2
      have sb3 := Evl.ex_t e5 sb3
      have g5 := g4.trans (Gl.ex e5 g4.dk)
      generalize upd H4 c (.tup [V.ref b0, V.ref b1, V.ref b2, V.ref b3]) = H5 at e5 sb0 sb1 sb2 sb3 sc g5 ⊢
      walk_at "rds"
      refine ⟨(by show 2 ≤ sizeLine; decide), fun o h6 => ?_⟩
      have e6 := Evl.Ex.new (o := .tup [V.str "ss", .ref c]) h6
      have so : SqT K (upd H5 o (.tup [V.str "ss", .ref c])) o [V.str "ss", .ref c] := SqT.of upd_same
      have sb0 := Evl.ex_t e6 sb0
      have sb1 := Evl.ex_t e6 sb1
      have sb2 := Evl.ex_t e6 sb2
      have sb3 := Evl.ex_t e6 sb3
      have sc := Evl.ex_t e6 sc
      have g6 := g5.trans (Gl.ex e6 g5.dk)
      generalize upd H5 o (.tup [V.str "ss", .ref c]) = H6 at e6 sb0 sb1 sb2 sb3 sc so g6 ⊢
      walk_at "rds"
      exact q o "ss" 2 [[1, 2], [1, (-2)], [(-1), 2], [(-1), (-2)]] _ g6 ⟨c, _, so, sc, .cons (dp_of_row sb0) (.cons (dp_of_row sb1) (.cons (dp_of_row sb2) (.cons (dp_of_row sb3) (.nil)))), ⟨rfl, by decide⟩, by decide, (by unfold Ea.Row; decide), by show 4 ≤ 300; decide⟩ (by decide) (by decide) (by show 4 ≤ 4; decide)
    walk_at "rds"
    refine rd_ite (fun c0 => ?_) (fun c0 => ?_)
    · walk_at "rds"
      refine ⟨(by show 2 ≤ sizeLine; decide), fun b0 h1 => ?_⟩
      have e1 := Evl.Ex.new (o := .tup [V.int 1, V.int 2]) h1
      have sb0 : SqT K (upd H0 b0 (.tup [V.int 1, V.int 2])) b0 (([1, 2] : List Int).map V.int) := SqT.of upd_same
      have g1 := g0.trans (Gl.ex e1 g0.dk)
      generalize upd H0 b0 (.tup [V.int 1, V.int 2]) = H1 at e1 sb0 g1 ⊢
      walk_at "rds"
      refine ⟨(by show 2 ≤ sizeLine; decide), fun b1 h2 => ?_⟩
      have e2 := Evl.Ex.new (o := .tup [V.int (-1), V.int 2]) h2
      have sb1 : SqT K (upd H1 b1 (.tup [V.int (-1), V.int 2])) b1 (([(-1), 2] : List Int).map V.int) := SqT.of upd_same
      have sb0 := Evl.ex_t e2 sb0
      have g2 := g1.trans (Gl.ex e2 g1.dk)
      generalize upd H1 b1 (.tup [V.int (-1), V.int 2]) = H2 at e2 sb0 sb1 g2 ⊢
      walk_at "rds"
      refine ⟨(by show 2 ≤ sizeLine; decide), fun b2 h3 => ?_⟩
      have e3 := Evl.Ex.new (o := .tup [V.int 1, V.int (-2)]) h3
      have sb2 : SqT K (upd H2 b2 (.tup [V.int 1, V.int (-2)])) b2 (([1, (-2)] : List Int).map V.int) := SqT.of upd_same
      have sb0 := Evl.ex_t e3 sb0
      have sb1 := Evl.ex_t e3 sb1
      have g3 := g2.trans (Gl.ex e3 g2.dk)
      generalize upd H2 b2 (.tup [V.int 1, V.int (-2)]) = H3 at e3 sb0 sb1 sb2 g3 ⊢
      walk_at "rds"
      refine ⟨(by show 3 ≤ sizeLine; decide), fun L h4 => ?_⟩
      have e4 := Evl.Ex.new (o := .lst [V.ref b0, V.ref b1, V.ref b2]) h4
      have sb0 := Evl.ex_t e4 sb0
      have sb1 := Evl.ex_t e4 sb1
      have sb2 := Evl.ex_t e4 sb2
      have oL := g3.dk.off h4
      have g4 := g3.trans (Gl.ex e4 g3.dk)
      have hL : (upd H3 L (.lst [V.ref b0, V.ref b1, V.ref b2])) L = some (.lst [V.ref b0, V.ref b1, V.ref b2]) := upd_same
      generalize upd H3 L (.lst [V.ref b0, V.ref b1, V.ref b2]) = H4 at e4 hL sb0 sb1 sb2 g4 ⊢
      walk_at "rds"
      refine ⟨d, l, L, _, rfl, g4.dk, hL, oL.1, oL.2, by show 1 ≤ 3; decide, by show 3 ≤ 1000; decide, fun y H5 gp hy => ?_⟩
      have g5 := g4.trans gp
      have sb0 := gp.tup g4.dk sb0
      have sb1 := gp.tup g4.dk sb1
      have sb2 := gp.tup g4.dk sb2
      obtain ⟨b, r, rfl, sb, hr1⟩ : ∃ (b : Addr) (r : List Int), y = .ref b ∧ SqT K H5 b (r.map V.int) ∧ r ∈ ([[1, 2], [(-1), 2], [1, (-2)]] : List (List Int)) := by
        simp only [List.mem_cons, List.not_mem_nil, or_false] at hy
        rcases hy with rfl | rfl | rfl
        · exact ⟨b0, [1, 2], rfl, sb0, by simp⟩
        · exact ⟨b1, [(-1), 2], rfl, sb1, by simp⟩
        · exact ⟨b2, [1, (-2)], rfl, sb2, by simp⟩
      walk_at "rds"
      refine ⟨(by show 1 ≤ sizeLine; decide), fun c h6 => ?_⟩
      have e6 := Evl.Ex.new (o := .tup [V.ref b]) h6
      have sc : SqT K (upd H5 c (.tup [V.ref b])) c [V.ref b] := SqT.of upd_same
      have sb := Evl.ex_t e6 sb
      have g6 := g5.trans (Gl.ex e6 g5.dk)
      generalize upd H5 c (.tup [V.ref b]) = H6 at e6 sb sc g6 ⊢
      walk_at "rds"
      refine ⟨(by show 2 ≤ sizeLine; decide), fun o h7 => ?_⟩
      have e7 := Evl.Ex.new (o := .tup [V.str "ee", .ref c]) h7
      have so : SqT K (upd H6 o (.tup [V.str "ee", .ref c])) o [V.str "ee", .ref c] := SqT.of upd_same
      have sb := Evl.ex_t e7 sb
      have sc := Evl.ex_t e7 sc
      have g7 := g6.trans (Gl.ex e7 g6.dk)
      generalize upd H6 o (.tup [V.str "ee", .ref c]) = H7 at e7 sb sc so g7 ⊢
      walk_at "rds"
      have rowr : ∀ r ∈ ([[1, 2], [(-1), 2], [1, (-2)]] : List (List Int)), Row 2 r := by unfold Ea.Row; decide
      exact q o "ee" 2 [r] _ g7 ⟨c, _, so, sc, .cons (dp_of_row sb) .nil, ⟨rfl, by decide⟩, by decide, fun x hx => by rw [List.mem_singleton.mp hx]; exact rowr r hr1, by show 1 ≤ 300; decide⟩ (by decide) (by decide) (by show 1 ≤ 4; decide)
    walk_at "rds"
    refine rd_ite (fun c0 => ?_) (fun c0 => ?_)
    · walk_at "rds"
      refine ⟨(by show 1 ≤ sizeLine; decide), fun b0 h1 => ?_⟩
      have e1 := Evl.Ex.new (o := .tup [V.int 1]) h1
      have sb0 : SqT K (upd H0 b0 (.tup [V.int 1])) b0 (([1] : List Int).map V.int) := SqT.of upd_same
      have g1 := g0.trans (Gl.ex e1 g0.dk)
      generalize upd H0 b0 (.tup [V.int 1]) = H1 at e1 sb0 g1 ⊢
      walk_at "rds"
      refine ⟨(by show 2 ≤ sizeLine; decide), fun b1 h2 => ?_⟩
      have e2 := Evl.Ex.new (o := .tup [V.int (-1), V.int 2]) h2
      have sb1 : SqT K (upd H1 b1 (.tup [V.int (-1), V.int 2])) b1 (([(-1), 2] : List Int).map V.int) := SqT.of upd_same
      have sb0 := Evl.ex_t e2 sb0
      have g2 := g1.trans (Gl.ex e2 g1.dk)
      generalize upd H1 b1 (.tup [V.int (-1), V.int 2]) = H2 at e2 sb0 sb1 g2 ⊢
      walk_at "rds"
      refine ⟨(by show 2 ≤ sizeLine; decide), fun b2 h3 => ?_⟩
      have e3 := Evl.Ex.new (o := .tup [V.int (-2), V.int 3]) h3
      have sb2 : SqT K (upd H2 b2 (.tup [V.int (-2), V.int 3])) b2 (([(-2), 3] : List Int).map V.int) := SqT.of upd_same
      have sb0 := Evl.ex_t e3 sb0
      have sb1 := Evl.ex_t e3 sb1
      have g3 := g2.trans (Gl.ex e3 g2.dk)
      generalize upd H2 b2 (.tup [V.int (-2), V.int 3]) = H3 at e3 sb0 sb1 sb2 g3 ⊢
      walk_at "rds"
      refine ⟨(by show 3 ≤ sizeLine; decide), fun c h4 => ?_⟩
      have e4 := Evl.Ex.new (o := .tup [V.ref b0, V.ref b1, V.ref b2]) h4
      have sc : SqT K (upd H3 c (.tup [V.ref b0, V.ref b1, V.ref b2])) c [V.ref b0, V.ref b1, V.ref b2] := SqT.of upd_same
      have sb0 := Evl.ex_t e4 sb0
      have sb1 := Evl.ex_t e4 sb1
      have sb2 := Evl.ex_t e4 sb2
      have g4 := g3.trans (Gl.ex e4 g3.dk)
      generalize upd H3 c (.tup [V.ref b0, V.ref b1, V.ref b2]) = H4 at e4 sb0 sb1 sb2 sc g4 ⊢
      walk_at "rds"
      refine ⟨(by show 2 ≤ sizeLine; decide), fun o h5 => ?_⟩
      have e5 := Evl.Ex.new (o := .tup [V.str "sse", .ref c]) h5
      have so : SqT K (upd H4 o (.tup [V.str "sse", .ref c])) o [V.str "sse", .ref c] := SqT.of upd_same
      have sb0 := Evl.ex_t e5 sb0
      have sb1 := Evl.ex_t e5 sb1
      have sb2 := Evl.ex_t e5 sb2
      have sc := Evl.ex_t e5 sc
      have g5 := g4.trans (Gl.ex e5 g4.dk)
      generalize upd H4 o (.tup [V.str "sse", .ref c]) = H5 at e5 sb0 sb1 sb2 sc so g5 ⊢
      walk_at "rds"
      exact q o "sse" 3 [[1], [(-1), 2], [(-2), 3]] _ g5 ⟨c, _, so, sc, .cons (dp_of_row sb0) (.cons (dp_of_row sb1) (.cons (dp_of_row sb2) (.nil))), ⟨rfl, by decide⟩, by decide, (by unfold Ea.Row; decide), by show 3 ≤ 300; decide⟩ (by decide) (by decide) (by show 3 ≤ 4; decide)
    walk_at "rds"
    refine ⟨(by show 2 ≤ sizeLine; decide), fun b0 h1 => ?_⟩
    have e1 := Evl.Ex.new (o := .tup [V.int 1, V.int 2]) h1
    have sb0 : SqT K (upd H0 b0 (.tup [V.int 1, V.int 2])) b0 (([1, 2] : List Int).map V.int) := SqT.of upd_same
    have g1 := g0.trans (Gl.ex e1 g0.dk)
    generalize upd H0 b0 (.tup [V.int 1, V.int 2]) = H1 at e1 sb0 g1 ⊢
    walk_at "rds"
    refine ⟨(by show 2 ≤ sizeLine; decide), fun b1 h2 => ?_⟩
    have e2 := Evl.Ex.new (o := .tup [V.int (-1), V.int 3]) h2
    have sb1 : SqT K (upd H1 b1 (.tup [V.int (-1), V.int 3])) b1 (([(-1), 3] : List Int).map V.int) := SqT.of upd_same
    have sb0 := Evl.ex_t e2 sb0
    have g2 := g1.trans (Gl.ex e2 g1.dk)
    generalize upd H1 b1 (.tup [V.int (-1), V.int 3]) = H2 at e2 sb0 sb1 g2 ⊢
    walk_at "rds"
    refine ⟨(by show 1 ≤ sizeLine; decide), fun b2 h3 => ?_⟩
    have e3 := Evl.Ex.new (o := .tup [V.int (-3)]) h3
    have sb2 : SqT K (upd H2 b2 (.tup [V.int (-3)])) b2 (([(-3)] : List Int).map V.int) := SqT.of upd_same
    have sb0 := Evl.ex_t e3 sb0
    have sb1 := Evl.ex_t e3 sb1
    have g3 := g2.trans (Gl.ex e3 g2.dk)
    generalize upd H2 b2 (.tup [V.int (-3)]) = H3 at e3 sb0 sb1 sb2 g3 ⊢
    walk_at "rds"
    refine ⟨(by show 3 ≤ sizeLine; decide), fun c h4 => ?_⟩
    have e4 := Evl.Ex.new (o := .tup [V.ref b0, V.ref b1, V.ref b2]) h4
    have sc : SqT K (upd H3 c (.tup [V.ref b0, V.ref b1, V.ref b2])) c [V.ref b0, V.ref b1, V.ref b2] := SqT.of upd_same
    have sb0 := Evl.ex_t e4 sb0
    have sb1 := Evl.ex_t e4 sb1
    have sb2 := Evl.ex_t e4 sb2
    have g4 := g3.trans (Gl.ex e4 g3.dk)
    generalize upd H3 c (.tup [V.ref b0, V.ref b1, V.ref b2]) = H4 at e4 sb0 sb1 sb2 sc g4 ⊢
    walk_at "rds"
    refine ⟨(by show 2 ≤ sizeLine; decide), fun o h5 => ?_⟩
    have e5 := Evl.Ex.new (o := .tup [V.str "ses", .ref c]) h5
    have so : SqT K (upd H4 o (.tup [V.str "ses", .ref c])) o [V.str "ses", .ref c] := SqT.of upd_same
    have sb0 := Evl.ex_t e5 sb0
    have sb1 := Evl.ex_t e5 sb1
    have sb2 := Evl.ex_t e5 sb2
    have sc := Evl.ex_t e5 sc
    have g5 := g4.trans (Gl.ex e5 g4.dk)
    generalize upd H4 o (.tup [V.str "ses", .ref c]) = H5 at e5 sb0 sb1 sb2 sc so g5 ⊢
    walk_at "rds"
    exact q o "ses" 3 [[1, 2], [(-1), 3], [(-3)]] _ g5 ⟨c, _, so, sc, .cons (dp_of_row sb0) (.cons (dp_of_row sb1) (.cons (dp_of_row sb2) (.nil))), ⟨rfl, by decide⟩, by decide, (by unfold Ea.Row; decide), by show 3 ≤ 300; decide⟩ (by decide) (by decide) (by show 3 ≤ 4; decide)
end
end KA
set_option Elab.async false
set_option linter.all false
set_option maxRecDepth 100000
set_option maxHeartbeats 400000
set_option pp.maxSteps 300
namespace KA
open PySem PySem.Spec PyProof.Rows L2 Ea
abbrev s_law_parts : Stmt := topS 25
theorem sc_law_parts : FnScope ["deck", "most", "parts", "bad", "many", "turn", "own", "order", "is_bad", "found", "at", "owners", "rows"] ["deck", "most"] (defScope s_law_parts) :=
  ⟨rfl, rfl, rfl, by decide +kernel, rfl, by decide +kernel, by decide +kernel⟩
local macro_rules | `(tactic| walk_at "rd") => `(tactic| first
  | (with_reducible refine rd_seq ?_) | (with_reducible refine rd_asg ?_) | (with_reducible refine rd_if ?_) | (with_reducible refine rd_ret ?_) | (with_reducible refine rd_next ?_)
  | (with_reducible refine rd_drop ?_) | ((with_reducible refine rd_name (σ' := ?ss) ?hs ?_); (case hs => (dsimp only [List.set]; exact rfl)))
  | ((with_reducible refine rd_var (v := ?vv) ?hv ?_); (case hv => exact rfl)) | (with_reducible refine rd_c ?_) | (with_reducible refine rd_op ?_) | (with_reducible refine rd_un ?_)
  | (with_reducible refine rd_I0 ?_) | (with_reducible refine rd_U ?_) | (with_reducible refine rd_test ?_) | (with_reducible refine rd_B ?_) | (with_reducible refine rd_k ?_)
  | (with_reducible refine rd_not ?_) | (with_reducible refine rd_and ?_) | (with_reducible refine rd_or ?_) | (with_reducible refine rd_ifE ?_)
  | (with_reducible refine rd_par ?_) | ((with_reducible refine rd_par2 (σ' := ?ss) ?hs ?_); (case hs => (dsimp only [List.set]; exact rfl)))
  | (with_reducible refine rd_gsub ?_) | (with_reducible refine rd_andV ?_) | (with_reducible refine rd_orV ?_) | (with_reducible refine rd_notV ?_)
  | (with_reducible refine rd_lc ?_) | (with_reducible refine rd_iTup ?_) | (with_reducible refine rd_iList ?_) | (with_reducible refine rd_iRng1 ?_) | (with_reducible refine rd_iRng2 ?_) | (with_reducible refine rd_iEnumT ?_) | (with_reducible refine rd_iEnum ?_) | (with_reducible refine rd_iZipM ?_) | (with_reducible refine rd_iEnumS ?_) | (with_reducible refine rd_iKeys ?_) | (with_reducible refine rd_din ?_) | (with_reducible refine rd_dnotin ?_)
  | (with_reducible refine rd_yes ?_) | (with_reducible refine rd_true ?_) | (with_reducible refine rd_false ?_) | (with_reducible refine rd_m1 ?_) | (with_reducible refine rd_isS ?_)
  | ((with_reducible refine rd_eq ?hs ?_); (case hs => exact rfl)) | ((with_reducible refine rd_ne ?hs ?_); (case hs => exact rfl))
  | (with_reducible refine rd_listRg ?_) | (with_reducible refine rd_rg2 ?_) | (with_reducible refine rd_rgk ?_)
  | (with_reducible refine rd_dnew ?_) | (with_reducible refine rd_ddel ?_) | (with_reducible refine rd_kw ?_) | (with_reducible refine rd_callS ?_) | (with_reducible refine rd_dc ?_) | (with_reducible refine rd_for ?_) | (with_reducible refine rd_tru ?_) | (with_reducible refine rd_truI ?_)
  | (with_reducible refine rd_nil ?_) | (with_reducible refine rd_cons ?_) | (with_reducible refine rd_call ?_) | (with_reducible refine rd_cb ?_)
  | (with_reducible refine rd_tup ?_) | (with_reducible refine rd_lst ?_) | (with_reducible refine rd_dget ?_) | (with_reducible refine rd_dput ?_) | (with_reducible refine rd_dget2 ?_) | (with_reducible refine rd_sl ?_)
  | (with_reducible refine rd_nopart ?_) | (with_reducible refine rd_part ?_) | (with_reducible refine rd_parti ?_) | (with_reducible refine rd_bm ?_) | (with_reducible refine rd_bm0 ?_)
  | (with_reducible refine rd_int ?_) | (with_reducible refine rd_intb ?_) | (with_reducible refine rd_abs ?_) | (with_reducible refine rd_min2 ?_) | (with_reducible refine rd_max2 ?_))
local macro_rules | `(tactic| walk_at "rds") => `(tactic| repeat (walk_at "rd"))
local macro_rules | `(tactic| walk_at "rq") => `(tactic| first
  | (with_reducible refine rd_seq ?_) | (with_reducible refine rd_asg ?_) | (with_reducible refine rd_ret ?_) | (with_reducible refine rd_next ?_)
  | (with_reducible refine rd_drop ?_) | ((with_reducible refine rd_name (σ' := ?ss) ?hs ?_); (case hs => (dsimp only [List.set]; exact rfl)))
  | ((with_reducible refine rd_var (v := ?vv) ?hv ?_); (case hv => exact rfl)) | (with_reducible refine rd_c ?_) | (with_reducible refine rd_op ?_) | (with_reducible refine rd_un ?_)
  | (with_reducible refine rd_I0 ?_) | (with_reducible refine rd_U ?_) | (with_reducible refine rd_test ?_) | (with_reducible refine rd_B ?_) | (with_reducible refine rd_k ?_)
  | (with_reducible refine rd_not ?_) | (with_reducible refine rd_and ?_) | (with_reducible refine rd_or ?_) | (with_reducible refine rd_ifE ?_)
  | (with_reducible refine rd_par ?_) | ((with_reducible refine rd_par2 (σ' := ?ss) ?hs ?_); (case hs => (dsimp only [List.set]; exact rfl)))
  | (with_reducible refine rd_gsub ?_) | (with_reducible refine rd_andV ?_) | (with_reducible refine rd_orV ?_) | (with_reducible refine rd_notV ?_)
  | (with_reducible refine rd_lc ?_) | (with_reducible refine rd_iTup ?_) | (with_reducible refine rd_iList ?_) | (with_reducible refine rd_iRng1 ?_) | (with_reducible refine rd_iRng2 ?_) | (with_reducible refine rd_iEnumT ?_) | (with_reducible refine rd_iEnum ?_) | (with_reducible refine rd_iZipM ?_) | (with_reducible refine rd_iEnumS ?_) | (with_reducible refine rd_iKeys ?_) | (with_reducible refine rd_din ?_) | (with_reducible refine rd_dnotin ?_)
  | (with_reducible refine rd_yes ?_) | (with_reducible refine rd_true ?_) | (with_reducible refine rd_false ?_) | (with_reducible refine rd_m1 ?_) | (with_reducible refine rd_isS ?_)
  | ((with_reducible refine rd_eq ?hs ?_); (case hs => exact rfl)) | ((with_reducible refine rd_ne ?hs ?_); (case hs => exact rfl))
  | (with_reducible refine rd_listRg ?_) | (with_reducible refine rd_rg2 ?_) | (with_reducible refine rd_rgk ?_)
  | (with_reducible refine rd_dnew ?_) | (with_reducible refine rd_ddel ?_) | (with_reducible refine rd_kw ?_) | (with_reducible refine rd_callS ?_) | (with_reducible refine rd_dc ?_) | (with_reducible refine rd_for ?_) | (with_reducible refine rd_tru ?_) | (with_reducible refine rd_truI ?_)
  | (with_reducible refine rd_nil ?_) | (with_reducible refine rd_cons ?_) | (with_reducible refine rd_call ?_) | (with_reducible refine rd_cb ?_)
  | (with_reducible refine rd_tup ?_) | (with_reducible refine rd_lst ?_) | (with_reducible refine rd_dget ?_) | (with_reducible refine rd_dput ?_) | (with_reducible refine rd_dget2 ?_) | (with_reducible refine rd_sl ?_)
  | (with_reducible refine rd_nopart ?_) | (with_reducible refine rd_part ?_) | (with_reducible refine rd_parti ?_) | (with_reducible refine rd_bm ?_) | (with_reducible refine rd_bm0 ?_)
  | (with_reducible refine rd_int ?_) | (with_reducible refine rd_intb ?_) | (with_reducible refine rd_abs ?_) | (with_reducible refine rd_min2 ?_) | (with_reducible refine rd_max2 ?_))
local macro_rules | `(tactic| walk_at "rqs") => `(tactic| repeat (walk_at "rq"))
local macro_rules | `(tactic| walk_at "rv") => `(tactic| first
  | (with_reducible refine rd_seq ?_) | (with_reducible refine rd_asg ?_) | (with_reducible refine rd_ret ?_) | (with_reducible refine rd_next ?_)
  | (with_reducible refine rd_drop ?_) | ((with_reducible refine rd_name (σ' := ?ss) ?hs ?_); (case hs => (dsimp only [List.set]; exact rfl)))
  | ((with_reducible refine rd_var (v := ?vv) ?hv ?_); (case hv => exact rfl)) | (with_reducible refine rd_c ?_) | (with_reducible refine rd_op ?_) | (with_reducible refine rd_un ?_)
  | (with_reducible refine rd_I0 ?_) | (with_reducible refine rd_U ?_) | (with_reducible refine rd_test ?_) | (with_reducible refine rd_B ?_) | (with_reducible refine rd_k ?_)
  | (with_reducible refine rd_not ?_) | (with_reducible refine rd_and ?_) | (with_reducible refine rd_or ?_)
  | (with_reducible refine rd_par ?_) | ((with_reducible refine rd_par2 (σ' := ?ss) ?hs ?_); (case hs => (dsimp only [List.set]; exact rfl)))
  | (with_reducible refine rd_gsub ?_) | (with_reducible refine rd_andV ?_) | (with_reducible refine rd_orV ?_) | (with_reducible refine rd_notV ?_)
  | (with_reducible refine rd_lc ?_) | (with_reducible refine rd_iTup ?_) | (with_reducible refine rd_iList ?_) | (with_reducible refine rd_iRng1 ?_) | (with_reducible refine rd_iRng2 ?_) | (with_reducible refine rd_iEnumT ?_) | (with_reducible refine rd_iEnum ?_) | (with_reducible refine rd_iZipM ?_) | (with_reducible refine rd_iEnumS ?_) | (with_reducible refine rd_iKeys ?_) | (with_reducible refine rd_din ?_) | (with_reducible refine rd_dnotin ?_)
  | (with_reducible refine rd_yes ?_) | (with_reducible refine rd_true ?_) | (with_reducible refine rd_false ?_) | (with_reducible refine rd_m1 ?_) | (with_reducible refine rd_isS ?_)
  | ((with_reducible refine rd_eq ?hs ?_); (case hs => exact rfl)) | ((with_reducible refine rd_ne ?hs ?_); (case hs => exact rfl))
  | (with_reducible refine rd_listRg ?_) | (with_reducible refine rd_rg2 ?_) | (with_reducible refine rd_rgk ?_)
  | (with_reducible refine rd_dnew ?_) | (with_reducible refine rd_ddel ?_) | (with_reducible refine rd_kw ?_) | (with_reducible refine rd_callS ?_) | (with_reducible refine rd_dc ?_) | (with_reducible refine rd_for ?_) | (with_reducible refine rd_tru ?_) | (with_reducible refine rd_truI ?_)
  | (with_reducible refine rd_nil ?_) | (with_reducible refine rd_cons ?_) | (with_reducible refine rd_call ?_) | (with_reducible refine rd_cb ?_)
  | (with_reducible refine rd_tup ?_) | (with_reducible refine rd_lst ?_) | (with_reducible refine rd_dget ?_) | (with_reducible refine rd_dput ?_) | (with_reducible refine rd_dget2 ?_) | (with_reducible refine rd_sl ?_)
  | (with_reducible refine rd_nopart ?_) | (with_reducible refine rd_part ?_) | (with_reducible refine rd_parti ?_) | (with_reducible refine rd_bm ?_) | (with_reducible refine rd_bm0 ?_)
  | (with_reducible refine rd_int ?_) | (with_reducible refine rd_intb ?_) | (with_reducible refine rd_abs ?_) | (with_reducible refine rd_min2 ?_) | (with_reducible refine rd_max2 ?_))
local macro_rules | `(tactic| walk_at "rvs") => `(tactic| repeat (walk_at "rv"))

def pt0 : Pt := ⟨0, "", [], []⟩
def PtOk (pt : Pt) : Prop := OwnS pt.n pt.z ∧ 1 ≤ pt.n ∧ pt.n ≤ 4 ∧ (∀ r ∈ pt.R, Ea.Row pt.n r) ∧ pt.R.length ≤ 4
section
variable {K : PySem.W.Frag} {H H' : Hp} {d l : Addr}
def PtV (K : PySem.W.Frag) (H : Hp) (v : V) (c : Addr) (pt : Pt) : Prop := ∃ a xs, v = .ref a ∧ SqT K H a [.str pt.z, .ref c] ∧ SqT K H c xs ∧ DpAll K H xs (pt.R.map dR)
theorem PtV.ex {v : V} {c : Addr} {pt : Pt} (e : Evl.Ex H H') (h : PtV K H v c pt) : PtV K H' v c pt := by
  obtain ⟨a, xs, h0, h1, h2, h3⟩ := h
  exact ⟨a, xs, h0, Evl.ex_t e h1, Evl.ex_t e h2, dpAll_ex e _ _ h3⟩
theorem PtV.gl {v : V} {c : Addr} {pt : Pt} (g : Gl d l H H') (hD : DeckL d l H) (h : PtV K H v c pt) : PtV K H' v c pt := by
  obtain ⟨a, xs, h0, h1, h2, h3⟩ := h
  exact ⟨a, xs, h0, g.tup hD h1, g.tup hD h2, Gl.rows g hD h3⟩
theorem PtV.upd {v : V} {c : Addr} {pt : Pt} {p : Addr} {ys : List V} {u : HO} (e : H p = some (.lst ys)) (h : PtV K H v c pt) : PtV K (upd H p u) v c pt := by
  obtain ⟨a, xs, h0, h1, h2, h3⟩ := h
  exact ⟨a, xs, h0, tup_upd e lst_not h1, tup_upd e lst_not h2, rows_upd e h3⟩
/-- parts as values -/
def Sens (K : PySem.W.Frag) (H : Hp) (vs : List V) (cs : List Addr) (pts : List Pt) : Prop := vs.length = pts.length ∧ cs.length = pts.length ∧ ∀ j, j < pts.length → PtV K H (vs.getD j .non) (cs.getD j 0) (pts.getD j pt0)
variable {vs : List V} {cs : List Addr} {pts : List Pt}
theorem Sens.ex (e : Evl.Ex H H') (h : Sens K H vs cs pts) : Sens K H' vs cs pts := ⟨h.1, h.2.1, fun j hj => (h.2.2 j hj).ex e⟩
theorem Sens.gl (g : Gl d l H H') (hD : DeckL d l H) (h : Sens K H vs cs pts) : Sens K H' vs cs pts := ⟨h.1, h.2.1, fun j hj => (h.2.2 j hj).gl g hD⟩
theorem Sens.upd {p : Addr} {ys : List V} {u : HO} (e : H p = some (.lst ys)) (h : Sens K H vs cs pts) : Sens K (upd H p u) vs cs pts := ⟨h.1, h.2.1, fun j hj => (h.2.2 j hj).upd e⟩
theorem Sens.nil : Sens K H [] [] [] := ⟨rfl, rfl, fun j hj => absurd hj (Nat.not_lt_zero _)⟩
theorem getD_pre {α : Type} {l1 l2 : List α} {d0 : α} {j : Nat} (h : j < l1.length) : (l1 ++ l2).getD j d0 = l1.getD j d0 := by
  rw [List.getD_eq_getElem?_getD, List.getD_eq_getElem?_getD, List.getElem?_append_left h]
theorem getD_end {α : Type} {l1 : List α} {x d0 : α} : (l1 ++ [x]).getD l1.length d0 = x := by
  rw [List.getD_eq_getElem?_getD, List.getElem?_append_right (Nat.le_refl _), Nat.sub_self] <;> rfl
theorem Sens.snoc {v : V} {c : Addr} {pt : Pt} (h : Sens K H vs cs pts) (hv : PtV K H v c pt) : Sens K H (vs ++ [v]) (cs ++ [c]) (pts ++ [pt]) := by
  obtain ⟨h1, h2, h3⟩ := h
  refine ⟨by rw [List.length_append, List.length_append, h1] <;> rfl, by rw [List.length_append, List.length_append, h2] <;> rfl, fun j hj => ?_⟩
  rw [List.length_append, List.length_singleton] at hj
  by_cases c1 : j < pts.length
  · rw [getD_pre c1, getD_pre (by omega), getD_pre (by omega)]
    exact h3 j c1
  · have : j = pts.length := by omega
    subst this
    rw [getD_end, show pts.length = vs.length from h1.symm, getD_end, h1, show pts.length = cs.length from h2.symm, getD_end]
    exact hv
theorem Sen.pt {n : Nat} {a : Addr} {z : Str} {R : List (List Int)} (h : Sen K H n a z R) : ∃ c, PtV K H (.ref a) c ⟨n, z, R, []⟩ ∧ SqT K H a [.str z, .ref c] := by
  obtain ⟨c, xs, h1, h2, h3, _⟩ := h
  exact ⟨c, ⟨a, xs, rfl, h1, h2, h3⟩, h1⟩
theorem Sen.ok {n : Nat} {a : Addr} {z : Str} {R : List (List Int)} (h : Sen K H n a z R) (h1 : 1 ≤ n) (h4 : n ≤ 4) (hl : R.length ≤ 4) : PtOk ⟨n, z, R, []⟩ := by
  obtain ⟨c, xs, _, _, _, hz, _, hr, _⟩ := h
  exact ⟨hz, h1, h4, hr, hl⟩
end
def tot (pts : List Pt) : Nat := (pts.map (·.n)).sum
theorem tot_snoc (pts : List Pt) (pt : Pt) : tot (pts ++ [pt]) = tot pts + pt.n := by
  unfold tot
  rw [List.map_append, List.sum_append] <;> simp
def winP (pt : Pt) : Bool := winF pt.n pt.z pt.R []
theorem pt_len {pts : List Pt} (h : ∀ p ∈ pts, PtOk p) : pts.length ≤ tot pts := by
  induction pts with
  | nil => exact Nat.le_refl _
  | cons a t ih =>
    have i := ih fun p hp => h p (List.mem_cons_of_mem _ hp)
    have := (h a List.mem_cons_self).2.1
    have e : tot (a :: t) = a.n + tot t := by unfold tot; rw [List.map_cons, List.sum_cons]
    rw [e, List.length_cons]
    omega
theorem pt_mem {pts : List Pt} {j : Nat} (h : j < pts.length) : pts.getD j pt0 ∈ pts := by
  rw [List.getD_eq_getElem?_getD, List.getElem?_eq_getElem h]
  exact List.getElem_mem _
theorem range_pts {α : Type} (g : Pt → α) (pts : List Pt) : (List.range pts.length).map (fun i => g (pts.getD i pt0)) = pts.map g := by
  refine List.ext_getElem (by rw [List.length_map, List.length_range, List.length_map]) fun i a1 a2 => ?_
  rw [List.getElem_map, List.getElem_range, List.getElem_map, List.getD_eq_getElem?_getD, List.getElem?_eq_getElem (by rw [List.length_map] at a2; exact a2)] <;> rfl
theorem tot_int (pts : List Pt) : (pts.map fun p => (p.n : Int)).sum = ((tot pts : Nat) : Int) := by
  unfold tot
  induction pts with
  | nil => rfl
  | cons a t ih => rw [List.map_cons, List.sum_cons, List.map_cons, List.sum_cons, ih, Int.natCast_add]
theorem none_bad (pts : List Pt) : (((List.range pts.length).filter fun i => !winP (pts.getD i pt0)).map fun _ => V.int 1).isEmpty = pts.all winP := by
  rw [Bool.eq_iff_iff, List.isEmpty_iff, List.map_eq_nil_iff, List.filter_eq_nil_iff, List.all_eq_true]
  constructor
  · intro h p hp
    obtain ⟨i, hi⟩ := List.mem_iff_getElem?.mp hp
    have hl := (List.getElem?_eq_some_iff.mp hi).1
    have h2 := h i (List.mem_range.mpr hl)
    rw [List.getD_eq_getElem?_getD, hi] at h2
    have h2 : ¬ (!winP p) = true := h2
    cases c : winP p with
    | true => rfl
    | false => exact absurd (by rw [c]; rfl) h2
  · intro h i hi
    rw [h _ (pt_mem (List.mem_range.mp hi))]
    decide
theorem rg0 (k : Nat) : rgI 0 (k : Int) = (List.range k).map fun i : Nat => (i : Int) := by
  unfold rgI
  rw [show ((k : Int) - 0).toNat = k by omega]
  refine List.map_congr_left fun i _ => ?_
  omega
theorem perm_pts {pts : List Pt} {ms : List Int} (pm : ms.Perm (rgI 0 (pts.length : Int))) : (ms.map fun x => pts.getD x.toNat pt0).Perm pts := by
  have h := pm.map fun x : Int => pts.getD x.toNat pt0
  rw [rg0, List.map_map] at h
  have e : (List.range pts.length).map ((fun x : Int => pts.getD x.toNat pt0) ∘ fun i : Nat => (i : Int)) = pts := by
    have := range_pts (fun p => p) pts
    rw [List.map_id'] at this
    exact this
  rwa [e] at h
theorem tot_cons (a : Pt) (t : List Pt) : tot (a :: t) = a.n + tot t := by unfold tot; rw [List.map_cons, List.sum_cons]
theorem perm_tot {ps qs : List Pt} (h : ps.Perm qs) : tot ps = tot qs := by
  induction h with
  | nil => rfl
  | cons x _ ih => rw [tot_cons, tot_cons, ih]
  | swap x y l => rw [tot_cons, tot_cons, tot_cons, tot_cons]; omega
  | trans _ _ i1 i2 => exact i1.trans i2
theorem perm_all {ps qs : List Pt} (h : ps.Perm qs) (f : Pt → Bool) : ps.all f = qs.all f := by
  rw [Bool.eq_iff_iff, List.all_eq_true, List.all_eq_true]
  exact ⟨fun a x hx => a x (h.mem_iff.mpr hx), fun a x hx => a x (h.mem_iff.mp hx)⟩
theorem rd_rg1 {ta : TE} {σ : L2.St} {H : Hp} {R : Int → Int → Hp → Prop} (h : ta σ H fun x H1 => ∃ n, x = .int n ∧ R 0 n H1) : tRg1 ta σ H R := h
theorem perm_rng {k : Nat} {ms : List Int} (pm : ms.Perm (rgI 0 (k : Int))) : ∀ x ∈ ms, ∃ j : Nat, x = (j : Int) ∧ j < k := fun x hx => by
  have := pm.mem_iff.mp hx
  rw [rg0] at this
  obtain ⟨j, hj, rfl⟩ := List.mem_map.mp this
  exact ⟨j, rfl, List.mem_range.mp hj⟩
theorem who_each (b : Bool) : decide (V.str (whoT b) = V.str (Str.ofString "each")) = !b := by cases b <;> decide
section
variable {P : Program} {w : World} {K : PySem.W.Frag} {mg : Str → Option Value} {base : Heap}
def spParts (K : PySem.W.Frag) : Sp := fun vs H Q _ => ∃ (d l : Addr) (most : Int), vs = [.ref d, .int most] ∧ DeckL d l H ∧ 7 ≤ most ∧ most ≤ 12 ∧
  ∀ (q L : Addr) (ws : List V) (cs : List Addr) (pts : List Pt) (b : Int) (H' : Hp), Gl d l H H' → SqT K H' q [.ref L, .int b] → H' L = some (.lst ws) → L ≠ d → L ≠ l → Sens K H' ws cs pts → (∀ p ∈ pts, PtOk p) → 1 ≤ tot pts → ((tot pts : Nat) : Int) ≤ most →
    (b < 0 ↔ pts.all winP = true) → Q (.ref q) H'
theorem ok_parts {f fD fM fW fL fE : Addr} {fd fdD fdM fdW fdL fdE : FuncData} (F : Fun K "_law_parts" "_law_parts" s_law_parts f fd) (T : Bl mg)
    (G_law_draw : FnOk P w K mg base CX0 1 fD fdD ["deck", "many"] spDraw) (C_law_draw : Callee K mg "_law_draw" fD fdD ["deck", "many"])
    (G_law_mixed : FnOk P w K mg base CX0 2 fM fdM ["deck", "items"] (spMixed K)) (C_law_mixed : Callee K mg "_law_mixed" fM fdM ["deck", "items"])
    (G_law_won : FnOk P w K mg base CX0 3 fW fdW ["deck"] (spPart K)) (C_law_won : Callee K mg "_law_won" fW fdW ["deck"])
    (G_law_lost : FnOk P w K mg base CX0 3 fL fdL ["deck"] (spPart K)) (C_law_lost : Callee K mg "_law_lost" fL fdL ["deck"])
    (G_law_ends : FnOk P w K mg base CX0 14 fE fdE ["owners", "rows", "play"] (spEndsT K 13)) (C_law_ends : Callee K mg "_law_ends" fE fdE ["owners", "rows", "play"]) :
    FnOk P w K mg base CX0 15 f fd ["deck", "most"] (spParts K) := by
  refine F.ok sc_law_parts (fun vs H Q E h => ?_) (fun cdv A outer s H vs Q E hr h => ?_)
  · obtain ⟨d, l, most, rfl, _⟩ := h
    rfl
  · obtain ⟨d, l, most, rfl, hD, m7, m12, q⟩ := h
    refine ⟨_, (pss_cons (ps_asg (pe_tup (pa_cons (pe_lst pa_nil) (pa_cons (pe_un un_neg pe_int) pa_nil))) (pgk_tup (K := K) rfl rfl (pgs_cons (pg_name (i := 2) sc_law_parts.nd rfl (Or.inr rfl)) (pgs_cons (pg_name (i := 3) sc_law_parts.nd rfl (Or.inl rfl)) pgs_nil))))
 (pss_cons (ps_if (pt_cmpR op_eq (pe_call G_law_draw (hr.mono (by decide)) (by rfl) C_law_draw.m C_law_draw.k C_law_draw.b .nil pass0 (pa_cons (pv 0) (pa_cons pe_int pa_nil))) pe_int (nomark _)) (pss_one (ps_expr (pe_bm PySem.F.plainAttrs_list PySem.F.slot_list_append PySem.F.type_list_append mt_append (pv 2) (pa_cons (pe_call G_law_lost (hr.mono (by decide)) (by rfl) C_law_lost.m C_law_lost.k C_law_lost.b .nil pass0 (pa_cons (pv 0) pa_nil)) pa_nil)))) pss_nil)
 (pss_cons (ps_set (i := 4) sc_law_parts.nd rfl (Or.inl rfl) (pe_callB (c_sum (K := K) rfl rfl) (by rfl) T.sum (by decide +kernel) (pa_cons (pe_lc (own := [("owners", 11), ("rows", 12)]) (g := gTup K 2 (gCons (gName 11) (gCons (gName 12) gNil))) rfl sc_law_parts.nd (ik_listI (K := K) rfl (pv 2)) (blkOk_by (own := [("owners", 11), ("rows", 12)]) (N := ["deck", "most", "parts", "bad", "many", "turn", "own", "order", "is_bad", "found", "at", "owners", "rows"]) (sc := defScope s_law_parts) (by decide +kernel)) (fun _ _ _ _ _ => (pgk_tup (K := K) rfl rfl (pgs_cons (pg_name (i := 11) sc_law_parts.nd rfl (Or.inl rfl)) (pgs_cons (pg_name (i := 12) sc_law_parts.nd rfl (Or.inl rfl)) pgs_nil)))) (fun _ _ _ _ _ => pts_nil) (fun _ _ _ _ _ => (pe_callB c_lenS (by rfl) T.len (by decide +kernel) (pa_cons (pv 11) pa_nil)))) pa_nil)))
 (pss_cons (ps_for PassesOwn.never rfl (pi_range1 (by rfl) T.range (pa_cons pe_int pa_nil)) (pg_name (i := 5) sc_law_parts.nd rfl (Or.inl rfl)) (pss_cons (ps_set (i := 6) sc_law_parts.nd rfl (Or.inl rfl) (pe_call G_law_won (hr.mono (by decide)) (by rfl) C_law_won.m C_law_won.k C_law_won.b .nil pass0 (pa_cons (pv 0) pa_nil)))
 (pss_one (ps_if (pt_cmpR op_le (pe_op op_add (pv 4) (pe_callB c_lenS (by rfl) T.len (by decide +kernel) (pa_cons (pe_ix (ik_tup (K := K) rfl) (pv 6) pe_int (fun _ _ => rfl)) pa_nil))) (pv 1) (nomark _)) (pss_cons (ps_expr (pe_bm PySem.F.plainAttrs_list PySem.F.slot_list_append PySem.F.type_list_append mt_append (pv 2) (pa_cons (pv 6) pa_nil)))
 (pss_one (ps_set (i := 4) sc_law_parts.nd rfl (Or.inl rfl) (pe_op op_add (pv 4) (pe_callB c_lenS (by rfl) T.len (by decide +kernel) (pa_cons (pe_ix (ik_tup (K := K) rfl) (pv 6) pe_int (fun _ _ => rfl)) pa_nil)))))) pss_nil))))
 (pss_cons (ps_set (i := 7) sc_law_parts.nd rfl (Or.inl rfl) (pe_call G_law_mixed (hr.mono (by decide)) (by rfl) C_law_mixed.m C_law_mixed.k C_law_mixed.b .nil pass0 (pa_cons (pv 0) (pa_cons (pe_listRg rfl (by rfl) T.list (prg_1 (by rfl) T.range (pe_callB (c_len (K := K) rfl) (by rfl) T.len (by decide +kernel) (pa_cons (pv 2) pa_nil)))) pa_nil))))
 (pss_cons (ps_set (i := 8) sc_law_parts.nd rfl (Or.inl rfl) (pe_cmpR (op_ne0 (K := K) rfl hr.units) (pe_lc (own := [("owners", 11), ("rows", 12)]) (g := gTup K 2 (gCons (gName 11) (gCons (gName 12) gNil))) rfl sc_law_parts.nd (ik_listI (K := K) rfl (pv 2)) (blkOk_by (own := [("owners", 11), ("rows", 12)]) (N := ["deck", "most", "parts", "bad", "many", "turn", "own", "order", "is_bad", "found", "at", "owners", "rows"]) (sc := defScope s_law_parts) (by decide +kernel)) (fun _ _ _ _ _ => (pgk_tup (K := K) rfl rfl (pgs_cons (pg_name (i := 11) sc_law_parts.nd rfl (Or.inl rfl)) (pgs_cons (pg_name (i := 12) sc_law_parts.nd rfl (Or.inl rfl)) pgs_nil)))) (fun _ _ _ _ _ => (pts_one (pt_cmpR op_eq (pe_ix (ik_tup (K := K) rfl) (pe_call G_law_ends (hr.mono (by decide)) (by rfl) C_law_ends.m C_law_ends.k C_law_ends.b .nil pass0 (pa_cons (pv 11) (pa_cons (pv 12) (pa_cons (pe_tup pa_nil) pa_nil)))) pe_int (fun _ _ => rfl)) pe_str (nomark _)))) (fun _ _ _ _ _ => pe_int)) (pe_lst pa_nil) (nomark _)))
 (pss_cons (ps_setLc (i := 9) (own := [("at", 10)]) (g := gName 10) rfl sc_law_parts.nd rfl rfl (sw_true rfl rfl rfl (by decide +kernel)) (ik_listI (K := K) rfl (pv 7)) (blkOk_by (own := [("at", 10)]) (N := ["deck", "most", "parts", "bad", "many", "turn", "own", "order", "is_bad", "found", "at", "owners", "rows"]) (sc := defScope s_law_parts) (by decide +kernel)) (fun _ _ _ _ _ => (pg_name (i := 10) sc_law_parts.nd rfl (Or.inl rfl))) (fun _ _ _ _ _ => pts_nil) (fun _ _ _ _ _ => (pe_ix (ik_list (K := K) rfl) (pv 2) (pv 10) (fun _ _ => rfl))))
 (pss_cons (ps_if (pt_val (pv 8)) (pss_one (ps_set (i := 3) sc_law_parts.nd rfl (Or.inl rfl) (pe_ix (ik_list (K := K) rfl) (pe_lc (own := [("at", 10), ("own", 6)]) (g := gTup K 2 (gCons (gName 10) (gCons (gName 6) gNil))) rfl sc_law_parts.nd (pi_enumL (K := K) rfl (by rfl) T.enumerate (pa_cons (pv 9) pa_nil)) (blkOk_by (own := [("at", 10), ("own", 6)]) (N := ["deck", "most", "parts", "bad", "many", "turn", "own", "order", "is_bad", "found", "at", "owners", "rows"]) (sc := defScope s_law_parts) (by decide +kernel)) (fun _ _ _ _ _ => (pgk_tup (K := K) rfl rfl (pgs_cons (pg_name (i := 10) sc_law_parts.nd rfl (Or.inl rfl)) (pgs_cons (pg_name (i := 6) sc_law_parts.nd rfl (Or.inl rfl)) pgs_nil)))) (fun _ _ _ _ _ => (pts_one (pt_cmpR op_eq (pe_ix (ik_tup (K := K) rfl) (pe_call G_law_ends (hr.mono (by decide)) (by rfl) C_law_ends.m C_law_ends.k C_law_ends.b .nil pass0 (pa_cons (pe_ix (ik_tup (K := K) rfl) (pv 6) pe_int (fun _ _ => rfl)) (pa_cons (pe_ix (ik_tup (K := K) rfl) (pv 6) pe_int (fun _ _ => rfl)) (pa_cons (pe_tup pa_nil) pa_nil)))) pe_int (fun _ _ => rfl)) pe_str (nomark _)))) (fun _ _ _ _ _ => (pv 10))) pe_int (fun _ _ => rfl)))) pss_nil)
 (pss_one (ps_ret (pe_tup (pa_cons (pv 9) (pa_cons (pv 3) pa_nil))))))))))))), ?_⟩
    refine rd_start (σ' := [some (.ref d), some (.int most), none, none, none, none, none, none, none, none, none, none, none]) rfl ?_
    walk_at "rvs"
    refine ⟨Nat.zero_le _, fun L hL => ?_⟩
    have oL := hD.off hL
    have g0 := Gl.new (o := .lst []) hD hL
    walk_at "rvs"
    refine ⟨(by show 2 ≤ sizeLine; decide), fun t0 ht0 => ?_⟩
    refine rd_gtup2 (x := .ref L) (y := .int (-1)) (SqT.of upd_same) rfl (σ' := [some (.ref d), some (.int most), some (.ref L), some (.int (-1)), none, none, none, none, none, none, none, none, none]) rfl ?_
    have g1 := g0.trans (Gl.new (o := .tup [V.ref L, .int (-1)]) g0.dk ht0)
    have hL1 : (upd (upd H L (.lst [])) t0 (.tup [V.ref L, .int (-1)])) L = some (.lst []) := Evl.Ex.new ht0 L _ upd_same
    generalize upd (upd H L (.lst [])) t0 (.tup [V.ref L, .int (-1)]) = H1 at g1 hL1 ⊢
    have hD1 := g1.dk
    clear ht0 g0
    walk_at "rvs"
    refine rd_ifI (fun σ' H2 => ∃ (ws : List V) (cs : List Addr) (pts : List Pt), σ' = [some (.ref d), some (.int most), some (.ref L), some (.int (-1)), none, none, none, none, none, none, none, none, none] ∧ Gl d l H H2 ∧ H2 L = some (.lst ws) ∧ Sens K H2 ws cs pts ∧ (∀ p ∈ pts, PtOk p) ∧ tot pts ≤ 4) (fun N kN => ?_) fun σ' H2 hI => ?_
    · refine rd_if ?_
      walk_at "rvs"
      refine ⟨d, l, 2, rfl, hD1, by decide, by decide, fun r H2 g2 r0 r1 => ?_⟩
      have hL2 := g2.kp L _ oL.1 oL.2 hL1
      walk_at "rvs"
      refine rd_ite (fun c0 => ?_) (fun c0 => ?_)
      · walk_at "rvs"
        refine rd_tyL hL2 ?_
        walk_at "rvs"
        refine ⟨d, l, rfl, g2.dk, fun a z n R H3 g3 sn n1 n4 rl => ?_⟩
        have hL3 := g3.kp L _ oL.1 oL.2 hL2
        walk_at "rvs"
        refine rd_append hL3 (by decide) ?_
        walk_at "rvs"
        obtain ⟨c, hv, _⟩ := sn.pt
        refine kN _ _ ⟨_, [c], [⟨n, z, R, []⟩], rfl, Gl.mut ((g1.trans g2).trans g3) hD hL, upd_same, (Sens.nil.snoc hv).upd hL3, fun p hp => by rw [List.mem_singleton.mp hp]; exact sn.ok n1 n4 rl, ?_⟩
        show n + 0 ≤ 4
        omega
      · walk_at "rvs"
        exact kN _ _ ⟨[], [], [], rfl, g1.trans g2, hL2, Sens.nil, nofun, Nat.zero_le _⟩
    obtain ⟨ws, cs, pts, rfl, g2, hL2, sens, pok, tot4⟩ := hI
    have lp := pt_len pok
    clear g1 hL1 hD1
    walk_at "rvs"
    refine rd_refL (SqL.of hL2) ?_
    refine lc_prL (px := fun i => .str (pts.getD i pt0).z) (py := fun i => .ref (cs.getD i 0)) rfl (SqL.of hL2) (by rw [sens.1]; omega) (fun i hi => ?_) (σx := fun x y => [some (.ref d), some (.int most), some (.ref L), some (.int (-1)), none, none, none, none, none, none, none, some x, some y]) (fun _ _ => rfl) (fun _ _ => rfl)
      (f := fun _ => true) (g := fun i => .int ((pts.getD i pt0).n : Int)) (fun i hi H' N S e kN kS => ?_) fun D3 H3 e3 eD3 hD3 => ?_
    · obtain ⟨a, xs, h0, h1, _⟩ := sens.2.2 i (by rw [← sens.1]; exact hi)
      refine ⟨a, ?_, h1⟩
      rw [← h0, List.getD_eq_getElem?_getD, List.getElem?_eq_getElem hi] <;> rfl
    · have pk := pok _ (pt_mem (pts := pts) (j := i) (by rw [← sens.1]; exact hi))
      walk_at "rvs"
      refine rd_lenS (by rw [pk.1.1, sizeLine_eq]; have := pk.2.2.1; omega) ?_
      rw [pk.1.1]
      exact kN rfl _ (Evl.Ex.refl _)
    rw [List.filter_eq_self.mpr (fun _ _ => rfl), sens.1, range_pts (fun p => V.int (p.n : Int))] at hD3
    walk_at "rvs"
    refine ⟨D3, pts.map fun p => (p.n : Int), rfl, SqL.of (by rw [hD3, List.map_map] <;> rfl), ?_⟩
    rw [tot_int]
    have g3 := g2.trans (Gl.ex e3 g2.dk)
    have hL3 := e3 _ _ hL2
    have sens3 := sens.ex e3
    clear hD3 eD3 e3 hL2 sens g2
    walk_at "rvs"
    refine rd_rng1 (by decide) (by decide) ?_
    refine fr_range (lo := 0) (n := 6) (fun i σ' H' => ∃ (ws : List V) (cs : List Addr) (pts : List Pt) (x5 x6 : Option V), σ' = [some (.ref d), some (.int most), some (.ref L), some (.int (-1)), some (.int ((tot pts : Nat) : Int)), x5, x6, none, none, none, none, none, none] ∧ Gl d l H H' ∧ H' L = some (.lst ws) ∧ Sens K H' ws cs pts ∧ (∀ p ∈ pts, PtOk p) ∧ ((tot pts : Nat) : Int) ≤ most ∧ (1 ≤ i → 1 ≤ tot pts))
      ⟨ws, cs, pts, none, none, rfl, g3, hL3, sens3, pok, by omega, fun h => absurd h (by decide)⟩ (fun i σ' H4 hi hP => ?_) fun σ' H4 hP => ?_
    · clear g3 hL3 sens3 pok tot4 lp
      obtain ⟨ws, cs, pts, x5, x6, rfl, g4, hL4, sens4, pok, tm, ti⟩ := hP
      have lp := pt_len pok
      refine rd_start (σ' := [some (.ref d), some (.int most), some (.ref L), some (.int (-1)), some (.int ((tot pts : Nat) : Int)), some (.int (0 + (i : Int))), x6, none, none, none, none, none, none]) rfl ?_
      walk_at "rvs"
      refine ⟨d, l, rfl, g4.dk, fun a z n R H5 g5 sn n1 n4 rl => ?_⟩
      have hL5 := g5.kp L _ oL.1 oL.2 hL4
      obtain ⟨c, hv, hs⟩ := sn.pt
      have pk := sn.ok n1 n4 rl
      have sens5 := sens4.gl g5 g4.dk
      walk_at "rvs"
      dsimp only
      refine rd_ifI (fun σ' H6 => ∃ (ws : List V) (cs : List Addr) (pts : List Pt), σ' = [some (.ref d), some (.int most), some (.ref L), some (.int (-1)), some (.int ((tot pts : Nat) : Int)), some (.int (0 + (i : Int))), some (.ref a), none, none, none, none, none, none] ∧ Gl d l H H6 ∧ H6 L = some (.lst ws) ∧ Sens K H6 ws cs pts ∧ (∀ p ∈ pts, PtOk p) ∧ ((tot pts : Nat) : Int) ≤ most ∧ 1 ≤ tot pts) (fun N kN => ?_) fun σ' H6 hI => ?_
      · refine rd_if ?_
        walk_at "rvs"
        refine rd_ixT hs rfl ?_
        walk_at "rvs"
        refine rd_lenS (by rw [pk.1.1, sizeLine_eq]; show n ≤ _; omega) ?_
        rw [show z.length = n from pk.1.1]
        walk_at "rvs"
        refine rd_ite (fun c0 => ?_) (fun c0 => ?_)
        · walk_at "rvs"
          refine rd_tyL hL5 ?_
          walk_at "rvs"
          refine rd_append hL5 (by rw [sens5.1]; omega) ?_
          walk_at "rvs"
          refine rd_ixT (tup_upd hL5 lst_not hs) rfl ?_
          walk_at "rvs"
          refine rd_lenS (by rw [pk.1.1, sizeLine_eq]; show n ≤ _; omega) ?_
          rw [show z.length = n from pk.1.1]
          walk_at "rvs"
          have et : ((tot pts : Nat) : Int) + (n : Int) = ((tot (pts ++ [⟨n, z, R, []⟩]) : Nat) : Int) := by rw [tot_snoc]; show _ = ((tot pts + n : Nat) : Int); omega
          have etn : tot (pts ++ [⟨n, z, R, []⟩]) = tot pts + n := tot_snoc _ _
          rw [et]
          refine kN _ _ ⟨_, cs ++ [c], pts ++ [⟨n, z, R, []⟩], rfl, Gl.mut (g4.trans g5) hD hL, upd_same, (sens5.snoc hv).upd hL5, fun p hp => (List.mem_append.mp hp).elim (pok p) fun h => by rw [List.mem_singleton.mp h]; exact pk, by omega, by omega⟩
        · walk_at "rvs"
          exact kN _ _ ⟨ws, cs, pts, rfl, g4.trans g5, hL5, sens5, pok, tm, by omega⟩
      obtain ⟨ws, cs, pts, rfl, g6, hL6, sens6, pok, tm, t1⟩ := hI
      walk_at "rvs"
      exact ⟨ws, cs, pts, _, _, rfl, g6, hL6, sens6, pok, tm, fun _ => t1⟩
    clear g3 hL3 sens3 pok tot4 lp
    obtain ⟨ws, cs, pts, x5, x6, rfl, g4, hL4, sens4, pok, tm, ti⟩ := hP
    have lp := pt_len pok
    have t1 := ti (by decide)
    have hD4 := g4.dk
    walk_at "rvs"
    refine rd_rg1 ?_
    walk_at "rvs"
    refine rd_lenL (SqL.of hL4) ?_
    refine ⟨_, rfl, RgOk.of_le (by decide) (by rw [sens4.1]; omega) (by decide) (by omega), fun c hc => ?_⟩
    rw [rgV_ints, sens4.1]
    have g5 := Gl.new (o := .lst ((rgI 0 (pts.length : Int)).map V.int)) hD4 hc
    have e5 := Evl.Ex.new (o := .lst ((rgI 0 (pts.length : Int)).map V.int)) hc
    walk_at "rvs"
    refine ⟨d, l, c, rgI 0 (pts.length : Int), rfl, g5.dk, .inl (SqL.of upd_same), by rw [rg0, List.length_map, List.length_range]; omega, fun o ms H5 g6 ho hms pm => ?_⟩
    have lm : ms.length = pts.length := by rw [pm.length_eq, rg0, List.length_map, List.length_range]
    have g45 := g5.trans g6
    have hL5 := g45.kp L _ oL.1 oL.2 hL4
    have sens5 := sens4.gl g45 hD4
    have g7 := g4.trans g45
    have hD5 := g7.dk
    have pmr := perm_rng pm
    have pp := perm_pts pm
    clear g5 e5 hc g6 g45 hL4 sens4 g4 hD4 pm
    walk_at "rvs"
    refine rd_refL (SqL.of hL5) ?_
    refine lc_prL (px := fun i => .str (pts.getD i pt0).z) (py := fun i => .ref (cs.getD i 0)) rfl (SqL.of hL5) (by rw [sens5.1]; omega) (fun i hi => ?_) (σx := fun x y => [some (.ref d), some (.int most), some (.ref L), some (.int (-1)), some (.int ((tot pts : Nat) : Int)), x5, x6, some (.ref o), none, none, none, some x, some y]) (fun _ _ => rfl) (fun _ _ => rfl)
      (f := fun i => !winP (pts.getD i pt0)) (g := fun _ => .int 1) (fun i hi H' N S e kN kS => ?_) fun D6 H6 e6 eD6 hD6 => ?_
    · obtain ⟨a, xs, h0, h1, _⟩ := sens5.2.2 i (by rw [← sens5.1]; exact hi)
      refine ⟨a, ?_, h1⟩
      rw [← h0, List.getD_eq_getElem?_getD, List.getElem?_eq_getElem hi] <;> rfl
    · have hi2 : i < pts.length := by rw [← sens5.1]; exact hi
      have pk := pok _ (pt_mem hi2)
      obtain ⟨a, xs, h0, h1, h2, h3⟩ := (sens5.2.2 i hi2).ex e
      walk_at "rvs"
      refine ⟨Nat.zero_le _, fun t4 h4 => ?_⟩
      have e4 := Evl.Ex.new (o := .tup []) h4
      walk_at "rvs"
      refine ⟨_, _, t4, _, xs, _, [], rfl, pk.1, by have := pk.2.2.1; omega, Evl.ex_t e4 h2, dpAll_ex e4 _ _ h3, pk.2.2.2.1, by have := pk.2.2.2.2; omega, SqT.of upd_same, fun i x e => by simp at e, Nat.zero_le _, by have := pk.2.2.1; show _ - 0 < 13; omega, fun v H2 e2 hv => ?_⟩
      obtain ⟨qa, cnt, rfl, hc, sq⟩ := hv
      have hww : winR (pts.getD i pt0).z ((pts.getD i pt0).n - ([] : List Int).length) ((([] : List Int).length : Int) + 1) (askedF [] (pts.getD i pt0).R) = winP (pts.getD i pt0) := rfl
      rw [hww] at sq
      walk_at "rvs"
      refine rd_ixT sq rfl ?_
      walk_at "rvs"
      rw [who_each]
      cases c1 : winP (pts.getD i pt0) with
      | false =>
        refine (if_pos rfl).mpr ?_
        walk_at "rvs"
        exact kN (by show (!winP (pts.getD i pt0)) = true; rw [c1]; rfl) _ (e4.trans e2)
      | true =>
        refine (if_neg (by decide)).mpr ?_
        exact kS (by show (!winP (pts.getD i pt0)) = false; rw [c1]; rfl) _ (e4.trans e2)
    rw [sens5.1] at hD6
    walk_at "rvs"
    refine ⟨Nat.zero_le _, fun t0 h0 => ?_⟩
    have e8 := e6.trans (Evl.Ex.new (o := .lst []) h0)
    walk_at "rvs"
    refine rd_ne0 (SqL.of (Evl.Ex.new h0 _ _ hD6)) (SqL.of upd_same) ?_
    rw [none_bad]
    have hms8 := e8 _ _ hms
    have hL8 := e8 _ _ hL5
    have sens8 := sens5.ex e8
    have g8 := g7.trans (Gl.ex e8 hD5)
    generalize upd H6 t0 (.lst []) = H8 at hms8 hL8 sens8 g8 ⊢
    have hD8 := g8.dk
    clear e8 h0 hD6 eD6 e6 hms hL5 sens5 g7 hD5
    walk_at "rvs"
    refine rd_refL (SqL.of hms8) ?_
    refine lc_fmL (fun _ => true) (fun x => ws.getD x.toNat .non) (σx := fun x => [some (.ref d), some (.int most), some (.ref L), some (.int (-1)), some (.int ((tot pts : Nat) : Int)), x5, x6, some (.ref o), some (.bl (!pts.all winP)), none, some x, none, none]) (SqL.of hms8) (by rw [lm]; omega) (fun _ => rfl) (fun _ => rfl) (fun x hx H' N S e kN kS => ?_) fun F1 H9 e9 eF hF => ?_
    · obtain ⟨j, rfl, hj⟩ := pmr x hx
      walk_at "rvs"
      have hjw : ws[j]? = some (ws.getD j .non) := by
        rw [List.getD_eq_getElem?_getD, List.getElem?_eq_getElem (by rw [sens8.1]; exact hj)] <;> rfl
      refine rd_ixL (SqL.of (e _ _ hL8)) (atI_nat hjw) ?_
      have e0 : (ws.getD j .non) = ws.getD ((j : Int)).toNat .non := by rw [Int.toNat_natCast]
      rw [e0]
      exact kN rfl _ (Evl.Ex.refl _)
    rw [List.filter_eq_self.mpr (fun _ _ => rfl)] at hF
    have oF := hD8.off eF
    have g9 := g8.trans (Gl.ex e9 hD8)
    have sensF : Sens K H9 (ms.map fun x => ws.getD x.toNat .non) (ms.map fun x => cs.getD x.toNat 0) (ms.map fun x => pts.getD x.toNat pt0) := by
      refine ⟨by rw [List.length_map, List.length_map], by rw [List.length_map, List.length_map], fun j hj => ?_⟩
      rw [List.length_map] at hj
      obtain ⟨k, hk, hk2⟩ := pmr _ (List.getElem_mem hj)
      have hm : ∀ {α : Type} (g : Int → α) (d0 : α), (ms.map g).getD j d0 = g (k : Int) := fun g d0 => by
        rw [List.getD_eq_getElem?_getD, List.getElem?_map, List.getElem?_eq_getElem hj, hk] <;> rfl
      rw [hm, hm, hm, Int.toNat_natCast]
      exact (sens8.ex e9).2.2 k hk2
    have pokF : ∀ p ∈ ms.map (fun x => pts.getD x.toNat pt0), PtOk p := fun p hp => pok p (pp.mem_iff.mp hp)
    have totF : tot (ms.map fun x => pts.getD x.toNat pt0) = tot pts := perm_tot pp
    have allF : (ms.map fun x => pts.getD x.toNat pt0).all winP = pts.all winP := perm_all pp _
    have lF : (ms.map fun x => pts.getD x.toNat pt0).length = pts.length := by rw [List.length_map]; exact lm
    generalize (ms.map fun x => ws.getD x.toNat .non) = wf at hF sensF
    generalize (ms.map fun x => cs.getD x.toNat 0) = cf at sensF
    generalize (ms.map fun x => pts.getD x.toNat pt0) = pf at sensF pokF totF allF lF
    have hD9 := g9.dk
    walk_at "rvs"
    dsimp only
    refine rd_ifI (fun σ' HA => ∃ b : Int, σ' = [some (.ref d), some (.int most), some (.ref L), some (.int b), some (.int ((tot pts : Nat) : Int)), x5, x6, some (.ref o), some (.bl (!pts.all winP)), some (.ref F1), none, none, none] ∧ (b < 0 ↔ pf.all winP = true) ∧ Evl.Ex H9 HA) (fun N kN => ?_) fun σ' HA hI => ?_
    · refine rd_if ?_
      walk_at "rvs"
      cases ca : pts.all winP with
      | true =>
        refine (if_neg (by decide)).mpr ?_
        walk_at "rvs"
        exact kN _ _ ⟨-1, by rw [ca], ⟨fun _ => by rw [allF, ca], fun _ => by decide⟩, Evl.Ex.refl _⟩
      | false =>
        refine (if_pos rfl).mpr ?_
        have nall : pf.all winP = false := by rw [allF, ca]
        walk_at "rvs"
        refine ⟨F1, wf, rfl, SqL.of hF, ?_⟩
        refine lc_enumL rfl (SqL.of hF) (by rw [sensF.1]; omega) (σx := fun x y => [some (.ref d), some (.int most), some (.ref L), some (.int (-1)), some (.int ((tot pts : Nat) : Int)), x5, some y, some (.ref o), some (.bl (!false)), some (.ref F1), some x, none, none]) (fun _ _ => rfl) (fun _ _ => rfl) (fun i => !winP (pf.getD i pt0)) (fun i => .int (i : Nat)) (fun i hi H' N S e kN kS => ?_) fun D7 HB eB eD hD7 => ?_
        · have hi2 : i < pf.length := by rw [← sensF.1]; exact hi
          have pk := pokF _ (pt_mem hi2)
          obtain ⟨a, xs, h0, h1, h2, h3⟩ := (sensF.2.2 i hi2).ex e
          dsimp only
          rw [h0]
          walk_at "rvs"
          refine rd_ixT h1 rfl ?_
          walk_at "rvs"
          refine rd_ixT h1 rfl ?_
          walk_at "rvs"
          refine ⟨Nat.zero_le _, fun t4 h4 => ?_⟩
          have e4 := Evl.Ex.new (o := .tup []) h4
          walk_at "rvs"
          refine ⟨_, _, t4, _, xs, _, [], rfl, pk.1, by have := pk.2.2.1; omega, Evl.ex_t e4 h2, dpAll_ex e4 _ _ h3, pk.2.2.2.1, by have := pk.2.2.2.2; omega, SqT.of upd_same, fun i x e => by simp at e, Nat.zero_le _, by have := pk.2.2.1; show _ - 0 < 13; omega, fun v H2 e2 hv => ?_⟩
          obtain ⟨qa, cnt, rfl, hc, sq⟩ := hv
          have hww : winR (pf.getD i pt0).z ((pf.getD i pt0).n - ([] : List Int).length) ((([] : List Int).length : Int) + 1) (askedF [] (pf.getD i pt0).R) = winP (pf.getD i pt0) := rfl
          rw [hww] at sq
          walk_at "rvs"
          refine rd_ixT sq rfl ?_
          walk_at "rvs"
          rw [who_each]
          cases c1 : winP (pf.getD i pt0) with
          | false =>
            refine (if_pos rfl).mpr ?_
            walk_at "rvs"
            exact kN (by show (!winP (pf.getD i pt0)) = true; rw [c1]; rfl) _ (e4.trans e2)
          | true =>
            refine (if_neg (by decide)).mpr ?_
            exact kS (by show (!winP (pf.getD i pt0)) = false; rw [c1]; rfl) _ (e4.trans e2)
        obtain ⟨k, tl, hk⟩ : ∃ k tl, ((List.range wf.length).filter fun i => !winP (pf.getD i pt0)) = k :: tl := by
          cases hh : ((List.range wf.length).filter fun i => !winP (pf.getD i pt0)) with
          | cons k tl => exact ⟨k, tl, rfl⟩
          | nil =>
            have := none_bad pf
            rw [← sensF.1, hh, nall] at this
            cases this
        rw [hk] at hD7
        walk_at "rvs"
        refine rd_ixL (x := .int (k : Nat)) (SqL.of hD7) (atI_nat (j := 0) rfl) ?_
        walk_at "rvs"
        exact kN _ _ ⟨(k : Int), by rw [ca], ⟨fun h => absurd h (by omega), fun h => by rw [nall] at h; cases h⟩, eB⟩
    obtain ⟨b, rfl, hb, eA⟩ := hI
    walk_at "rvs"
    refine ⟨(by show 2 ≤ sizeLine; decide), fun o2 ho2 => ?_⟩
    have eB := eA.trans (Evl.Ex.new (o := .tup [V.ref F1, .int b]) ho2)
    exact q o2 F1 wf cf pf b _ (g9.trans (Gl.ex eB hD9)) (SqT.of upd_same) (eB _ _ hF) oF.1 oF.2 (sensF.ex eB) pokF (by omega) (by omega) hb
end
end KA
set_option Elab.async false
set_option linter.all false
set_option maxRecDepth 100000
set_option maxHeartbeats 400000
set_option pp.maxSteps 300
namespace KA
open PySem PySem.Spec PyProof.Rows L2 Ea
abbrev s_law_woven : Stmt := topS 26
theorem sc_law_woven : FnScope ["deck", "parts", "left", "names", "turns", "turn", "at", "owners", "rows", "part", "own"] ["deck", "parts"] (defScope s_law_woven) :=
  ⟨rfl, rfl, rfl, by decide +kernel, rfl, by decide +kernel, by decide +kernel⟩
local macro_rules | `(tactic| walk_at "rd") => `(tactic| first
  | (with_reducible refine rd_seq ?_) | (with_reducible refine rd_asg ?_) | (with_reducible refine rd_if ?_) | (with_reducible refine rd_ret ?_) | (with_reducible refine rd_next ?_)
  | (with_reducible refine rd_drop ?_) | ((with_reducible refine rd_name (σ' := ?ss) ?hs ?_); (case hs => (dsimp only [List.set]; exact rfl)))
  | ((with_reducible refine rd_var (v := ?vv) ?hv ?_); (case hv => exact rfl)) | (with_reducible refine rd_c ?_) | (with_reducible refine rd_op ?_) | (with_reducible refine rd_un ?_)
  | (with_reducible refine rd_I0 ?_) | (with_reducible refine rd_U ?_) | (with_reducible refine rd_test ?_) | (with_reducible refine rd_B ?_) | (with_reducible refine rd_k ?_)
  | (with_reducible refine rd_not ?_) | (with_reducible refine rd_and ?_) | (with_reducible refine rd_or ?_) | (with_reducible refine rd_ifE ?_)
  | (with_reducible refine rd_par ?_) | ((with_reducible refine rd_par2 (σ' := ?ss) ?hs ?_); (case hs => (dsimp only [List.set]; exact rfl)))
  | (with_reducible refine rd_gsub ?_) | (with_reducible refine rd_andV ?_) | (with_reducible refine rd_orV ?_) | (with_reducible refine rd_notV ?_)
  | (with_reducible refine rd_lc ?_) | (with_reducible refine rd_iTup ?_) | (with_reducible refine rd_iList ?_) | (with_reducible refine rd_iRng1 ?_) | (with_reducible refine rd_iRng2 ?_) | (with_reducible refine rd_iEnumT ?_) | (with_reducible refine rd_iEnum ?_) | (with_reducible refine rd_iZipM ?_) | (with_reducible refine rd_iEnumS ?_) | (with_reducible refine rd_iKeys ?_) | (with_reducible refine rd_din ?_) | (with_reducible refine rd_dnotin ?_)
  | (with_reducible refine rd_yes ?_) | (with_reducible refine rd_true ?_) | (with_reducible refine rd_false ?_) | (with_reducible refine rd_m1 ?_) | (with_reducible refine rd_isS ?_)
  | ((with_reducible refine rd_eq ?hs ?_); (case hs => exact rfl)) | ((with_reducible refine rd_ne ?hs ?_); (case hs => exact rfl))
  | (with_reducible refine rd_listRg ?_) | (with_reducible refine rd_rg2 ?_) | (with_reducible refine rd_rgk ?_)
  | (with_reducible refine rd_dnew ?_) | (with_reducible refine rd_ddel ?_) | (with_reducible refine rd_kw ?_) | (with_reducible refine rd_callS ?_) | (with_reducible refine rd_dc ?_) | (with_reducible refine rd_for ?_) | (with_reducible refine rd_tru ?_) | (with_reducible refine rd_truI ?_)
  | (with_reducible refine rd_nil ?_) | (with_reducible refine rd_cons ?_) | (with_reducible refine rd_call ?_) | (with_reducible refine rd_cb ?_)
  | (with_reducible refine rd_tup ?_) | (with_reducible refine rd_lst ?_) | (with_reducible refine rd_dget ?_) | (with_reducible refine rd_dput ?_) | (with_reducible refine rd_dget2 ?_) | (with_reducible refine rd_sl ?_)
  | (with_reducible refine rd_nopart ?_) | (with_reducible refine rd_part ?_) | (with_reducible refine rd_parti ?_) | (with_reducible refine rd_bm ?_) | (with_reducible refine rd_bm0 ?_)
  | (with_reducible refine rd_int ?_) | (with_reducible refine rd_intb ?_) | (with_reducible refine rd_abs ?_) | (with_reducible refine rd_min2 ?_) | (with_reducible refine rd_max2 ?_))
local macro_rules | `(tactic| walk_at "rds") => `(tactic| repeat (walk_at "rd"))
local macro_rules | `(tactic| walk_at "rq") => `(tactic| first
  | (with_reducible refine rd_seq ?_) | (with_reducible refine rd_asg ?_) | (with_reducible refine rd_ret ?_) | (with_reducible refine rd_next ?_)
  | (with_reducible refine rd_drop ?_) | ((with_reducible refine rd_name (σ' := ?ss) ?hs ?_); (case hs => (dsimp only [List.set]; exact rfl)))
  | ((with_reducible refine rd_var (v := ?vv) ?hv ?_); (case hv => exact rfl)) | (with_reducible refine rd_c ?_) | (with_reducible refine rd_op ?_) | (with_reducible refine rd_un ?_)
  | (with_reducible refine rd_I0 ?_) | (with_reducible refine rd_U ?_) | (with_reducible refine rd_test ?_) | (with_reducible refine rd_B ?_) | (with_reducible refine rd_k ?_)
  | (with_reducible refine rd_not ?_) | (with_reducible refine rd_and ?_) | (with_reducible refine rd_or ?_) | (with_reducible refine rd_ifE ?_)
  | (with_reducible refine rd_par ?_) | ((with_reducible refine rd_par2 (σ' := ?ss) ?hs ?_); (case hs => (dsimp only [List.set]; exact rfl)))
  | (with_reducible refine rd_gsub ?_) | (with_reducible refine rd_andV ?_) | (with_reducible refine rd_orV ?_) | (with_reducible refine rd_notV ?_)
  | (with_reducible refine rd_lc ?_) | (with_reducible refine rd_iTup ?_) | (with_reducible refine rd_iList ?_) | (with_reducible refine rd_iRng1 ?_) | (with_reducible refine rd_iRng2 ?_) | (with_reducible refine rd_iEnumT ?_) | (with_reducible refine rd_iEnum ?_) | (with_reducible refine rd_iZipM ?_) | (with_reducible refine rd_iEnumS ?_) | (with_reducible refine rd_iKeys ?_) | (with_reducible refine rd_din ?_) | (with_reducible refine rd_dnotin ?_)
  | (with_reducible refine rd_yes ?_) | (with_reducible refine rd_true ?_) | (with_reducible refine rd_false ?_) | (with_reducible refine rd_m1 ?_) | (with_reducible refine rd_isS ?_)
  | ((with_reducible refine rd_eq ?hs ?_); (case hs => exact rfl)) | ((with_reducible refine rd_ne ?hs ?_); (case hs => exact rfl))
  | (with_reducible refine rd_listRg ?_) | (with_reducible refine rd_rg2 ?_) | (with_reducible refine rd_rgk ?_)
  | (with_reducible refine rd_dnew ?_) | (with_reducible refine rd_ddel ?_) | (with_reducible refine rd_kw ?_) | (with_reducible refine rd_callS ?_) | (with_reducible refine rd_dc ?_) | (with_reducible refine rd_for ?_) | (with_reducible refine rd_tru ?_) | (with_reducible refine rd_truI ?_)
  | (with_reducible refine rd_nil ?_) | (with_reducible refine rd_cons ?_) | (with_reducible refine rd_call ?_) | (with_reducible refine rd_cb ?_)
  | (with_reducible refine rd_tup ?_) | (with_reducible refine rd_lst ?_) | (with_reducible refine rd_dget ?_) | (with_reducible refine rd_dput ?_) | (with_reducible refine rd_dget2 ?_) | (with_reducible refine rd_sl ?_)
  | (with_reducible refine rd_nopart ?_) | (with_reducible refine rd_part ?_) | (with_reducible refine rd_parti ?_) | (with_reducible refine rd_bm ?_) | (with_reducible refine rd_bm0 ?_)
  | (with_reducible refine rd_int ?_) | (with_reducible refine rd_intb ?_) | (with_reducible refine rd_abs ?_) | (with_reducible refine rd_min2 ?_) | (with_reducible refine rd_max2 ?_))
local macro_rules | `(tactic| walk_at "rqs") => `(tactic| repeat (walk_at "rq"))
local macro_rules | `(tactic| walk_at "rv") => `(tactic| first
  | (with_reducible refine rd_seq ?_) | (with_reducible refine rd_asg ?_) | (with_reducible refine rd_ret ?_) | (with_reducible refine rd_next ?_)
  | (with_reducible refine rd_drop ?_) | ((with_reducible refine rd_name (σ' := ?ss) ?hs ?_); (case hs => (dsimp only [List.set]; exact rfl)))
  | ((with_reducible refine rd_var (v := ?vv) ?hv ?_); (case hv => exact rfl)) | (with_reducible refine rd_c ?_) | (with_reducible refine rd_op ?_) | (with_reducible refine rd_un ?_)
  | (with_reducible refine rd_I0 ?_) | (with_reducible refine rd_U ?_) | (with_reducible refine rd_test ?_) | (with_reducible refine rd_B ?_) | (with_reducible refine rd_k ?_)
  | (with_reducible refine rd_not ?_) | (with_reducible refine rd_and ?_) | (with_reducible refine rd_or ?_)
  | (with_reducible refine rd_par ?_) | ((with_reducible refine rd_par2 (σ' := ?ss) ?hs ?_); (case hs => (dsimp only [List.set]; exact rfl)))
  | (with_reducible refine rd_gsub ?_) | (with_reducible refine rd_andV ?_) | (with_reducible refine rd_orV ?_) | (with_reducible refine rd_notV ?_)
  | (with_reducible refine rd_lc ?_) | (with_reducible refine rd_iTup ?_) | (with_reducible refine rd_iList ?_) | (with_reducible refine rd_iRng1 ?_) | (with_reducible refine rd_iRng2 ?_) | (with_reducible refine rd_iEnumT ?_) | (with_reducible refine rd_iEnum ?_) | (with_reducible refine rd_iZipM ?_) | (with_reducible refine rd_iEnumS ?_) | (with_reducible refine rd_iKeys ?_) | (with_reducible refine rd_din ?_) | (with_reducible refine rd_dnotin ?_)
  | (with_reducible refine rd_yes ?_) | (with_reducible refine rd_true ?_) | (with_reducible refine rd_false ?_) | (with_reducible refine rd_m1 ?_) | (with_reducible refine rd_isS ?_)
  | ((with_reducible refine rd_eq ?hs ?_); (case hs => exact rfl)) | ((with_reducible refine rd_ne ?hs ?_); (case hs => exact rfl))
  | (with_reducible refine rd_listRg ?_) | (with_reducible refine rd_rg2 ?_) | (with_reducible refine rd_rgk ?_)
  | (with_reducible refine rd_dnew ?_) | (with_reducible refine rd_ddel ?_) | (with_reducible refine rd_kw ?_) | (with_reducible refine rd_callS ?_) | (with_reducible refine rd_dc ?_) | (with_reducible refine rd_for ?_) | (with_reducible refine rd_tru ?_) | (with_reducible refine rd_truI ?_)
  | (with_reducible refine rd_nil ?_) | (with_reducible refine rd_cons ?_) | (with_reducible refine rd_call ?_) | (with_reducible refine rd_cb ?_)
  | (with_reducible refine rd_tup ?_) | (with_reducible refine rd_lst ?_) | (with_reducible refine rd_dget ?_) | (with_reducible refine rd_dput ?_) | (with_reducible refine rd_dget2 ?_) | (with_reducible refine rd_sl ?_)
  | (with_reducible refine rd_nopart ?_) | (with_reducible refine rd_part ?_) | (with_reducible refine rd_parti ?_) | (with_reducible refine rd_bm ?_) | (with_reducible refine rd_bm0 ?_)
  | (with_reducible refine rd_int ?_) | (with_reducible refine rd_intb ?_) | (with_reducible refine rd_abs ?_) | (with_reducible refine rd_min2 ?_) | (with_reducible refine rd_max2 ?_))
local macro_rules | `(tactic| walk_at "rvs") => `(tactic| repeat (walk_at "rv"))

theorem rd_par3 {ta : TA} {i j l : Nat} {D : Ends} {σ : L2.St} {H : Hp} (h : ta σ H fun vs H1 => ∃ v w x, vs = [v, w, x] ∧ D.nx (((σ.set i (some v)).set j (some w)).set l (some x)) H1) : tPar3 i j l ta D σ H := h
/-- the names of a part's letters, by whose turn it was -/
def nmOf (ts : List Nat) (a : Nat) : List Nat := ((List.range ts.length).filter fun i => decide (ts.getD i 0 = a)).map (· + 1)
theorem nmOf_nil (a : Nat) : nmOf [] a = [] := rfl
theorem nmOf_snoc (ts : List Nat) (t a : Nat) : nmOf (ts ++ [t]) a = nmOf ts a ++ (if t = a then [ts.length + 1] else []) := by
  unfold nmOf
  rw [List.length_append, List.length_singleton, List.range_succ, List.filter_append, List.map_append]
  congr 1
  · congr 1
    refine List.filter_congr fun i hi => ?_
    rw [getD_pre (List.mem_range.mp hi)]
  · rw [List.filter_cons, List.filter_nil, getD_end]
    by_cases c : t = a
    · rw [if_pos (decide_eq_true c), if_pos c] <;> rfl
    · rw [if_neg (by rw [decide_eq_true_eq]; exact c), if_neg c] <;> rfl
theorem nmOf_mem {ts : List Nat} {a g : Nat} : g ∈ nmOf ts a ↔ 1 ≤ g ∧ g ≤ ts.length ∧ ts.getD (g - 1) 0 = a := by
  unfold nmOf
  rw [List.mem_map]
  constructor
  · rintro ⟨i, hi, rfl⟩
    obtain ⟨h1, h2⟩ := List.mem_filter.mp hi
    have h1 := List.mem_range.mp h1
    exact ⟨by omega, by omega, by rw [Nat.add_sub_cancel]; exact of_decide_eq_true h2⟩
  · rintro ⟨h1, h2, h3⟩
    exact ⟨g - 1, List.mem_filter.mpr ⟨List.mem_range.mpr (by omega), decide_eq_true h3⟩, by omega⟩
theorem nmOf_asc (ts : List Nat) (a : Nat) : (nmOf ts a).Pairwise (· < ·) := by
  unfold nmOf
  rw [List.pairwise_map]
  exact (List.Pairwise.filter _ List.pairwise_lt_range).imp fun h => Nat.add_lt_add_right h 1
def sumR (k : Nat) (f : Nat → Nat) : Nat := ((List.range k).map f).sum
theorem sumR_succ (k : Nat) (f : Nat → Nat) : sumR (k + 1) f = sumR k f + f k := by
  unfold sumR
  rw [List.range_succ, List.map_append, List.sum_append] <;> simp
theorem sumR_le {k : Nat} {f g : Nat → Nat} (h : ∀ a, a < k → f a ≤ g a) : sumR k f ≤ sumR k g := by
  induction k with
  | zero => exact Nat.le_refl _
  | succ k ih =>
    rw [sumR_succ, sumR_succ]
    have := ih fun a ha => h a (by omega)
    have := h k (by omega)
    omega
theorem sumR_eq {k : Nat} {f g : Nat → Nat} (h : ∀ a, a < k → f a ≤ g a) (e : sumR k f = sumR k g) : ∀ a, a < k → f a = g a := by
  induction k with
  | zero => exact fun a ha => absurd ha (Nat.not_lt_zero _)
  | succ k ih =>
    rw [sumR_succ, sumR_succ] at e
    have h1 := sumR_le (k := k) (f := f) (g := g) fun a ha => h a (by omega)
    have h2 := h k (by omega)
    intro a ha
    by_cases c : a = k
    · subst c
      omega
    · exact ih (fun a ha => h a (by omega)) (by omega) a (by omega)
theorem sumR_one {k t : Nat} {f : Nat → Nat} (ht : t < k) : sumR k (fun a => f a + if t = a then 1 else 0) = sumR k f + 1 := by
  have key : ∀ k, sumR k (fun a => f a + if t = a then 1 else 0) = sumR k f + if t < k then 1 else 0 := fun k => by
    induction k with
    | zero => rfl
    | succ k ih =>
      rw [sumR_succ, sumR_succ, ih]
      by_cases c : t = k
      · rw [if_pos c, if_neg (by omega), if_pos (by omega)]
        omega
      · rw [if_neg c]
        by_cases c2 : t < k
        · rw [if_pos c2, if_pos (by omega)]
          omega
        · rw [if_neg c2, if_neg (by omega)]
          omega
  rw [key, if_pos ht]
theorem cnt_sum {k : Nat} : ∀ (n : Nat) (ts : List Nat), ts.length = n → (∀ t ∈ ts, t < k) → sumR k (fun a => (nmOf ts a).length) = ts.length
  | 0, ts, hn, _ => by
    have : ts = [] := List.length_eq_zero_iff.mp hn
    subst this
    have : ∀ k, sumR k (fun a => (nmOf [] a).length) = 0 := fun k => by
      induction k with
      | zero => rfl
      | succ k ih => rw [sumR_succ, ih] <;> rfl
    exact this k
  | n + 1, ts, hn, ht => by
    rcases List.eq_nil_or_concat ts with h | ⟨us, t, h⟩
    · rw [h] at hn
      cases hn
    · rw [List.concat_eq_append] at h
      subst h
      rw [List.length_append, List.length_singleton] at hn
      have i := cnt_sum n us (by omega) fun x hx => ht x (List.mem_append_left _ hx)
      have e : (fun a => (nmOf (us ++ [t]) a).length) = fun a => (nmOf us a).length + if t = a then 1 else 0 := funext fun a => by
        rw [nmOf_snoc, List.length_append]
        split <;> rfl
      rw [e, sumR_one (ht t (List.mem_append_right _ List.mem_cons_self)), i, List.length_append] <;> rfl
theorem tot_sum (pts : List Pt) : tot pts = sumR pts.length fun a => (pts.getD a pt0).n := by
  unfold tot sumR
  rw [range_pts (fun p => p.n)]
theorem left_some {pts : List Pt} {ts : List Nat} (ht : ∀ t ∈ ts, t < pts.length) (hl : ts.length < tot pts) : ∃ a, a < pts.length ∧ (nmOf ts a).length < (pts.getD a pt0).n := by
  refine Classical.byContradiction fun h => ?_
  have h1 : sumR pts.length (fun a => (pts.getD a pt0).n) ≤ sumR pts.length fun a => (nmOf ts a).length := sumR_le fun a ha => Nat.le_of_not_lt fun c => h ⟨a, ha, c⟩
  rw [← tot_sum, cnt_sum _ ts rfl ht] at h1
  omega
/-- what is left of each part -/
def lefts (pts : List Pt) (ts : List Nat) : List V := (List.range pts.length).map fun a => V.int (((pts.getD a pt0).n : Int) - ((nmOf ts a).length : Int))
theorem lefts_get {pts : List Pt} {ts : List Nat} {a : Nat} (h : a < pts.length) : (lefts pts ts)[a]? = some (V.int (((pts.getD a pt0).n : Int) - ((nmOf ts a).length : Int))) := by
  unfold lefts
  rw [List.getElem?_map, List.getElem?_range h] <;> rfl
theorem lefts_len {pts : List Pt} {ts : List Nat} : (lefts pts ts).length = pts.length := by
  unfold lefts
  rw [List.length_map, List.length_range]
theorem lefts_set {pts : List Pt} {ts : List Nat} {a : Nat} (h : a < pts.length) : (lefts pts ts).set a (V.int (((pts.getD a pt0).n : Int) - ((nmOf ts a).length : Int) - 1)) = lefts pts (ts ++ [a]) := by
  refine List.ext_getElem? fun i => ?_
  rw [List.getElem?_set]
  by_cases c : a = i
  · subst c
    rw [if_pos rfl, if_pos (by rw [lefts_len]; exact h), lefts_get h, nmOf_snoc, if_pos rfl, List.length_append, List.length_singleton]
    congr 2
    omega
  · rw [if_neg c]
    by_cases c2 : i < pts.length
    · rw [lefts_get c2, lefts_get c2, nmOf_snoc, if_neg c, List.append_nil]
    · rw [List.getElem?_eq_none (by rw [lefts_len]; omega), List.getElem?_eq_none (by rw [lefts_len]; omega)]
def NmsI (H0 H : Hp) (ns : List V) (k : Nat) (ts : List Nat) (av : List Addr) : Prop :=
  ns.length = k ∧ ∀ a, a < k → ∃ b : Addr, ns.getD a .non = .ref b ∧ H0 b = none ∧ b ∉ av ∧ H b = some (.lst ((nmOf ts a).map fun (g : Nat) => V.int (g : Int))) ∧ ∀ a', a' < k → ns.getD a' .non = .ref b → a' = a
theorem NmsI.keep {H0 H H' : Hp} {ns : List V} {k : Nat} {ts : List Nat} {av : List Addr} (h : NmsI H0 H ns k ts av) (kp : ∀ (b : Addr) (o : HO), H0 b = none → b ∉ av → H b = some o → H' b = some o) : NmsI H0 H' ns k ts av := ⟨h.1, fun a ha => by
  obtain ⟨b, h1, h2, h3, h4, h5⟩ := h.2 a ha
  exact ⟨b, h1, h2, h3, kp b _ h2 h3 h4, h5⟩⟩
theorem NmsI.put {H0 H : Hp} {ns : List V} {k : Nat} {ts : List Nat} {av : List Addr} {a : Nat} {b : Addr} (h : NmsI H0 H ns k ts av) (ha : a < k) (hb : ns.getD a .non = .ref b) :
    NmsI H0 (upd H b (.lst ((nmOf ts a).map (fun (g : Nat) => V.int (g : Int)) ++ [V.int ((ts.length + 1 : Nat) : Int)]))) ns k (ts ++ [a]) av := ⟨h.1, fun a' ha' => by
  obtain ⟨b', h1, h2, h3, h4, h5⟩ := h.2 a' ha'
  refine ⟨b', h1, h2, h3, ?_, h5⟩
  by_cases c : b' = b
  · subst c
    have : a = a' := h5 a ha hb
    subst this
    rw [upd_same, nmOf_snoc, if_pos rfl, List.map_append] <;> rfl
  · rw [upd_ne c, h4, nmOf_snoc, if_neg (fun e => c (by rw [← e] at h1; rw [h1] at hb; cases hb; rfl)), List.append_nil]⟩
section
variable {P : Program} {w : World} {K : PySem.W.Frag} {mg : Str → Option Value} {base : Heap}
def spWoven (K : PySem.W.Frag) : Sp := fun vs H Q _ => ∃ (d l PL : Addr) (ws : List V) (cs : List Addr) (pts : List Pt), vs = [.ref d, .ref PL] ∧ DeckL d l H ∧ H PL = some (.lst ws) ∧ PL ≠ d ∧ PL ≠ l ∧ Sens K H ws cs pts ∧ (∀ p ∈ pts, PtOk p) ∧ 1 ≤ tot pts ∧ tot pts ≤ 12 ∧
  ∀ (q T N : Addr) (ts : List Nat) (ns : List V) (H' : Hp), Gl d l H H' → SqT K H' q [.ref T, .ref N] → H' T = some (.lst (ts.map fun (t : Nat) => V.int (t : Int))) → H T = none → H' N = some (.lst ns) → H N = none → NmsI H H' ns pts.length ts [] →
    (∀ t ∈ ts, t < pts.length) → ts.length = tot pts → (∀ a, a < pts.length → (nmOf ts a).length = (pts.getD a pt0).n) → Q (.ref q) H'
theorem ok_woven {f fP : Addr} {fd fdP : FuncData} (F : Fun K "_law_woven" "_law_woven" s_law_woven f fd) (T : Bl mg)
    (G_law_pick : FnOk P w K mg base CX0 2 fP fdP ["deck", "items"] spPick) (C_law_pick : Callee K mg "_law_pick" fP fdP ["deck", "items"]) :
    FnOk P w K mg base CX0 3 f fd ["deck", "parts"] (spWoven K) := by
  refine F.ok sc_law_woven (fun vs H Q E h => ?_) (fun cdv A outer s H vs Q E hr h => ?_)
  · obtain ⟨d, l, PL, ws, cs, pts, rfl, _⟩ := h
    rfl
  · obtain ⟨d, l, PL, ws, cs, pts, rfl, hD, hP, oP1, oP2, sens, pok, t1, t12, q⟩ := h
    refine ⟨_, (pss_cons (ps_par3 (i := 2) (j := 3) (l := 4) rfl sc_law_woven.nd rfl rfl rfl (by decide) (by decide) (by decide) rfl rfl rfl (pa_cons (pe_lc (own := [("owners", 7), ("rows", 8)]) (g := gTup K 2 (gCons (gName 7) (gCons (gName 8) gNil))) rfl sc_law_woven.nd (ik_listI (K := K) rfl (pv 1)) (blkOk_by (own := [("owners", 7), ("rows", 8)]) (N := ["deck", "parts", "left", "names", "turns", "turn", "at", "owners", "rows", "part", "own"]) (sc := defScope s_law_woven) (by decide +kernel)) (fun _ _ _ _ _ => (pgk_tup (K := K) rfl rfl (pgs_cons (pg_name (i := 7) sc_law_woven.nd rfl (Or.inl rfl)) (pgs_cons (pg_name (i := 8) sc_law_woven.nd rfl (Or.inl rfl)) pgs_nil)))) (fun _ _ _ _ _ => pts_nil) (fun _ _ _ _ _ => (pe_callB c_lenS (by rfl) T.len (by decide +kernel) (pa_cons (pv 7) pa_nil)))) (pa_cons (pe_lc (own := [("part", 9)]) (g := gName 9) rfl sc_law_woven.nd (ik_listI (K := K) rfl (pv 1)) (blkOk_by (own := [("part", 9)]) (N := ["deck", "parts", "left", "names", "turns", "turn", "at", "owners", "rows", "part", "own"]) (sc := defScope s_law_woven) (by decide +kernel)) (fun _ _ _ _ _ => (pg_name (i := 9) sc_law_woven.nd rfl (Or.inl rfl))) (fun _ _ _ _ _ => pts_nil) (fun _ _ _ _ _ => (pe_lst pa_nil))) (pa_cons (pe_lst pa_nil) pa_nil))) (by rfl))
 (pss_cons (ps_for PassesOwn.never rfl (pi_range1 (by rfl) T.range (pa_cons (pe_callB (c_sum (K := K) rfl rfl) (by rfl) T.sum (by decide +kernel) (pa_cons (pv 2) pa_nil)) pa_nil)) (pg_name (i := 5) sc_law_woven.nd rfl (Or.inl rfl)) (pss_cons (ps_set (i := 6) sc_law_woven.nd rfl (Or.inl rfl) (pe_call G_law_pick (hr.mono (by decide)) (by rfl) C_law_pick.m C_law_pick.k C_law_pick.b .nil pass0 (pa_cons (pv 0) (pa_cons (pe_lc (own := [("at", 6), ("own", 10)]) (g := gTup K 2 (gCons (gName 6) (gCons (gName 10) gNil))) rfl sc_law_woven.nd (pi_enumL (K := K) rfl (by rfl) T.enumerate (pa_cons (pv 2) pa_nil)) (blkOk_by (own := [("at", 6), ("own", 10)]) (N := ["deck", "parts", "left", "names", "turns", "turn", "at", "owners", "rows", "part", "own"]) (sc := defScope s_law_woven) (by decide +kernel)) (fun _ _ _ _ _ => (pgk_tup (K := K) rfl rfl (pgs_cons (pg_name (i := 6) sc_law_woven.nd rfl (Or.inl rfl)) (pgs_cons (pg_name (i := 10) sc_law_woven.nd rfl (Or.inl rfl)) pgs_nil)))) (fun _ _ _ _ _ => (pts_one (pt_cmpR op_gt (pv 10) pe_int (nomark _)))) (fun _ _ _ _ _ => (pv 6))) pa_nil))))
 (pss_cons (ps_asg (pe_op op_sub (pe_ix (ik_list (K := K) rfl) (pv 2) (pv 6) (fun _ _ => rfl)) pe_int) (pg_sub (pv 2) (pv 6) set_list))
 (pss_cons (ps_expr (pe_bm PySem.F.plainAttrs_list PySem.F.slot_list_append PySem.F.type_list_append mt_append (pv 4) (pa_cons (pv 6) pa_nil)))
 (pss_one (ps_expr (pe_bm PySem.F.plainAttrs_list PySem.F.slot_list_append PySem.F.type_list_append mt_append (pe_ix (ik_list (K := K) rfl) (pv 3) (pv 6) (fun _ _ => rfl)) (pa_cons (pe_callB (c_len (K := K) rfl) (by rfl) T.len (by decide +kernel) (pa_cons (pv 4) pa_nil)) pa_nil))))))))
 (pss_one (ps_ret (pe_tup (pa_cons (pv 4) (pa_cons (pv 3) pa_nil))))))), ?_⟩
    refine rd_start (σ' := [some (.ref d), some (.ref PL), none, none, none, none, none, none, none, none, none]) rfl ?_
    have lp := pt_len pok
    walk_at "rvs"
    refine rd_par3 ?_
    walk_at "rvs"
    refine rd_refL (SqL.of hP) ?_
    refine lc_prL (px := fun i => .str (pts.getD i pt0).z) (py := fun i => .ref (cs.getD i 0)) rfl (SqL.of hP) (by rw [sens.1]; omega) (fun i hi => ?_) (σx := fun x y => [some (.ref d), some (.ref PL), none, none, none, none, none, some x, some y, none, none]) (fun _ _ => rfl) (fun _ _ => rfl)
      (f := fun _ => true) (g := fun i => .int ((pts.getD i pt0).n : Int)) (fun i hi H' N S e kN kS => ?_) fun L H1 e1 eL hL1 => ?_
    · obtain ⟨a, xs, h0, h1, _⟩ := sens.2.2 i (by rw [← sens.1]; exact hi)
      refine ⟨a, ?_, h1⟩
      rw [← h0, List.getD_eq_getElem?_getD, List.getElem?_eq_getElem hi] <;> rfl
    · have pk := pok _ (pt_mem (pts := pts) (j := i) (by rw [← sens.1]; exact hi))
      walk_at "rvs"
      refine rd_lenS (by rw [pk.1.1, sizeLine_eq]; have := pk.2.2.1; omega) ?_
      rw [pk.1.1]
      exact kN rfl _ (Evl.Ex.refl _)
    have eL1 : ((List.range ws.length).filter fun _ => true).map (fun i => V.int ((pts.getD i pt0).n : Int)) = lefts pts [] := by
      rw [List.filter_eq_self.mpr (fun _ _ => rfl), sens.1]
      unfold lefts
      refine List.map_congr_left fun a _ => ?_
      rw [nmOf_nil]
      exact congrArg V.int (Int.sub_zero _).symm
    rw [eL1] at hL1
    walk_at "rvs"
    refine rd_refL (SqL.of (e1 _ _ hP)) ?_
    refine lc_lsL (K := K) (xs := ws) (fun D i acc H' => acc.length = i ∧ ∀ a, a < i → ∃ b : Addr, acc.getD a .non = .ref b ∧ H1 b = none ∧ b ≠ D ∧ H' b = some (.lst []) ∧ ∀ a', a' < i → acc.getD a' .non = .ref b → a' = a) (fun i acc H1 D u e h => ?_)
      (σx := fun x => [some (.ref d), some (.ref PL), none, none, none, none, none, none, none, some x, none]) (SqL.of (e1 _ _ hP)) (by rw [sens.1]; omega) (fun _ => rfl) (fun _ => rfl) (fun D H' e => ?_) (fun i x hi D acc H' N e hDa hP' kN => ?_) fun N acc H2 e2 eN hN2 hNm => ?_
    · refine ⟨h.1, fun a ha => ?_⟩
      obtain ⟨b, h1, h2, h3, h4, h5⟩ := h.2 a ha
      exact ⟨b, h1, h2, h3, (upd_ne h3).trans h4, h5⟩
    · exact ⟨rfl, fun a ha => absurd ha (Nat.not_lt_zero _)⟩
    · walk_at "rvs"
      refine ⟨Nat.zero_le _, fun b hb => ?_⟩
      have eb := Evl.Ex.new (o := .lst []) hb
      have bD : b ≠ D := fun z => by rw [z, hDa] at hb; cases hb
      refine kN _ _ eb ⟨by rw [List.length_append, hP'.1] <;> rfl, fun a ha => ?_⟩
      by_cases c : a < i
      · obtain ⟨b2, h1, h2, h3, h4, h5⟩ := hP'.2 a c
        refine ⟨b2, by rw [getD_pre (by rw [hP'.1]; exact c)]; exact h1, h2, h3, (upd_ne h3).trans (eb _ _ h4), fun a' ha' h6 => ?_⟩
        by_cases c2 : a' < i
        · rw [getD_pre (by rw [hP'.1]; exact c2)] at h6
          exact h5 a' c2 h6
        · have : a' = acc.length := by rw [hP'.1]; omega
          rw [this, getD_end] at h6
          cases h6
          rw [h4] at hb
          cases hb
      · have ea : a = acc.length := by rw [hP'.1]; omega
        refine ⟨b, by rw [ea, getD_end], ?_, bD, (upd_ne bD).trans upd_same, fun a' ha' h6 => ?_⟩
        · cases z : H1 b with
          | none => rfl
          | some o =>
            rw [e _ _ z] at hb
            cases hb
        · by_cases c2 : a' < i
          · obtain ⟨b2, h1, h2, h3, h4, h5⟩ := hP'.2 a' c2
            rw [getD_pre (by rw [hP'.1]; exact c2), h1] at h6
            cases h6
            rw [h4] at hb
            cases hb
          · omega
    walk_at "rvs"
    refine ⟨Nat.zero_le _, fun TA hT => ?_⟩
    have e3 := Evl.Ex.new (o := .lst []) hT
    have eT : H TA = none := by
      cases z : H TA with
      | none => rfl
      | some o =>
        rw [(e1.trans e2) _ _ z] at hT
        cases hT
    have eN0 : H N = none := by
      cases z : H N with
      | none => rfl
      | some o =>
        rw [e1 _ _ z] at eN
        cases eN
    have nLN : L ≠ N := fun z => by rw [z, eN] at hL1; cases hL1
    have nLT : L ≠ TA := fun z => by rw [← z, e2 _ _ hL1] at hT; cases hT
    have nNT : N ≠ TA := fun z => by rw [← z, hN2] at hT; cases hT
    have g3 := Gl.ex ((e1.trans e2).trans e3) hD
    have hL3 := (e2.trans e3) _ _ hL1
    have hN3 := e3 _ _ hN2
    have hT3 : (upd H2 TA (.lst [])) TA = some (.lst []) := upd_same
    have nms3 : NmsI H (upd H2 TA (.lst [])) acc pts.length [] [L, N, TA] := by
      refine ⟨by rw [hNm.1, sens.1], fun a ha => ?_⟩
      obtain ⟨b, h1, h2, h3, h4, h5⟩ := hNm.2 a (by rw [sens.1]; exact ha)
      refine ⟨b, h1, ?_, ?_, e3 _ _ h4, fun a' ha' => h5 a' (by rw [sens.1]; exact ha')⟩
      · cases z : H b with
        | none => rfl
        | some o =>
          rw [e1 _ _ z] at h2
          cases h2
      · simp only [List.mem_cons, List.not_mem_nil, or_false]
        rintro (z | z | z)
        · rw [z, hL1] at h2
          cases h2
        · exact h3 z
        · rw [z] at h4
          rw [h4] at hT
          cases hT
    generalize upd H2 TA (.lst []) = H3 at g3 hL3 hN3 hT3 nms3 ⊢
    clear hNm hT e3 hN2 eN e2 e1 hL1
    refine ⟨_, _, _, rfl, ?_⟩
    refine rd_start (σ' := [some (.ref d), some (.ref PL), some (.ref L), some (.ref N), some (.ref TA), none, none, none, none, none, none]) rfl ?_
    have oL := hD.off eL
    have oN := hD.off eN0
    have oT := hD.off eT
    walk_at "rvs"
    refine ⟨L, pts.map fun p => (p.n : Int), rfl, SqL.of ?_, ?_⟩
    · rw [hL3]
      congr 2
      rw [List.map_map]
      unfold lefts
      rw [← range_pts (V.int ∘ fun p : Pt => (p.n : Int))]
      refine List.map_congr_left fun a _ => ?_
      rw [nmOf_nil]
      exact congrArg V.int (Int.sub_zero _)
    rw [tot_int]
    walk_at "rvs"
    refine rd_rng1 (by omega) (by omega) ?_
    rw [Int.toNat_natCast]
    refine fr_range (lo := 0) (n := tot pts) (fun i σ' H' => ∃ (ts : List Nat) (x5 x6 : Option V), σ' = [some (.ref d), some (.ref PL), some (.ref L), some (.ref N), some (.ref TA), x5, x6, none, none, none, none] ∧ Gl d l H H' ∧ H' L = some (.lst (lefts pts ts)) ∧ H' N = some (.lst acc) ∧ H' TA = some (.lst (ts.map fun (t : Nat) => V.int (t : Int))) ∧ NmsI H H' acc pts.length ts [L, N, TA] ∧ (∀ t ∈ ts, t < pts.length) ∧ ts.length = i ∧ ∀ a, a < pts.length → (nmOf ts a).length ≤ (pts.getD a pt0).n)
      ⟨[], _, _, rfl, g3, hL3, hN3, hT3, nms3, nofun, rfl, fun a _ => Nat.zero_le _⟩ (fun i σ' H4 hi hP => ?_) fun σ' H4 hP => ?_
    · clear g3 hL3 hN3 hT3 nms3
      obtain ⟨ts, x5, x6, rfl, g4, hL4, hN4, hT4, nms4, ht, hi2, hle⟩ := hP
      refine rd_start (σ' := [some (.ref d), some (.ref PL), some (.ref L), some (.ref N), some (.ref TA), some (.int (0 + (i : Int))), x6, none, none, none, none]) rfl ?_
      walk_at "rvs"
      refine ⟨L, _, rfl, SqL.of hL4, ?_⟩
      refine lc_enumL rfl (SqL.of hL4) (by rw [lefts_len]; omega) (σx := fun x y => [some (.ref d), some (.ref PL), some (.ref L), some (.ref N), some (.ref TA), some (.int (0 + (i : Int))), some x, none, none, none, some y]) (fun _ _ => rfl) (fun _ _ => rfl) (fun a => decide ((nmOf ts a).length < (pts.getD a pt0).n)) (fun a => .int (a : Nat)) (fun a ha H' Nx S e kN kS => ?_) fun D5 H5 e5 eD5 hD5 => ?_
      · rw [lefts_len] at ha
        have hv : (lefts pts ts).getD a .non = .int (((pts.getD a pt0).n : Int) - ((nmOf ts a).length : Int)) := by rw [List.getD_eq_getElem?_getD, lefts_get ha] <;> rfl
        dsimp only
        rw [hv]
        walk_at "rvs"
        refine rd_ite (fun c => ?_) (fun c => ?_)
        · walk_at "rvs"
          exact kN (decide_eq_true (by omega)) _ (Evl.Ex.refl _)
        · exact kS (decide_eq_false (by omega)) _ (Evl.Ex.refl _)
      have oD5 := g4.dk.off eD5
      have g5 := g4.trans (Gl.ex e5 g4.dk)
      rw [lefts_len] at hD5
      obtain ⟨a0, ha0, hlt0⟩ := left_some ht (by omega)
      have ne5 : 1 ≤ (((List.range pts.length).filter fun a => decide ((nmOf ts a).length < (pts.getD a pt0).n)).map fun a : Nat => V.int (a : Int)).length := by
        rw [List.length_map]
        exact List.length_pos_of_mem (List.mem_filter.mpr ⟨List.mem_range.mpr ha0, decide_eq_true hlt0⟩)
      have le5 : (((List.range pts.length).filter fun a => decide ((nmOf ts a).length < (pts.getD a pt0).n)).map fun a : Nat => V.int (a : Int)).length ≤ 1000 := by
        rw [List.length_map]
        refine Nat.le_trans (List.length_filter_le _ _) ?_
        rw [List.length_range]
        omega
      walk_at "rvs"
      refine ⟨d, l, D5, _, rfl, g5.dk, hD5, oD5.1, oD5.2, ne5, le5, fun y H6 g6 hy => ?_⟩
      obtain ⟨a, ha, rfl⟩ := List.mem_map.mp hy
      obtain ⟨hak, hlt⟩ := List.mem_filter.mp ha
      have hak := List.mem_range.mp hak
      have hlt := of_decide_eq_true hlt
      have g56 := (Gl.ex e5 g4.dk).trans g6
      have hL6 := g56.kp L _ oL.1 oL.2 hL4
      have hN6 := g56.kp N _ oN.1 oN.2 hN4
      have hT6 := g56.kp TA _ oT.1 oT.2 hT4
      have nms6 := nms4.keep fun b o hb _ e => g56.kp b o (hD.off hb).1 (hD.off hb).2 e
      have g46 := g4.trans g56
      clear ne5 le5 hy ha hD5 oD5 eD5 e5 g5 g6 g56 hL4 hN4 hT4 nms4 g4
      walk_at "rvs"
      refine rd_ixL (SqL.of hL6) (atI_nat (lefts_get hak)) ?_
      walk_at "rvs"
      refine ⟨L, _, (a : Int), a, rfl, rfl, hL6, ?_, ?_⟩
      · unfold ixN
        rw [if_pos (by omega), if_pos (by rw [lefts_len]; omega), Int.toNat_natCast]
      rw [lefts_set hak]
      have g7 := g46.mut (o := .lst (lefts pts (ts ++ [a]))) hD eL
      have hL7 : (upd H6 L (.lst (lefts pts (ts ++ [a])))) L = some (.lst (lefts pts (ts ++ [a]))) := upd_same
      have hN7 := (upd_ne (H := H6) (o := .lst (lefts pts (ts ++ [a]))) nLN.symm).trans hN6
      have hT7 := (upd_ne (H := H6) (o := .lst (lefts pts (ts ++ [a]))) nLT.symm).trans hT6
      have nms7 : NmsI H (upd H6 L (.lst (lefts pts (ts ++ [a])))) acc pts.length ts [L, N, TA] := nms6.keep fun b o _ hb e => by
        rw [upd_ne (fun z => hb (by rw [z]; exact List.mem_cons_self))]
        exact e
      generalize upd H6 L (.lst (lefts pts (ts ++ [a]))) = H7 at g7 hL7 hN7 hT7 nms7 ⊢
      clear hL6 hN6 hT6 nms6 g46
      have lT : (ts.map fun (t : Nat) => V.int (t : Int)).length = ts.length := List.length_map ..
      walk_at "rvs"
      refine rd_tyL hT7 ?_
      walk_at "rvs"
      refine rd_append hT7 (by rw [lT]; omega) ?_
      have eTT : (ts.map fun (t : Nat) => V.int (t : Int)) ++ [V.int (a : Int)] = (ts ++ [a]).map fun (t : Nat) => V.int (t : Int) := by rw [List.map_append] <;> rfl
      rw [eTT]
      have g8 := g7.mut (o := .lst ((ts ++ [a]).map fun (t : Nat) => V.int (t : Int))) hD eT
      have hT8 : (upd H7 TA (.lst ((ts ++ [a]).map fun (t : Nat) => V.int (t : Int)))) TA = some (.lst ((ts ++ [a]).map fun (t : Nat) => V.int (t : Int))) := upd_same
      have hL8 := (upd_ne (H := H7) (o := .lst ((ts ++ [a]).map fun (t : Nat) => V.int (t : Int))) nLT).trans hL7
      have hN8 := (upd_ne (H := H7) (o := .lst ((ts ++ [a]).map fun (t : Nat) => V.int (t : Int))) nNT).trans hN7
      have nms8 : NmsI H (upd H7 TA (.lst ((ts ++ [a]).map fun (t : Nat) => V.int (t : Int)))) acc pts.length ts [L, N, TA] := nms7.keep fun b o _ hb e => by
        rw [upd_ne (fun z => hb (by rw [z]; simp))]
        exact e
      generalize upd H7 TA (.lst ((ts ++ [a]).map fun (t : Nat) => V.int (t : Int))) = H8 at g8 hL8 hN8 hT8 nms8 ⊢
      clear hL7 hN7 hT7 nms7 g7
      obtain ⟨b, hb1, hb2, hb3, hb4, hb5⟩ := nms8.2 a hak
      have hNg : acc[a]? = some (.ref b) := by
        rw [← hb1, List.getD_eq_getElem?_getD, List.getElem?_eq_getElem (by rw [nms8.1]; exact hak)] <;> rfl
      have nbL : b ≠ L := fun z => hb3 (by rw [z]; simp)
      have nbN : b ≠ N := fun z => hb3 (by rw [z]; simp)
      have nbT : b ≠ TA := fun z => hb3 (by rw [z]; simp)
      walk_at "rvs"
      refine rd_ixL (SqL.of hN8) (atI_nat hNg) ?_
      walk_at "rvs"
      refine rd_tyL hb4 ?_
      walk_at "rvs"
      refine rd_lenL (SqL.of hT8) ?_
      walk_at "rvs"
      rw [List.length_map, List.length_append, List.length_singleton]
      have lnm : (nmOf ts a).length ≤ ts.length := by
        have h := List.length_filter_le (fun i => decide (ts.getD i 0 = a)) (List.range ts.length)
        rw [List.length_range] at h
        unfold nmOf
        rw [List.length_map]
        exact h
      refine rd_append hb4 (by rw [List.length_map]; omega) ?_
      walk_at "rvs"
      refine ⟨ts ++ [a], _, _, rfl, g8.mut hD hb2, (upd_ne nbL.symm).trans hL8, (upd_ne nbN.symm).trans hN8, (upd_ne nbT.symm).trans hT8, nms8.put hak hb1, fun t h => (List.mem_append.mp h).elim (ht t) fun h => by rw [List.mem_singleton.mp h]; exact hak, by rw [List.length_append, hi2] <;> rfl, fun a' ha' => ?_⟩
      rw [nmOf_snoc]
      by_cases c : a = a'
      · subst c
        rw [if_pos rfl, List.length_append]
        exact hlt
      · rw [if_neg c, List.append_nil]
        exact hle a' ha'
    · clear g3 hL3 hN3 hT3 nms3
      obtain ⟨ts, x5, x6, rfl, g4, hL4, hN4, hT4, nms4, ht, hi2, hle⟩ := hP
      have heq : ∀ a, a < pts.length → (nmOf ts a).length = (pts.getD a pt0).n := sumR_eq (f := fun a => (nmOf ts a).length) (g := fun a => (pts.getD a pt0).n) hle (by rw [cnt_sum _ ts rfl ht, ← tot_sum]; exact hi2)
      walk_at "rvs"
      refine ⟨(by show 2 ≤ sizeLine; decide), fun o ho => ?_⟩
      have e5 := Evl.Ex.new (o := .tup [V.ref TA, .ref N]) ho
      exact q o TA N ts acc _ (g4.trans (Gl.ex e5 g4.dk)) (SqT.of upd_same) (e5 _ _ hT4) eT (e5 _ _ hN4) eN0
        ⟨nms4.1, fun a ha => by
          obtain ⟨b, h1, h2, _, h4, h5⟩ := nms4.2 a ha
          exact ⟨b, h1, h2, List.not_mem_nil, e5 _ _ h4, h5⟩⟩ ht hi2 heq
end
end KA
set_option Elab.async false
set_option linter.all false
set_option maxRecDepth 100000
set_option maxHeartbeats 400000
set_option pp.maxSteps 300
namespace KA
open PySem PySem.Spec PyProof.Rows L2 Ea
abbrev s_law_put : Stmt := topS 27
theorem sc_law_put : FnScope ["deck", "parts", "turns", "names", "owners", "rows", "counts", "at", "own", "clauses", "letters", "row", "x"] ["deck", "parts", "turns", "names"] (defScope s_law_put) :=
  ⟨rfl, rfl, rfl, by decide +kernel, rfl, by decide +kernel, by decide +kernel⟩
local macro_rules | `(tactic| walk_at "rd") => `(tactic| first
  | (with_reducible refine rd_seq ?_) | (with_reducible refine rd_asg ?_) | (with_reducible refine rd_if ?_) | (with_reducible refine rd_ret ?_) | (with_reducible refine rd_next ?_)
  | (with_reducible refine rd_drop ?_) | ((with_reducible refine rd_name (σ' := ?ss) ?hs ?_); (case hs => (dsimp only [List.set]; exact rfl)))
  | ((with_reducible refine rd_var (v := ?vv) ?hv ?_); (case hv => exact rfl)) | (with_reducible refine rd_c ?_) | (with_reducible refine rd_op ?_) | (with_reducible refine rd_un ?_)
  | (with_reducible refine rd_I0 ?_) | (with_reducible refine rd_U ?_) | (with_reducible refine rd_test ?_) | (with_reducible refine rd_B ?_) | (with_reducible refine rd_k ?_)
  | (with_reducible refine rd_not ?_) | (with_reducible refine rd_and ?_) | (with_reducible refine rd_or ?_) | (with_reducible refine rd_ifE ?_)
  | (with_reducible refine rd_par ?_) | ((with_reducible refine rd_par2 (σ' := ?ss) ?hs ?_); (case hs => (dsimp only [List.set]; exact rfl)))
  | (with_reducible refine rd_gsub ?_) | (with_reducible refine rd_andV ?_) | (with_reducible refine rd_orV ?_) | (with_reducible refine rd_notV ?_)
  | (with_reducible refine rd_lc ?_) | (with_reducible refine rd_iTup ?_) | (with_reducible refine rd_iList ?_) | (with_reducible refine rd_iRng1 ?_) | (with_reducible refine rd_iRng2 ?_) | (with_reducible refine rd_iEnumT ?_) | (with_reducible refine rd_iEnum ?_) | (with_reducible refine rd_iZipM ?_) | (with_reducible refine rd_iEnumS ?_) | (with_reducible refine rd_iKeys ?_) | (with_reducible refine rd_din ?_) | (with_reducible refine rd_dnotin ?_)
  | (with_reducible refine rd_yes ?_) | (with_reducible refine rd_true ?_) | (with_reducible refine rd_false ?_) | (with_reducible refine rd_m1 ?_) | (with_reducible refine rd_isS ?_)
  | ((with_reducible refine rd_eq ?hs ?_); (case hs => exact rfl)) | ((with_reducible refine rd_ne ?hs ?_); (case hs => exact rfl))
  | (with_reducible refine rd_listRg ?_) | (with_reducible refine rd_rg2 ?_) | (with_reducible refine rd_rgk ?_)
  | (with_reducible refine rd_dnew ?_) | (with_reducible refine rd_ddel ?_) | (with_reducible refine rd_kw ?_) | (with_reducible refine rd_callS ?_) | (with_reducible refine rd_dc ?_) | (with_reducible refine rd_for ?_) | (with_reducible refine rd_tru ?_) | (with_reducible refine rd_truI ?_)
  | (with_reducible refine rd_nil ?_) | (with_reducible refine rd_cons ?_) | (with_reducible refine rd_call ?_) | (with_reducible refine rd_cb ?_)
  | (with_reducible refine rd_tup ?_) | (with_reducible refine rd_lst ?_) | (with_reducible refine rd_dget ?_) | (with_reducible refine rd_dput ?_) | (with_reducible refine rd_dget2 ?_) | (with_reducible refine rd_sl ?_)
  | (with_reducible refine rd_nopart ?_) | (with_reducible refine rd_part ?_) | (with_reducible refine rd_parti ?_) | (with_reducible refine rd_bm ?_) | (with_reducible refine rd_bm0 ?_)
  | (with_reducible refine rd_int ?_) | (with_reducible refine rd_intb ?_) | (with_reducible refine rd_abs ?_) | (with_reducible refine rd_min2 ?_) | (with_reducible refine rd_max2 ?_))
local macro_rules | `(tactic| walk_at "rds") => `(tactic| repeat (walk_at "rd"))
local macro_rules | `(tactic| walk_at "rq") => `(tactic| first
  | (with_reducible refine rd_seq ?_) | (with_reducible refine rd_asg ?_) | (with_reducible refine rd_ret ?_) | (with_reducible refine rd_next ?_)
  | (with_reducible refine rd_drop ?_) | ((with_reducible refine rd_name (σ' := ?ss) ?hs ?_); (case hs => (dsimp only [List.set]; exact rfl)))
  | ((with_reducible refine rd_var (v := ?vv) ?hv ?_); (case hv => exact rfl)) | (with_reducible refine rd_c ?_) | (with_reducible refine rd_op ?_) | (with_reducible refine rd_un ?_)
  | (with_reducible refine rd_I0 ?_) | (with_reducible refine rd_U ?_) | (with_reducible refine rd_test ?_) | (with_reducible refine rd_B ?_) | (with_reducible refine rd_k ?_)
  | (with_reducible refine rd_not ?_) | (with_reducible refine rd_and ?_) | (with_reducible refine rd_or ?_) | (with_reducible refine rd_ifE ?_)
  | (with_reducible refine rd_par ?_) | ((with_reducible refine rd_par2 (σ' := ?ss) ?hs ?_); (case hs => (dsimp only [List.set]; exact rfl)))
  | (with_reducible refine rd_gsub ?_) | (with_reducible refine rd_andV ?_) | (with_reducible refine rd_orV ?_) | (with_reducible refine rd_notV ?_)
  | (with_reducible refine rd_lc ?_) | (with_reducible refine rd_iTup ?_) | (with_reducible refine rd_iList ?_) | (with_reducible refine rd_iRng1 ?_) | (with_reducible refine rd_iRng2 ?_) | (with_reducible refine rd_iEnumT ?_) | (with_reducible refine rd_iEnum ?_) | (with_reducible refine rd_iZipM ?_) | (with_reducible refine rd_iEnumS ?_) | (with_reducible refine rd_iKeys ?_) | (with_reducible refine rd_din ?_) | (with_reducible refine rd_dnotin ?_)
  | (with_reducible refine rd_yes ?_) | (with_reducible refine rd_true ?_) | (with_reducible refine rd_false ?_) | (with_reducible refine rd_m1 ?_) | (with_reducible refine rd_isS ?_)
  | ((with_reducible refine rd_eq ?hs ?_); (case hs => exact rfl)) | ((with_reducible refine rd_ne ?hs ?_); (case hs => exact rfl))
  | (with_reducible refine rd_listRg ?_) | (with_reducible refine rd_rg2 ?_) | (with_reducible refine rd_rgk ?_)
  | (with_reducible refine rd_dnew ?_) | (with_reducible refine rd_ddel ?_) | (with_reducible refine rd_kw ?_) | (with_reducible refine rd_callS ?_) | (with_reducible refine rd_dc ?_) | (with_reducible refine rd_for ?_) | (with_reducible refine rd_tru ?_) | (with_reducible refine rd_truI ?_)
  | (with_reducible refine rd_nil ?_) | (with_reducible refine rd_cons ?_) | (with_reducible refine rd_call ?_) | (with_reducible refine rd_cb ?_)
  | (with_reducible refine rd_tup ?_) | (with_reducible refine rd_lst ?_) | (with_reducible refine rd_dget ?_) | (with_reducible refine rd_dput ?_) | (with_reducible refine rd_dget2 ?_) | (with_reducible refine rd_sl ?_)
  | (with_reducible refine rd_nopart ?_) | (with_reducible refine rd_part ?_) | (with_reducible refine rd_parti ?_) | (with_reducible refine rd_bm ?_) | (with_reducible refine rd_bm0 ?_)
  | (with_reducible refine rd_int ?_) | (with_reducible refine rd_intb ?_) | (with_reducible refine rd_abs ?_) | (with_reducible refine rd_min2 ?_) | (with_reducible refine rd_max2 ?_))
local macro_rules | `(tactic| walk_at "rqs") => `(tactic| repeat (walk_at "rq"))
local macro_rules | `(tactic| walk_at "rv") => `(tactic| first
  | (with_reducible refine rd_seq ?_) | (with_reducible refine rd_asg ?_) | (with_reducible refine rd_ret ?_) | (with_reducible refine rd_next ?_)
  | (with_reducible refine rd_drop ?_) | ((with_reducible refine rd_name (σ' := ?ss) ?hs ?_); (case hs => (dsimp only [List.set]; exact rfl)))
  | ((with_reducible refine rd_var (v := ?vv) ?hv ?_); (case hv => exact rfl)) | (with_reducible refine rd_c ?_) | (with_reducible refine rd_op ?_) | (with_reducible refine rd_un ?_)
  | (with_reducible refine rd_I0 ?_) | (with_reducible refine rd_U ?_) | (with_reducible refine rd_test ?_) | (with_reducible refine rd_B ?_) | (with_reducible refine rd_k ?_)
  | (with_reducible refine rd_not ?_) | (with_reducible refine rd_and ?_) | (with_reducible refine rd_or ?_)
  | (with_reducible refine rd_par ?_) | ((with_reducible refine rd_par2 (σ' := ?ss) ?hs ?_); (case hs => (dsimp only [List.set]; exact rfl)))
  | (with_reducible refine rd_gsub ?_) | (with_reducible refine rd_andV ?_) | (with_reducible refine rd_orV ?_) | (with_reducible refine rd_notV ?_)
  | (with_reducible refine rd_lc ?_) | (with_reducible refine rd_iTup ?_) | (with_reducible refine rd_iList ?_) | (with_reducible refine rd_iRng1 ?_) | (with_reducible refine rd_iRng2 ?_) | (with_reducible refine rd_iEnumT ?_) | (with_reducible refine rd_iEnum ?_) | (with_reducible refine rd_iZipM ?_) | (with_reducible refine rd_iEnumS ?_) | (with_reducible refine rd_iKeys ?_) | (with_reducible refine rd_din ?_) | (with_reducible refine rd_dnotin ?_)
  | (with_reducible refine rd_yes ?_) | (with_reducible refine rd_true ?_) | (with_reducible refine rd_false ?_) | (with_reducible refine rd_m1 ?_) | (with_reducible refine rd_isS ?_)
  | ((with_reducible refine rd_eq ?hs ?_); (case hs => exact rfl)) | ((with_reducible refine rd_ne ?hs ?_); (case hs => exact rfl))
  | (with_reducible refine rd_listRg ?_) | (with_reducible refine rd_rg2 ?_) | (with_reducible refine rd_rgk ?_)
  | (with_reducible refine rd_dnew ?_) | (with_reducible refine rd_ddel ?_) | (with_reducible refine rd_kw ?_) | (with_reducible refine rd_callS ?_) | (with_reducible refine rd_dc ?_) | (with_reducible refine rd_for ?_) | (with_reducible refine rd_tru ?_) | (with_reducible refine rd_truI ?_)
  | (with_reducible refine rd_nil ?_) | (with_reducible refine rd_cons ?_) | (with_reducible refine rd_call ?_) | (with_reducible refine rd_cb ?_)
  | (with_reducible refine rd_tup ?_) | (with_reducible refine rd_lst ?_) | (with_reducible refine rd_dget ?_) | (with_reducible refine rd_dput ?_) | (with_reducible refine rd_dget2 ?_) | (with_reducible refine rd_sl ?_)
  | (with_reducible refine rd_nopart ?_) | (with_reducible refine rd_part ?_) | (with_reducible refine rd_parti ?_) | (with_reducible refine rd_bm ?_) | (with_reducible refine rd_bm0 ?_)
  | (with_reducible refine rd_int ?_) | (with_reducible refine rd_intb ?_) | (with_reducible refine rd_abs ?_) | (with_reducible refine rd_min2 ?_) | (with_reducible refine rd_max2 ?_))
local macro_rules | `(tactic| walk_at "rvs") => `(tactic| repeat (walk_at "rv"))

theorem held_s {z : Str} {x : Nat} : heldBy z "s" (x : Int) = decide (z.cps.toList.getD (x - 1) 0 = 115) := by
  unfold heldBy sgn
  rw [Int.natAbs_natCast]
  refine decide_eq_decide.mpr ⟨fun h => ?_, fun h => by rw [h] <;> rfl⟩
  injection h with h
  have : (⟨#[z.cps.toList.getD (x - 1) 0]⟩ : Str).cps = (⟨#[115]⟩ : Str).cps := congrArg Str.cps h
  have h2 : #[z.cps.toList.getD (x - 1) 0] = #[115] := this
  injection h2 with h2
  injection h2 with h2 _
/-- a literal under its name -/
def ren (nm : List Nat) (x : Int) : Int := if 0 < x then ((nm.getD (x.natAbs - 1) 0 : Nat) : Int) else -((nm.getD (x.natAbs - 1) 0 : Nat) : Int)
theorem ren_abs (nm : List Nat) (x : Int) : (ren nm x).natAbs = nm.getD (x.natAbs - 1) 0 := by
  unfold ren
  split <;> omega
theorem getD_lt {nm : List Nat} (h : nm.Pairwise (· < ·)) {i j : Nat} (hij : i < j) (hj : j < nm.length) : nm.getD i 0 < nm.getD j 0 := by
  rw [List.getD_eq_getElem?_getD, List.getD_eq_getElem?_getD, List.getElem?_eq_getElem hj, List.getElem?_eq_getElem (by omega : i < nm.length)]
  exact List.pairwise_iff_getElem.mp h i j _ _ hij
theorem ren_row {n m : Nat} {nm : List Nat} {r : List Int} (h : nm.Pairwise (· < ·)) (hl : nm.length = m) (hg : ∀ g ∈ nm, 1 ≤ g ∧ g ≤ n) (hr : Ea.Row m r) : Ea.Row n (r.map (ren nm)) := by
  refine ⟨?_, fun y hy => ?_⟩
  · rw [List.pairwise_map]
    refine List.Pairwise.imp_of_mem (fun {x y} hx hy q => ?_) hr.1
    have a := hr.2 x hx
    have b := hr.2 y hy
    rw [ren_abs, ren_abs]
    exact getD_lt h (by omega) (by omega)
  · obtain ⟨x, hx, rfl⟩ := List.mem_map.mp hy
    have a := hr.2 x hx
    rw [ren_abs]
    refine hg _ ?_
    rw [List.getD_eq_getElem?_getD, List.getElem?_eq_getElem (by omega : x.natAbs - 1 < nm.length)]
    exact List.getElem_mem _
theorem ren_true {nm : List Nat} {p : List Int} {x : Int} (hg : ∀ g ∈ nm, 1 ≤ g ∧ g ≤ p.length) (hp : PlayOk p) (h1 : 1 ≤ x.natAbs) (h2 : x.natAbs ≤ nm.length) : trueIn p (ren nm x) = trueIn (rs nm p) x := by
  have hj : x.natAbs - 1 < nm.length := by omega
  have hgg := hg _ (List.getElem_mem hj)
  have eg : nm.getD (x.natAbs - 1) 0 = nm[x.natAbs - 1] := by rw [List.getD_eq_getElem?_getD, List.getElem?_eq_getElem hj] <;> rfl
  have ers : (rs nm p).getD (x.natAbs - 1) 0 = if ((nm[x.natAbs - 1] : Nat) : Int) ∈ p then ((x.natAbs - 1 : Nat) : Int) + 1 else -(((x.natAbs - 1 : Nat) : Int) + 1) := by
    unfold rs
    rw [knw_all (fun g h => (hg g h).2), List.getD_eq_getElem?_getD, List.getElem?_mapIdx, List.getElem?_eq_getElem hj] <;> rfl
  have erl : (rs nm p).length = nm.length := by rw [rs_len, knw_all (fun g h => (hg g h).2)]
  unfold trueIn
  rw [ren_abs, eg, erl, ers, decide_eq_true (by omega : nm[x.natAbs - 1] ≤ p.length), decide_eq_true h2, Bool.true_and, Bool.true_and]
  have hpl : nm[x.natAbs - 1] - 1 < p.length := by omega
  have hpg : p.getD (nm[x.natAbs - 1] - 1) 0 = p[nm[x.natAbs - 1] - 1] := by rw [List.getD_eq_getElem?_getD, List.getElem?_eq_getElem hpl] <;> rfl
  have hpa := hp _ _ (List.getElem?_eq_getElem hpl)
  have hmem : ((nm[x.natAbs - 1] : Nat) : Int) ∈ p ↔ p[nm[x.natAbs - 1] - 1] = ((nm[x.natAbs - 1] : Nat) : Int) := by
    constructor
    · intro h
      obtain ⟨i, hi⟩ := List.mem_iff_getElem?.mp h
      have h3 := hp i _ hi
      have h4 : i = nm[x.natAbs - 1] - 1 := by omega
      subst h4
      rw [List.getElem?_eq_getElem hpl] at hi
      exact Option.some.inj hi
    · intro h
      have h3 := List.getElem_mem hpl
      rw [h] at h3
      exact h3
  rw [hpg]
  generalize p[nm[x.natAbs - 1] - 1] = v at hpa hmem ⊢
  generalize nm[x.natAbs - 1] = g at hgg eg hpa hmem ⊢
  refine decide_eq_decide.mpr ?_
  unfold ren
  rw [eg]
  by_cases c : ((g : Nat) : Int) ∈ p
  · have hv := hmem.mp c
    rw [if_pos c, hv]
    split <;> omega
  · have hv : v ≠ (g : Int) := fun e => c (hmem.mpr e)
    rw [if_neg c]
    split <;> omega
/-- all rows, renamed -/
def renR (pts : List Pt) (ts : List Nat) (a : Nat) : List (List Int) := (pts.getD a pt0).R.map fun r => r.map (ren (nmOf ts a))
def rall (pts : List Pt) (ts : List Nat) (i : Nat) : List (List Int) := ((List.range i).map (renR pts ts)).flatten
theorem rall_succ (pts : List Pt) (ts : List Nat) (i : Nat) : rall pts ts (i + 1) = rall pts ts i ++ renR pts ts i := by
  unfold rall
  rw [List.range_succ, List.map_append, List.flatten_append] <;> simp
theorem rall_len {pts : List Pt} (h : ∀ p ∈ pts, PtOk p) (ts : List Nat) : ∀ i, i ≤ pts.length → (rall pts ts i).length ≤ 4 * i
  | 0, _ => Nat.zero_le _
  | i + 1, hi => by
    have ih := rall_len h ts i (by omega)
    have := (h _ (pt_mem (pts := pts) (j := i) (by omega))).2.2.2.2
    rw [rall_succ, List.length_append]
    unfold renR
    rw [List.length_map]
    omega
theorem rall_mem {pts : List Pt} {ts : List Nat} {i : Nat} {r : List Int} (h : r ∈ rall pts ts i) : ∃ a s, a < i ∧ s ∈ (pts.getD a pt0).R ∧ r = s.map (ren (nmOf ts a)) := by
  unfold rall at h
  obtain ⟨l, hl, hr⟩ := List.mem_flatten.mp h
  obtain ⟨a, ha, rfl⟩ := List.mem_map.mp hl
  obtain ⟨s, hs, rfl⟩ := List.mem_map.mp hr
  exact ⟨a, s, List.mem_range.mp ha, hs, rfl⟩
theorem rall_all (pts : List Pt) (ts : List Nat) (f : List Int → Bool) : ∀ i, (rall pts ts i).all f = (List.range i).all fun a => (renR pts ts a).all f
  | 0 => rfl
  | i + 1 => by rw [rall_succ, List.all_append, rall_all pts ts f i, List.range_succ, List.all_append] <;> simp
theorem nmOf_grow (a : Nat) : ∀ (vs us : List Nat), (nmOf us a).length ≤ (nmOf (us ++ vs) a).length
  | [], us => by rw [List.append_nil]; exact Nat.le_refl _
  | v :: vs, us => by
    have h := nmOf_grow a vs (us ++ [v])
    rw [List.append_assoc, List.singleton_append] at h
    refine Nat.le_trans ?_ h
    rw [nmOf_snoc, List.length_append]
    exact Nat.le_add_right _ _
theorem getD_mem {l : List Nat} {i : Nat} (h : i < l.length) : l.getD i 0 ∈ l := by
  rw [List.getD_eq_getElem?_getD, List.getElem?_eq_getElem h]
  exact List.getElem_mem _
/-- the owners, as far as they are told -/
structure Ows (pts : List Pt) (us : List Nat) (z : Str) : Prop where
  len : z.cps.toList.length = us.length
  es : ∀ c ∈ z.cps.toList, c = 101 ∨ c = 115
  at' : ∀ a, a < pts.length → ∀ (j g : Nat), (nmOf us a)[j]? = some g → z.cps.toList.getD (g - 1) 0 = (pts.getD a pt0).z.cps.toList.getD j 0
theorem Ows.nil {pts : List Pt} : Ows pts [] "" := ⟨rfl, nofun, fun a _ j g h => by rw [nmOf_nil] at h; simp at h⟩
theorem one_cps (z : Str) (c : Nat) : (z ++ (⟨#[c]⟩ : Str)).cps.toList = z.cps.toList ++ [c] := by rw [Str.cps_append, Array.toList_append]
theorem Ows.snoc {pts : List Pt} {us : List Nat} {z : Str} {t : Nat} (h : Ows pts us z) (ht : t < pts.length) (pok : PtOk (pts.getD t pt0)) (hl : (nmOf us t).length < (pts.getD t pt0).n) :
    Ows pts (us ++ [t]) (z ++ (⟨#[(pts.getD t pt0).z.cps.toList.getD (nmOf us t).length 0]⟩ : Str)) := by
  have hzl : (pts.getD t pt0).z.cps.toList.length = (pts.getD t pt0).n := pok.1.1
  refine ⟨by rw [one_cps, List.length_append, h.len, List.length_append] <;> rfl, fun c hc => ?_, fun a ha j g hg => ?_⟩
  · rw [one_cps] at hc
    rcases List.mem_append.mp hc with hc | hc
    · exact h.es c hc
    · rw [List.mem_singleton.mp hc]
      exact pok.1.2 _ (getD_mem (by omega))
  · rw [one_cps]
    rw [nmOf_snoc] at hg
    by_cases c : j < (nmOf us a).length
    · rw [List.getElem?_append_left c] at hg
      have hm := nmOf_mem.mp (List.mem_of_getElem? hg)
      rw [getD_pre (by rw [h.len]; omega)]
      exact h.at' a ha j g hg
    · rw [List.getElem?_append_right (by omega)] at hg
      by_cases c2 : t = a
      · subst c2
        rw [if_pos rfl] at hg
        have hj : j - (nmOf us t).length = 0 := by
          have := (List.getElem?_eq_some_iff.mp hg).1
          rw [List.length_singleton] at this
          omega
        rw [hj] at hg
        have e : us.length + 1 = g := Option.some.inj hg
        subst e
        rw [Nat.add_sub_cancel, ← h.len, getD_end, show j = (nmOf us t).length by omega]
      · rw [if_neg c2] at hg
        simp at hg
/-- the parts with their names -/
def named (pts : List Pt) (ts : List Nat) : List Pt := (List.range pts.length).map fun a => ⟨(pts.getD a pt0).n, (pts.getD a pt0).z, (pts.getD a pt0).R, nmOf ts a⟩
theorem named_wov {pts : List Pt} {ts : List Nat} {z : Str} {R : List (List Int)} (pok : ∀ p ∈ pts, PtOk p) (ht : ∀ t ∈ ts, t < pts.length) (heq : ∀ a, a < pts.length → (nmOf ts a).length = (pts.getD a pt0).n) (ow : Ows pts ts z) (pm : R.Perm (rall pts ts pts.length)) :
    Wov ts.length z R (named pts ts) := by
  have mem : ∀ q ∈ named pts ts, ∃ a, a < pts.length ∧ q = ⟨(pts.getD a pt0).n, (pts.getD a pt0).z, (pts.getD a pt0).R, nmOf ts a⟩ := fun q hq => by
    obtain ⟨a, ha, rfl⟩ := List.mem_map.mp hq
    exact ⟨a, List.mem_range.mp ha, rfl⟩
  have rng : ∀ a, ∀ g ∈ nmOf ts a, 1 ≤ g ∧ g ≤ ts.length := fun a g hg => ⟨(nmOf_mem.mp hg).1, (nmOf_mem.mp hg).2.1⟩
  refine ⟨fun r hr => ?_, fun q hq => ?_, fun q hq => ?_, fun q hq => ?_, fun q hq => ?_, fun g g1 gn => ?_, fun q hq j g hg => ?_, fun p hp hpl => ?_⟩
  · obtain ⟨a, s, ha, hs, rfl⟩ := rall_mem (pm.mem_iff.mp hr)
    exact ren_row (nmOf_asc ts a) (heq a ha) (rng a) ((pok _ (pt_mem ha)).2.2.2.1 s hs)
  · obtain ⟨a, ha, rfl⟩ := mem q hq
    exact (pok _ (pt_mem ha)).2.2.2.1
  · obtain ⟨a, ha, rfl⟩ := mem q hq
    exact nmOf_asc ts a
  · obtain ⟨a, ha, rfl⟩ := mem q hq
    exact heq a ha
  · obtain ⟨a, ha, rfl⟩ := mem q hq
    exact rng a
  · have htk : ts.getD (g - 1) 0 < pts.length := by
      rw [List.getD_eq_getElem?_getD, List.getElem?_eq_getElem (by omega)]
      exact ht _ (List.getElem_mem _)
    obtain ⟨s1, s2, e⟩ := List.append_of_mem (List.mem_range.mpr htk)
    have nd : (List.range pts.length).Nodup := List.nodup_range
    rw [e, List.nodup_append] at nd
    have n2 := List.nodup_cons.mp nd.2.1
    refine ⟨s1.map fun a => ⟨(pts.getD a pt0).n, (pts.getD a pt0).z, (pts.getD a pt0).R, nmOf ts a⟩, _, s2.map fun a => ⟨(pts.getD a pt0).n, (pts.getD a pt0).z, (pts.getD a pt0).R, nmOf ts a⟩, by unfold named; rw [e, List.map_append, List.map_cons], nmOf_mem.mpr ⟨g1, gn, rfl⟩, fun r hr hg => ?_, fun r hr hg => ?_⟩
    · obtain ⟨a, ha, rfl⟩ := List.mem_map.mp hr
      have := (nmOf_mem.mp hg).2.2
      exact nd.2.2 a ha a (by rw [← this]; exact List.mem_cons_self) rfl
    · obtain ⟨a, ha, rfl⟩ := List.mem_map.mp hr
      have := (nmOf_mem.mp hg).2.2
      rw [this] at n2
      exact n2.1 ha
  · obtain ⟨a, ha, rfl⟩ := mem q hq
    have h := ow.at' a ha j g hg
    have e : ((j : Int) + 1) = ((j + 1 : Nat) : Int) := by omega
    show _ = heldBy (pts.getD a pt0).z "s" ((j : Int) + 1)
    rw [e, held_s, held_s, Nat.add_sub_cancel, h]
  · have e1 : resB p R = resB p (rall pts ts pts.length) := by
      unfold resB
      rw [Bool.eq_iff_iff, List.all_eq_true, List.all_eq_true]
      exact ⟨fun a x hx => a x (pm.mem_iff.mpr hx), fun a x hx => a x (pm.mem_iff.mp hx)⟩
    rw [e1]
    unfold resB named
    rw [rall_all, List.all_map]
    refine all_same fun a ha => ?_
    have ha := List.mem_range.mp ha
    show (renR pts ts a).all _ = (pts.getD a pt0).R.all fun r => r.any (trueIn (rs (nmOf ts a) p))
    unfold renR
    rw [List.all_map]
    refine all_same fun r hr => ?_
    show (r.map (ren (nmOf ts a))).any (trueIn p) = _
    rw [List.any_map]
    have hrow := (pok _ (pt_mem ha)).2.2.2.1 r hr
    rw [Bool.eq_iff_iff, List.any_eq_true, List.any_eq_true]
    have e : ∀ x ∈ r, (trueIn p ∘ ren (nmOf ts a)) x = trueIn (rs (nmOf ts a) p) x := fun x hx => ren_true (fun g hg => by rw [hpl]; exact rng a g hg) hp (hrow.2 x hx).1 (by rw [heq a ha]; exact (hrow.2 x hx).2)
    exact ⟨fun ⟨x, hx, tx⟩ => ⟨x, hx, by rw [← e x hx]; exact tx⟩, fun ⟨x, hx, tx⟩ => ⟨x, hx, by rw [e x hx]; exact tx⟩⟩
theorem dpAll_perm {K : PySem.W.Frag} {H : Hp} : ∀ {ms ys : List V}, ms.Perm ys → ∀ {rr : List (List Int)}, DpAll K H ys (rr.map dR) → ∃ R : List (List Int), R.Perm rr ∧ DpAll K H ms (R.map dR) := by
  intro ms ys h
  induction h with
  | nil => exact fun {rr} h => ⟨rr, .refl _, h⟩
  | cons x p ih =>
    intro rr h
    cases rr with
    | nil => cases h
    | cons r t =>
      cases h with
      | cons h1 h2 =>
        obtain ⟨R, p2, h3⟩ := ih h2
        exact ⟨r :: R, p2.cons r, .cons h1 h3⟩
  | swap x y l =>
    intro rr h
    match rr, h with
    | a :: b :: t, .cons h1 (.cons h2 h3) => exact ⟨b :: a :: t, .swap a b t, .cons h2 (.cons h1 h3)⟩
  | trans p1 p2 i1 i2 =>
    intro rr h
    obtain ⟨R, p3, h3⟩ := i2 h
    obtain ⟨R2, p4, h4⟩ := i1 h3
    exact ⟨R2, p4.trans p3, h4⟩
/-- the names as values, none changed any more -/
def NmV (d l : Addr) (H : Hp) (ns : List V) (k : Nat) (ts : List Nat) : Prop := ns.length = k ∧ ∀ a, a < k → ∃ b : Addr, ns.getD a .non = .ref b ∧ b ≠ d ∧ b ≠ l ∧ H b = some (.lst ((nmOf ts a).map fun (g : Nat) => V.int (g : Int)))
theorem NmV.gl {d l : Addr} {H H' : Hp} {ns : List V} {k : Nat} {ts : List Nat} (g : Gl d l H H') (h : NmV d l H ns k ts) : NmV d l H' ns k ts := ⟨h.1, fun a ha => by
  obtain ⟨b, h1, h2, h3, h4⟩ := h.2 a ha
  exact ⟨b, h1, h2, h3, g.kp b _ h2 h3 h4⟩⟩
/-- how far each part has been told -/
def cnts (pts : List Pt) (us : List Nat) : List V := (List.range pts.length).map fun a => V.int ((nmOf us a).length : Int)
theorem cnts_get {pts : List Pt} {us : List Nat} {a : Nat} (h : a < pts.length) : (cnts pts us)[a]? = some (V.int ((nmOf us a).length : Int)) := by
  unfold cnts
  rw [List.getElem?_map, List.getElem?_range h] <;> rfl
theorem cnts_len {pts : List Pt} {us : List Nat} : (cnts pts us).length = pts.length := by
  unfold cnts
  rw [List.length_map, List.length_range]
theorem cnts_set {pts : List Pt} {us : List Nat} {a : Nat} (h : a < pts.length) : (cnts pts us).set a (V.int (((nmOf us a).length : Int) + 1)) = cnts pts (us ++ [a]) := by
  refine List.ext_getElem? fun i => ?_
  rw [List.getElem?_set]
  by_cases c : a = i
  · subst c
    rw [if_pos rfl, if_pos (by rw [cnts_len]; exact h), cnts_get h, nmOf_snoc, if_pos rfl, List.length_append, List.length_singleton] <;> rfl
  · rw [if_neg c]
    by_cases c2 : i < pts.length
    · rw [cnts_get c2, cnts_get c2, nmOf_snoc, if_neg c, List.append_nil]
    · rw [List.getElem?_eq_none (by rw [cnts_len]; omega), List.getElem?_eq_none (by rw [cnts_len]; omega)]
theorem cnts_nil (pts : List Pt) : (List.replicate pts.length [V.int 0]).flatten = cnts pts [] := by
  unfold cnts
  generalize pts.length = k
  induction k with
  | zero => rfl
  | succ k ih =>
    rw [List.replicate_succ', List.flatten_append, ih, List.range_succ, List.map_append] <;> rfl
theorem getD_some {l : List Nat} {i : Nat} (h : i < l.length) : l[i]? = some (l.getD i 0) := by
  rw [List.getD_eq_getElem?_getD, List.getElem?_eq_getElem h] <;> rfl
theorem tup_kp {K : PySem.W.Frag} {H H' : Hp} {RL a : Addr} {ys xs : List V} (hR : H RL = some (.lst ys)) (kp : ∀ p u, p ≠ RL → H p = some u → H' p = some u) (s : SqT K H a xs) : SqT K H' a xs := by
  rcases s with (s | ⟨o, s⟩) | s
  · exact .inl (.inl (kp _ _ (fun z => by rw [z, hR] at s; cases s) s))
  · exact .inl (.inr ⟨o, kp _ _ (fun z => by rw [z, hR] at s; cases s) s⟩)
  · exact .inr s
theorem none_back {H H' : Hp} (e : Evl.Ex H H') {a : Addr} (h : H' a = none) : H a = none := by
  cases z : H a with
  | none => rfl
  | some o =>
    rw [e _ _ z] at h
    cases h
section
variable {P : Program} {w : World} {K : PySem.W.Frag} {mg : Str → Option Value} {base : Heap}
def spPut (K : PySem.W.Frag) : Sp := fun vs H Q _ => ∃ (d l PL TA N : Addr) (ws : List V) (cs : List Addr) (pts : List Pt) (ts : List Nat) (ns : List V), vs = [.ref d, .ref PL, .ref TA, .ref N] ∧ DeckL d l H ∧ H PL = some (.lst ws) ∧ PL ≠ d ∧ PL ≠ l ∧ Sens K H ws cs pts ∧ (∀ p ∈ pts, PtOk p) ∧
  tot pts ≤ 12 ∧ H TA = some (.lst (ts.map fun (t : Nat) => V.int (t : Int))) ∧ TA ≠ d ∧ TA ≠ l ∧ H N = some (.lst ns) ∧ N ≠ d ∧ N ≠ l ∧ NmV d l H ns pts.length ts ∧ (∀ t ∈ ts, t < pts.length) ∧ ts.length = tot pts ∧ (∀ a, a < pts.length → (nmOf ts a).length = (pts.getD a pt0).n) ∧
  ∀ (o : Addr) (z : Str) (R : List (List Int)) (H' : Hp), Gl d l H H' → Sen K H' ts.length o z R → Wov ts.length z R (named pts ts) → Q (.ref o) H'
theorem ok_put {f fM : Addr} {fd fdM : FuncData} (F : Fun K "_law_put" "_law_put" s_law_put f fd) (T : Bl mg)
    (G_law_mixed : FnOk P w K mg base CX0 2 fM fdM ["deck", "items"] (spMixedV K)) (C_law_mixed : Callee K mg "_law_mixed" fM fdM ["deck", "items"]) :
    FnOk P w K mg base CX0 3 f fd ["deck", "parts", "turns", "names"] (spPut K) := by
  refine F.ok sc_law_put (fun vs H Q E h => ?_) (fun cdv A outer s H vs Q E hr h => ?_)
  · obtain ⟨d, l, PL, TA, N, ws, cs, pts, ts, ns, rfl, _⟩ := h
    rfl
  · obtain ⟨d, l, PL, TA, N, ws, cs, pts, ts, ns, rfl, hD, hP, oP1, oP2, sens, pok, t12, hT, oT1, oT2, hN, oN1, oN2, nmv, ht, hts, heq, q⟩ := h
    refine ⟨_, (pss_cons (ps_par3 (i := 4) (j := 5) (l := 6) rfl sc_law_put.nd rfl rfl rfl (by decide) (by decide) (by decide) rfl rfl rfl (pa_cons pe_str (pa_cons (pe_lst pa_nil) (pa_cons (pe_op op_rep (pe_lst (pa_cons pe_int pa_nil)) (pe_callB (c_len (K := K) rfl) (by rfl) T.len (by decide +kernel) (pa_cons (pv 1) pa_nil))) pa_nil))) (by rfl))
 (pss_cons (ps_for PassesOwn.never rfl (ik_listI (K := K) rfl (pv 2)) (pg_name (i := 7) sc_law_put.nd rfl (Or.inl rfl)) (pss_cons (ps_set (i := 4) sc_law_put.nd rfl (Or.inl rfl) (pe_op op_addSt (pv 4) (pe_ix ix_str (pe_ix (ik_tup (K := K) rfl) (pe_ix (ik_list (K := K) rfl) (pv 1) (pv 7) (fun _ _ => rfl)) pe_int (fun _ _ => rfl)) (pe_ix (ik_list (K := K) rfl) (pv 6) (pv 7) (fun _ _ => rfl)) (fun _ _ => rfl))))
 (pss_one (ps_asg (pe_op op_add (pe_ix (ik_list (K := K) rfl) (pv 6) (pv 7) (fun _ _ => rfl)) pe_int) (pg_sub (pv 6) (pv 7) set_list)))))
 (pss_cons (ps_for PassesOwn.never rfl (pi_zipK (K := K) rfl (by rfl) T.zip (pa_cons (pv 1) (pa_cons (pv 3) pa_nil))) (pgk_tup (K := K) rfl rfl (pgs_cons (pgk_tup (K := K) rfl rfl (pgs_cons (pg_name (i := 8) sc_law_put.nd rfl (Or.inl rfl)) (pgs_cons (pg_name (i := 9) sc_law_put.nd rfl (Or.inl rfl)) pgs_nil))) (pgs_cons (pg_name (i := 10) sc_law_put.nd rfl (Or.inr rfl)) pgs_nil))) (pss_one (ps_for PassesOwn.never rfl (ik_tupI (K := K) rfl (pv 9)) (pg_name (i := 11) sc_law_put.nd rfl (Or.inl rfl)) (pss_one (ps_expr (pe_bm PySem.F.plainAttrs_list PySem.F.slot_list_append PySem.F.type_list_append mt_append (pv 5) (pa_cons (pe_callTy (c_tuple (K := K) rfl) (by rfl) T.tuple (by decide +kernel) (pa_cons (pe_lc (own := [("x", 12)]) (g := gName 12) rfl sc_law_put.nd (ik_tupI (K := K) rfl (pv 11)) (blkOk_by (own := [("x", 12)]) (N := ["deck", "parts", "turns", "names", "owners", "rows", "counts", "at", "own", "clauses", "letters", "row", "x"]) (sc := defScope s_law_put) (by decide +kernel)) (fun _ _ _ _ _ => (pg_name (i := 12) sc_law_put.nd rfl (Or.inl rfl))) (fun _ _ _ _ _ => pts_nil) (fun _ _ _ _ _ => (pe_ifExp (pt_cmpR op_gt (pv 12) pe_int (nomark _)) (pe_ix (ik_list (K := K) rfl) (pv 10) (pe_op op_sub (pv 12) pe_int) (fun _ _ => rfl)) (pe_un un_neg (pe_ix (ik_list (K := K) rfl) (pv 10) (pe_op op_sub (pe_un un_neg (pv 12)) pe_int) (fun _ _ => rfl)))))) pa_nil)) pa_nil)))))))
 (pss_one (ps_ret (pe_tup (pa_cons (pv 4) (pa_cons (pe_callTy (c_tuple (K := K) rfl) (by rfl) T.tuple (by decide +kernel) (pa_cons (pe_call G_law_mixed (hr.mono (by decide)) (by rfl) C_law_mixed.m C_law_mixed.k C_law_mixed.b .nil pass0 (pa_cons (pv 0) (pa_cons (pv 5) pa_nil))) pa_nil)) pa_nil)))))))), ?_⟩
    refine rd_start (σ' := [some (.ref d), some (.ref PL), some (.ref TA), some (.ref N), none, none, none, none, none, none, none, none, none]) rfl ?_
    have lp := pt_len pok
    walk_at "rvs"
    refine rd_par3 ?_
    walk_at "rvs"
    refine ⟨Nat.zero_le _, fun RL hRL => ?_⟩
    have e1 := Evl.Ex.new (o := .lst []) hRL
    walk_at "rvs"
    refine ⟨(by show 1 ≤ sizeLine; decide), fun c1 hc1 => ?_⟩
    have e2 := e1.trans (Evl.Ex.new (o := .lst [V.int 0]) hc1)
    walk_at "rvs"
    refine rd_lenL (SqL.of (e2 _ _ hP)) ?_
    refine rd_mulL upd_same (by rw [sens.1]; omega) (by rw [Int.toNat_natCast, sens.1, sizeLine_eq]; show 1 * _ ≤ _; omega) fun CL hCL => ?_
    rw [Int.toNat_natCast, sens.1, cnts_nil]
    have e3 := e2.trans (Evl.Ex.new (o := .lst (cnts pts [])) hCL)
    have g3 := Gl.ex e3 hD
    have eCL := none_back e2 hCL
    have nRC : RL ≠ CL := fun z => by
      rw [← z, (Evl.Ex.new hc1) _ _ (upd_same (H := H) (a := RL) (o := .lst []))] at hCL
      cases hCL
    have hC3 : (upd (upd (upd H RL (.lst [])) c1 (.lst [V.int 0])) CL (.lst (cnts pts []))) CL = some (.lst (cnts pts [])) := upd_same
    have hR3 : (upd (upd (upd H RL (.lst [])) c1 (.lst [V.int 0])) CL (.lst (cnts pts []))) RL = some (.lst []) := (Evl.Ex.new hCL) _ _ ((Evl.Ex.new hc1) _ _ upd_same)
    generalize upd (upd (upd H RL (.lst [])) c1 (.lst [V.int 0])) CL (.lst (cnts pts [])) = H3 at g3 hC3 hR3 ⊢
    clear e3 hCL e2 hc1 e1
    walk_at "rvs"
    refine ⟨_, _, _, rfl, ?_⟩
    refine rd_start (σ' := [some (.ref d), some (.ref PL), some (.ref TA), some (.ref N), some (.str ""), some (.ref RL), some (.ref CL), none, none, none, none, none, none]) rfl ?_
    walk_at "rvs"
    refine rd_refL (SqL.of (g3.kp TA _ oT1 oT2 hT)) ?_
    refine fr_list (xs := ts.map fun (t : Nat) => V.int (t : Int)) (fun i σ' H' => ∃ (ow : Str) (x7 : Option V), σ' = [some (.ref d), some (.ref PL), some (.ref TA), some (.ref N), some (.str ow), some (.ref RL), some (.ref CL), x7, none, none, none, none, none] ∧ Gl d l H H' ∧ H' RL = some (.lst []) ∧ H' CL = some (.lst (cnts pts (ts.take i))) ∧ Ows pts (ts.take i) ow)
      ⟨"", none, rfl, g3, hR3, hC3, Ows.nil⟩ (fun i σ' H' _ ⟨_, _, _, g, _⟩ => SqL.of (g.kp TA _ oT1 oT2 hT)) (fun i x σ' H4 hi hP4 => ?_) fun σ' H4 hP4 => ?_
    · clear g3 hC3 hR3
      obtain ⟨ow, x7, rfl, g4, hR4, hC4, ows⟩ := hP4
      rw [List.getElem?_map] at hi
      obtain ⟨t, hti, rfl⟩ := Option.map_eq_some_iff.mp hi
      have htm := List.mem_of_getElem? hti
      have htk := ht t htm
      have htake : ts.take (i + 1) = ts.take i ++ [t] := by rw [List.take_add_one, hti] <;> rfl
      have pk := pok _ (pt_mem htk)
      have hlt : (nmOf (ts.take i) t).length < (pts.getD t pt0).n := by
        have h1 := nmOf_grow t (ts.drop (i + 1)) (ts.take (i + 1))
        rw [List.take_append_drop, heq t htk, htake, nmOf_snoc, if_pos rfl, List.length_append] at h1
        exact h1
      have hil := (List.getElem?_eq_some_iff.mp hti).1
      obtain ⟨a, xs, h0, h1, h2, h3⟩ := (sens.gl g4 hD).2.2 t htk
      have hw : ws[t]? = some (.ref a) := by
        rw [← h0, List.getD_eq_getElem?_getD, List.getElem?_eq_getElem (by rw [sens.1]; exact htk)] <;> rfl
      have hzl : (pts.getD t pt0).z.cps.toList.length = (pts.getD t pt0).n := pk.1.1
      refine rd_start (σ' := [some (.ref d), some (.ref PL), some (.ref TA), some (.ref N), some (.str ow), some (.ref RL), some (.ref CL), some (.int (t : Int)), none, none, none, none, none]) rfl ?_
      walk_at "rvs"
      refine rd_ixL (SqL.of (g4.kp PL _ oP1 oP2 hP)) (atI_nat hw) ?_
      walk_at "rvs"
      refine rd_ixT h1 rfl ?_
      walk_at "rvs"
      refine rd_ixL (SqL.of hC4) (atI_nat (cnts_get htk)) ?_
      refine rd_ixS (c := (pts.getD t pt0).z.cps.toList.getD (nmOf (ts.take i) t).length 0) (by rw [show (pts.getD t pt0).z.length = (pts.getD t pt0).n from pk.1.1, sizeLine_eq]; have := pk.2.2.1; omega) (atI_nat ?_) ?_
      · exact getD_some (by omega)
      refine rd_addSt ?_ ?_
      · have : ow.length = i := by
          have h4 := ows.len
          rw [List.length_take] at h4
          show ow.cps.toList.length = i
          omega
        rw [this, sizeLine_eq]
        show i + 1 ≤ _
        omega
      walk_at "rvs"
      refine rd_ixL (SqL.of hC4) (atI_nat (cnts_get htk)) ?_
      walk_at "rvs"
      refine ⟨CL, _, (t : Int), t, rfl, rfl, hC4, ?_, ?_⟩
      · unfold ixN
        rw [if_pos (by omega), if_pos (by rw [cnts_len]; omega), Int.toNat_natCast]
      rw [cnts_set htk]
      refine ⟨_, _, rfl, g4.mut hD eCL, (upd_ne nRC).trans hR4, ?_, ?_⟩
      · rw [upd_same, htake]
      · rw [htake]
        exact ows.snoc htk pk hlt
    clear g3 hC3 hR3
    obtain ⟨ow, x7, rfl, g4, hR4, hC4, ows⟩ := hP4
    rw [List.length_map, List.take_length] at ows
    walk_at "rvs"
    refine rd_iZipL ?_
    walk_at "rvs"
    refine ⟨PL, N, ws, ns, rfl, SqL.of (g4.kp PL _ oP1 oP2 hP), SqL.of (g4.kp N _ oN1 oN2 hN), ?_⟩
    refine fr_zipLN rfl (by rw [sens.1, nmv.1]) (fun i σ' H' => ∃ (x8 x9 xa xb : Option V) (ys : List V), σ' = [some (.ref d), some (.ref PL), some (.ref TA), some (.ref N), some (.str ow), some (.ref RL), some (.ref CL), x7, x8, x9, xa, xb, none] ∧ Gl d l H H' ∧ H' RL = some (.lst ys) ∧ DpAll K H' ys ((rall pts ts i).map dR))
      ⟨_, _, _, _, [], rfl, g4, hR4, .nil⟩ (fun i σ' H' ⟨_, _, _, _, _, _, g, _⟩ => ⟨SqL.of (g.kp PL _ oP1 oP2 hP), SqL.of (g.kp N _ oN1 oN2 hN)⟩) (fun i σ' H5 T0 hi hP5 hT0 => ?_) fun σ' H5 hP5 => ?_
    · clear g4 hR4 hC4
      obtain ⟨x8, x9, xa, xb, ys, rfl, g5, hR5, dys⟩ := hP5
      rw [sens.1] at hi
      have pk := pok _ (pt_mem hi)
      obtain ⟨a, xs, h0, h1, h2, h3⟩ := (sens.gl g5 hD).2.2 i hi
      obtain ⟨b, b1, b2, b3, b40⟩ := nmv.2 i hi
      have nbR : b ≠ RL := fun z => by rw [z, hRL] at b40; cases b40
      have b4 := g5.kp b _ b2 b3 b40
      rw [h0, b1]
      have e6 := Evl.Ex.new (o := .tup [V.ref a, .ref b]) hT0
      have g6 := g5.trans (Gl.ex e6 g5.dk)
      have hR6 := e6 _ _ hR5
      have dys6 := dpAll_ex e6 _ _ dys
      have h16 := Evl.ex_t e6 h1
      have h26 := Evl.ex_t e6 h2
      have h36 := dpAll_ex e6 _ _ h3
      have b46 := e6 _ _ b4
      generalize upd H5 T0 (.tup [V.ref a, .ref b]) = H6 at g6 hR6 dys6 h16 h26 h36 b46 ⊢
      clear e6 hT0 h1 h2 h3 b4 hR5 dys g5
      refine rd_gtup2 (x := .str (pts.getD i pt0).z) (y := .ref (cs.getD i 0)) h16 rfl (σ' := [some (.ref d), some (.ref PL), some (.ref TA), some (.ref N), some (.str ow), some (.ref RL), some (.ref CL), x7, some (.str (pts.getD i pt0).z), some (.ref (cs.getD i 0)), xa, xb, none]) rfl ⟨_, _, rfl, rfl, ?_⟩
      refine rd_start (σ' := [some (.ref d), some (.ref PL), some (.ref TA), some (.ref N), some (.str ow), some (.ref RL), some (.ref CL), x7, some (.str (pts.getD i pt0).z), some (.ref (cs.getD i 0)), some (.ref b), xb, none]) rfl ?_
      have lx : xs.length = (pts.getD i pt0).R.length := by rw [dpAll_len h36, List.length_map]
      have lr := rall_len pok ts i (by omega)
      walk_at "rvs"
      refine rd_ref h26 ?_
      refine fr_tup (xs := xs) (fun j σ' H' => ∃ (xb : Option V) (ys : List V), σ' = [some (.ref d), some (.ref PL), some (.ref TA), some (.ref N), some (.str ow), some (.ref RL), some (.ref CL), x7, some (.str (pts.getD i pt0).z), some (.ref (cs.getD i 0)), some (.ref b), xb, none] ∧ Gl d l H H' ∧ (∀ p u, p ≠ RL → H6 p = some u → H' p = some u) ∧ H' RL = some (.lst ys) ∧ DpAll K H' ys ((rall pts ts i ++ ((pts.getD i pt0).R.take j).map fun r => r.map (ren (nmOf ts i))).map dR))
        ⟨_, ys, rfl, g6, fun p u _ e => e, hR6, by rw [List.take_zero, List.map_nil, List.append_nil]; exact dys6⟩ (fun j σ' H' _ ⟨_, _, _, _, kp, _⟩ => ?_) (fun j x σ' H7 hj hP7 => ?_) fun σ' H7 hP7 => ?_
      · exact tup_kp hR6 kp h26
      · obtain ⟨xb, ys, rfl, g7, kp, hR7, dys7⟩ := hP7
        obtain ⟨dx, hdx, hDp⟩ := dpAll_get h36 hj
        rw [List.getElem?_map] at hdx
        obtain ⟨r, hrr, rfl⟩ := Option.map_eq_some_iff.mp hdx
        obtain ⟨b1, rfl, sb⟩ := dp_row hDp
        have sb7 := tup_kp hR6 kp sb
        have b47 := kp b _ nbR b46
        have rrow := pk.2.2.2.1 r (List.mem_of_getElem? hrr)
        have rl := rrow.length
        have hjl := (List.getElem?_eq_some_iff.mp hrr).1
        have pk4 := pk.2.2.2.2
        have pkn := pk.2.2.1
        have lys : ys.length ≤ 52 := by
          rw [dpAll_len dys7, List.length_map, List.length_append, List.length_map, List.length_take]
          omega
        refine rd_start (σ' := [some (.ref d), some (.ref PL), some (.ref TA), some (.ref N), some (.str ow), some (.ref RL), some (.ref CL), x7, some (.str (pts.getD i pt0).z), some (.ref (cs.getD i 0)), some (.ref b), some (.ref b1), none]) rfl ?_
        walk_at "rvs"
        refine rd_tyL hR7 ?_
        walk_at "rvs"
        refine rd_ref sb7 ?_
        refine lc_fmT (fun _ => true) (fun x => .int (ren (nmOf ts i) x)) (σx := fun x => [some (.ref d), some (.ref PL), some (.ref TA), some (.ref N), some (.str ow), some (.ref RL), some (.ref CL), x7, some (.str (pts.getD i pt0).z), some (.ref (cs.getD i 0)), some (.ref b), some (.ref b1), some x]) sb7 (by omega) (fun _ => rfl) (fun _ => rfl) (fun x hx H' Nx S e kN kS => ?_) fun D8 H8 e8 eD8 hD8 => ?_
        · have hx1 := rrow.2 x hx
          have hget : ((nmOf ts i).map fun (g : Nat) => V.int (g : Int))[x.natAbs - 1]? = some (V.int (((nmOf ts i).getD (x.natAbs - 1) 0 : Nat) : Int)) := by
            rw [List.getElem?_map, getD_some (by rw [heq i hi]; omega)] <;> rfl
          walk_at "rds"
          refine rd_ite (fun c => ?_) (fun c => ?_)
          · walk_at "rds"
            rw [show x - 1 = ((x.natAbs - 1 : Nat) : Int) by omega]
            refine rd_ixL (SqL.of (e _ _ b47)) (atI_nat hget) ?_
            have er : ren (nmOf ts i) x = (((nmOf ts i).getD (x.natAbs - 1) 0 : Nat) : Int) := if_pos c
            rw [← er]
            exact kN rfl _ (Evl.Ex.refl _)
          · walk_at "rds"
            rw [show -x - 1 = ((x.natAbs - 1 : Nat) : Int) by omega]
            refine rd_ixL (SqL.of (e _ _ b47)) (atI_nat hget) ?_
            walk_at "rds"
            have er : ren (nmOf ts i) x = -(((nmOf ts i).getD (x.natAbs - 1) 0 : Nat) : Int) := if_neg c
            rw [← er]
            exact kN rfl _ (Evl.Ex.refl _)
        rw [List.filter_eq_self.mpr (fun _ _ => rfl)] at hD8
        walk_at "rvs"
        refine rd_tupL (SqL.of hD8) fun o ho => ?_
        have e9 := e8.trans (Evl.Ex.new (o := .tup (r.map fun x => V.int (ren (nmOf ts i) x))) ho)
        have so9 : SqT K (upd H8 o (.tup (r.map fun x => V.int (ren (nmOf ts i) x)))) o ((r.map (ren (nmOf ts i))).map V.int) := by
          rw [List.map_map]
          exact SqT.of upd_same
        have hR9 := e9 _ _ hR7
        have dys9 := dpAll_ex e9 _ _ dys7
        have g9 := g7.trans (Gl.ex e9 g7.dk)
        generalize upd H8 o (.tup (r.map fun x => V.int (ren (nmOf ts i) x))) = H9 at e9 so9 hR9 dys9 g9 ⊢
        walk_at "rvs"
        refine rd_append hR9 (by omega) ?_
        walk_at "rvs"
        refine ⟨_, ys ++ [.ref o], rfl, g9.mut hD hRL, fun p u np e => ?_, upd_same, ?_⟩
        · rw [upd_ne np]
          exact e9 _ _ (kp p u np e)
        · have et : rall pts ts i ++ ((pts.getD i pt0).R.take (j + 1)).map (fun r => r.map (ren (nmOf ts i))) = (rall pts ts i ++ ((pts.getD i pt0).R.take j).map fun r => r.map (ren (nmOf ts i))) ++ [r.map (ren (nmOf ts i))] := by
            rw [List.take_add_one, hrr, List.map_append, List.append_assoc] <;> rfl
          rw [et]
          exact rows_upd hR9 (rows_app dys9 (dp_of_row so9))
      · obtain ⟨xb, ys, rfl, g7, kp, hR7, dys7⟩ := hP7
        rw [lx, List.take_length] at dys7
        exact ⟨_, _, _, _, ys, rfl, g7, hR7, by rw [rall_succ]; exact dys7⟩
    · clear g4 hR4 hC4
      obtain ⟨x8, x9, xa, xb, ys, rfl, g5, hR5, dys⟩ := hP5
      rw [sens.1] at dys
      have lr := rall_len pok ts pts.length (Nat.le_refl _)
      have lys : ys.length ≤ 48 := by
        rw [dpAll_len dys, List.length_map]
        omega
      walk_at "rvs"
      refine ⟨d, l, RL, ys, rfl, g5.dk, .inl (SqL.of hR5), by omega, fun o ms H6 g6 ho hms pm => ?_⟩
      obtain ⟨R, pmR, dms⟩ := dpAll_perm pm (Gl.rows g6 g5.dk dys)
      walk_at "rvs"
      refine rd_tupL (SqL.of hms) fun o2 ho2 => ?_
      have e7 := Evl.Ex.new (o := .tup ms) ho2
      walk_at "rvs"
      refine ⟨(by show 2 ≤ sizeLine; decide), fun o3 ho3 => ?_⟩
      have e8 := Evl.Ex.new (o := .tup [V.str ow, .ref o2]) ho3
      have W := named_wov pok ht heq ows pmR
      exact q o3 ow R _ ((g5.trans g6).trans (Gl.ex (e7.trans e8) g6.dk)) ⟨o2, ms, SqT.of upd_same, Evl.ex_t e8 (SqT.of upd_same), dpAll_ex (e7.trans e8) _ _ dms, ⟨ows.len, ows.es⟩, by omega, W.row, by rw [pmR.length_eq]; omega⟩ W
end
end KA
set_option Elab.async false
set_option linter.all false
set_option maxRecDepth 100000
set_option maxHeartbeats 400000
set_option pp.maxSteps 300
namespace KA
open PySem PySem.Spec PyProof.Rows L2 Ea
abbrev s_law_goes_on : Stmt := topS 28
theorem sc_law_goes_on : FnScope ["parts", "turns", "names", "play", "at", "owners", "rows", "known", "own", "letter", "place"] ["parts", "turns", "names", "play"] (defScope s_law_goes_on) :=
  ⟨rfl, rfl, rfl, by decide +kernel, rfl, by decide +kernel, by decide +kernel⟩
local macro_rules | `(tactic| walk_at "rd") => `(tactic| first
  | (with_reducible refine rd_seq ?_) | (with_reducible refine rd_asg ?_) | (with_reducible refine rd_if ?_) | (with_reducible refine rd_ret ?_) | (with_reducible refine rd_next ?_)
  | (with_reducible refine rd_drop ?_) | ((with_reducible refine rd_name (σ' := ?ss) ?hs ?_); (case hs => (dsimp only [List.set]; exact rfl)))
  | ((with_reducible refine rd_var (v := ?vv) ?hv ?_); (case hv => exact rfl)) | (with_reducible refine rd_c ?_) | (with_reducible refine rd_op ?_) | (with_reducible refine rd_un ?_)
  | (with_reducible refine rd_I0 ?_) | (with_reducible refine rd_U ?_) | (with_reducible refine rd_test ?_) | (with_reducible refine rd_B ?_) | (with_reducible refine rd_k ?_)
  | (with_reducible refine rd_not ?_) | (with_reducible refine rd_and ?_) | (with_reducible refine rd_or ?_) | (with_reducible refine rd_ifE ?_)
  | (with_reducible refine rd_par ?_) | ((with_reducible refine rd_par2 (σ' := ?ss) ?hs ?_); (case hs => (dsimp only [List.set]; exact rfl)))
  | (with_reducible refine rd_gsub ?_) | (with_reducible refine rd_andV ?_) | (with_reducible refine rd_orV ?_) | (with_reducible refine rd_notV ?_)
  | (with_reducible refine rd_lc ?_) | (with_reducible refine rd_iTup ?_) | (with_reducible refine rd_iList ?_) | (with_reducible refine rd_iRng1 ?_) | (with_reducible refine rd_iRng2 ?_) | (with_reducible refine rd_iEnumT ?_) | (with_reducible refine rd_iEnum ?_) | (with_reducible refine rd_iZipM ?_) | (with_reducible refine rd_iEnumS ?_) | (with_reducible refine rd_iKeys ?_) | (with_reducible refine rd_din ?_) | (with_reducible refine rd_dnotin ?_)
  | (with_reducible refine rd_yes ?_) | (with_reducible refine rd_true ?_) | (with_reducible refine rd_false ?_) | (with_reducible refine rd_m1 ?_) | (with_reducible refine rd_isS ?_)
  | ((with_reducible refine rd_eq ?hs ?_); (case hs => exact rfl)) | ((with_reducible refine rd_ne ?hs ?_); (case hs => exact rfl))
  | (with_reducible refine rd_listRg ?_) | (with_reducible refine rd_rg2 ?_) | (with_reducible refine rd_rgk ?_)
  | (with_reducible refine rd_dnew ?_) | (with_reducible refine rd_ddel ?_) | (with_reducible refine rd_kw ?_) | (with_reducible refine rd_callS ?_) | (with_reducible refine rd_dc ?_) | (with_reducible refine rd_for ?_) | (with_reducible refine rd_tru ?_) | (with_reducible refine rd_truI ?_)
  | (with_reducible refine rd_nil ?_) | (with_reducible refine rd_cons ?_) | (with_reducible refine rd_call ?_) | (with_reducible refine rd_cb ?_)
  | (with_reducible refine rd_tup ?_) | (with_reducible refine rd_lst ?_) | (with_reducible refine rd_dget ?_) | (with_reducible refine rd_dput ?_) | (with_reducible refine rd_dget2 ?_) | (with_reducible refine rd_sl ?_)
  | (with_reducible refine rd_nopart ?_) | (with_reducible refine rd_part ?_) | (with_reducible refine rd_parti ?_) | (with_reducible refine rd_bm ?_) | (with_reducible refine rd_bm0 ?_)
  | (with_reducible refine rd_int ?_) | (with_reducible refine rd_intb ?_) | (with_reducible refine rd_abs ?_) | (with_reducible refine rd_min2 ?_) | (with_reducible refine rd_max2 ?_))
local macro_rules | `(tactic| walk_at "rds") => `(tactic| repeat (walk_at "rd"))
local macro_rules | `(tactic| walk_at "rq") => `(tactic| first
  | (with_reducible refine rd_seq ?_) | (with_reducible refine rd_asg ?_) | (with_reducible refine rd_ret ?_) | (with_reducible refine rd_next ?_)
  | (with_reducible refine rd_drop ?_) | ((with_reducible refine rd_name (σ' := ?ss) ?hs ?_); (case hs => (dsimp only [List.set]; exact rfl)))
  | ((with_reducible refine rd_var (v := ?vv) ?hv ?_); (case hv => exact rfl)) | (with_reducible refine rd_c ?_) | (with_reducible refine rd_op ?_) | (with_reducible refine rd_un ?_)
  | (with_reducible refine rd_I0 ?_) | (with_reducible refine rd_U ?_) | (with_reducible refine rd_test ?_) | (with_reducible refine rd_B ?_) | (with_reducible refine rd_k ?_)
  | (with_reducible refine rd_not ?_) | (with_reducible refine rd_and ?_) | (with_reducible refine rd_or ?_) | (with_reducible refine rd_ifE ?_)
  | (with_reducible refine rd_par ?_) | ((with_reducible refine rd_par2 (σ' := ?ss) ?hs ?_); (case hs => (dsimp only [List.set]; exact rfl)))
  | (with_reducible refine rd_gsub ?_) | (with_reducible refine rd_andV ?_) | (with_reducible refine rd_orV ?_) | (with_reducible refine rd_notV ?_)
  | (with_reducible refine rd_lc ?_) | (with_reducible refine rd_iTup ?_) | (with_reducible refine rd_iList ?_) | (with_reducible refine rd_iRng1 ?_) | (with_reducible refine rd_iRng2 ?_) | (with_reducible refine rd_iEnumT ?_) | (with_reducible refine rd_iEnum ?_) | (with_reducible refine rd_iZipM ?_) | (with_reducible refine rd_iEnumS ?_) | (with_reducible refine rd_iKeys ?_) | (with_reducible refine rd_din ?_) | (with_reducible refine rd_dnotin ?_)
  | (with_reducible refine rd_yes ?_) | (with_reducible refine rd_true ?_) | (with_reducible refine rd_false ?_) | (with_reducible refine rd_m1 ?_) | (with_reducible refine rd_isS ?_)
  | ((with_reducible refine rd_eq ?hs ?_); (case hs => exact rfl)) | ((with_reducible refine rd_ne ?hs ?_); (case hs => exact rfl))
  | (with_reducible refine rd_listRg ?_) | (with_reducible refine rd_rg2 ?_) | (with_reducible refine rd_rgk ?_)
  | (with_reducible refine rd_dnew ?_) | (with_reducible refine rd_ddel ?_) | (with_reducible refine rd_kw ?_) | (with_reducible refine rd_callS ?_) | (with_reducible refine rd_dc ?_) | (with_reducible refine rd_for ?_) | (with_reducible refine rd_tru ?_) | (with_reducible refine rd_truI ?_)
  | (with_reducible refine rd_nil ?_) | (with_reducible refine rd_cons ?_) | (with_reducible refine rd_call ?_) | (with_reducible refine rd_cb ?_)
  | (with_reducible refine rd_tup ?_) | (with_reducible refine rd_lst ?_) | (with_reducible refine rd_dget ?_) | (with_reducible refine rd_dput ?_) | (with_reducible refine rd_dget2 ?_) | (with_reducible refine rd_sl ?_)
  | (with_reducible refine rd_nopart ?_) | (with_reducible refine rd_part ?_) | (with_reducible refine rd_parti ?_) | (with_reducible refine rd_bm ?_) | (with_reducible refine rd_bm0 ?_)
  | (with_reducible refine rd_int ?_) | (with_reducible refine rd_intb ?_) | (with_reducible refine rd_abs ?_) | (with_reducible refine rd_min2 ?_) | (with_reducible refine rd_max2 ?_))
local macro_rules | `(tactic| walk_at "rqs") => `(tactic| repeat (walk_at "rq"))
local macro_rules | `(tactic| walk_at "rv") => `(tactic| first
  | (with_reducible refine rd_seq ?_) | (with_reducible refine rd_asg ?_) | (with_reducible refine rd_ret ?_) | (with_reducible refine rd_next ?_)
  | (with_reducible refine rd_drop ?_) | ((with_reducible refine rd_name (σ' := ?ss) ?hs ?_); (case hs => (dsimp only [List.set]; exact rfl)))
  | ((with_reducible refine rd_var (v := ?vv) ?hv ?_); (case hv => exact rfl)) | (with_reducible refine rd_c ?_) | (with_reducible refine rd_op ?_) | (with_reducible refine rd_un ?_)
  | (with_reducible refine rd_I0 ?_) | (with_reducible refine rd_U ?_) | (with_reducible refine rd_test ?_) | (with_reducible refine rd_B ?_) | (with_reducible refine rd_k ?_)
  | (with_reducible refine rd_not ?_) | (with_reducible refine rd_and ?_) | (with_reducible refine rd_or ?_)
  | (with_reducible refine rd_par ?_) | ((with_reducible refine rd_par2 (σ' := ?ss) ?hs ?_); (case hs => (dsimp only [List.set]; exact rfl)))
  | (with_reducible refine rd_gsub ?_) | (with_reducible refine rd_andV ?_) | (with_reducible refine rd_orV ?_) | (with_reducible refine rd_notV ?_)
  | (with_reducible refine rd_lc ?_) | (with_reducible refine rd_iTup ?_) | (with_reducible refine rd_iList ?_) | (with_reducible refine rd_iRng1 ?_) | (with_reducible refine rd_iRng2 ?_) | (with_reducible refine rd_iEnumT ?_) | (with_reducible refine rd_iEnum ?_) | (with_reducible refine rd_iZipM ?_) | (with_reducible refine rd_iEnumS ?_) | (with_reducible refine rd_iKeys ?_) | (with_reducible refine rd_din ?_) | (with_reducible refine rd_dnotin ?_)
  | (with_reducible refine rd_yes ?_) | (with_reducible refine rd_true ?_) | (with_reducible refine rd_false ?_) | (with_reducible refine rd_m1 ?_) | (with_reducible refine rd_isS ?_)
  | ((with_reducible refine rd_eq ?hs ?_); (case hs => exact rfl)) | ((with_reducible refine rd_ne ?hs ?_); (case hs => exact rfl))
  | (with_reducible refine rd_listRg ?_) | (with_reducible refine rd_rg2 ?_) | (with_reducible refine rd_rgk ?_)
  | (with_reducible refine rd_dnew ?_) | (with_reducible refine rd_ddel ?_) | (with_reducible refine rd_kw ?_) | (with_reducible refine rd_callS ?_) | (with_reducible refine rd_dc ?_) | (with_reducible refine rd_for ?_) | (with_reducible refine rd_tru ?_) | (with_reducible refine rd_truI ?_)
  | (with_reducible refine rd_nil ?_) | (with_reducible refine rd_cons ?_) | (with_reducible refine rd_call ?_) | (with_reducible refine rd_cb ?_)
  | (with_reducible refine rd_tup ?_) | (with_reducible refine rd_lst ?_) | (with_reducible refine rd_dget ?_) | (with_reducible refine rd_dput ?_) | (with_reducible refine rd_dget2 ?_) | (with_reducible refine rd_sl ?_)
  | (with_reducible refine rd_nopart ?_) | (with_reducible refine rd_part ?_) | (with_reducible refine rd_parti ?_) | (with_reducible refine rd_bm ?_) | (with_reducible refine rd_bm0 ?_)
  | (with_reducible refine rd_int ?_) | (with_reducible refine rd_intb ?_) | (with_reducible refine rd_abs ?_) | (with_reducible refine rd_min2 ?_) | (with_reducible refine rd_max2 ?_))
local macro_rules | `(tactic| walk_at "rvs") => `(tactic| repeat (walk_at "rv"))

def winQ (p : List Int) (q : Pt) : Bool := winF q.n q.z q.R (rs q.nm p)
theorem knw_cast (nm : List Nat) (m : Nat) : (nm.map fun (g : Nat) => (g : Int)).filter (fun x => decide (x ≤ (m : Int))) = (knw nm m).map fun (g : Nat) => (g : Int) := by
  unfold knw
  induction nm with
  | nil => rfl
  | cons a t ih =>
    rw [List.map_cons, List.filter_cons]
    by_cases c : a ≤ m
    · rw [if_pos (decide_eq_true (by omega)), fk_pos c, List.map_cons, ih]
    · rw [if_neg (by rw [decide_eq_true_eq]; omega), fk_neg c, ih]
theorem rs_map (nm : List Nat) (p : List Int) : (List.range (knw nm p.length).length).map (fun j => V.int (if (((knw nm p.length).getD j 0 : Nat) : Int) ∈ p then (j : Int) + 1 else -((j : Int) + 1))) = (rs nm p).map V.int := by
  refine List.ext_getElem (by rw [List.length_map, List.length_range, List.length_map, rs_len]) fun i a1 a2 => ?_
  rw [List.length_map, List.length_range] at a1
  rw [List.getElem_map, List.getElem_range, List.getElem_map]
  congr 1
  unfold rs
  rw [List.getElem_mapIdx, List.getD_eq_getElem?_getD, List.getElem?_eq_getElem a1] <;> rfl
section
variable {P : Program} {w : World} {K : PySem.W.Frag} {mg : Str → Option Value} {base : Heap}
def NmW (H : Hp) (ns : List V) (k : Nat) (ts : List Nat) : Prop := ns.length = k ∧ ∀ a, a < k → ∃ b : Addr, ns.getD a .non = .ref b ∧ H b = some (.lst ((nmOf ts a).map fun (g : Nat) => V.int (g : Int)))
theorem NmW.ex {H H' : Hp} {ns : List V} {k : Nat} {ts : List Nat} (e : Evl.Ex H H') (h : NmW H ns k ts) : NmW H' ns k ts := ⟨h.1, fun a ha => by
  obtain ⟨b, h1, h4⟩ := h.2 a ha
  exact ⟨b, h1, e _ _ h4⟩⟩
theorem NmV.wk {d l : Addr} {H : Hp} {ns : List V} {k : Nat} {ts : List Nat} (h : NmV d l H ns k ts) : NmW H ns k ts := ⟨h.1, fun a ha => by
  obtain ⟨b, h1, _, _, h4⟩ := h.2 a ha
  exact ⟨b, h1, h4⟩⟩
def spGoes (K : PySem.W.Frag) : Sp := fun vs H Q _ => ∃ (PL N b : Addr) (tv : V) (ws : List V) (cs : List Addr) (pts : List Pt) (ts : List Nat) (ns : List V) (p : List Int), vs = [.ref PL, tv, .ref N, .ref b] ∧ H PL = some (.lst ws) ∧ Sens K H ws cs pts ∧ (∀ p ∈ pts, PtOk p) ∧
  tot pts ≤ 12 ∧ H N = some (.lst ns) ∧ NmW H ns pts.length ts ∧ (∀ a, a < pts.length → (nmOf ts a).length = (pts.getD a pt0).n) ∧ SqT K H b (p.map V.int) ∧ p.length ≤ 12 ∧
  ∀ H', Evl.Ex H H' → Q (.str (whoT ((named pts ts).all (winQ p)))) H'
theorem ok_goes {f fE : Addr} {fd fdE : FuncData} (F : Fun K "_law_goes_on" "_law_goes_on" s_law_goes_on f fd) (T : Bl mg)
    (G_law_ends : FnOk P w K mg base CX0 14 fE fdE ["owners", "rows", "play"] (spEndsT K 13)) (C_law_ends : Callee K mg "_law_ends" fE fdE ["owners", "rows", "play"]) :
    FnOk P w K mg base CX0 15 f fd ["parts", "turns", "names", "play"] (spGoes K) := by
  refine F.ok sc_law_goes_on (fun vs H Q E h => ?_) (fun cdv A outer s H vs Q E hr h => ?_)
  · obtain ⟨PL, N, b, tv, ws, cs, pts, ts, ns, p, rfl, _⟩ := h
    rfl
  · obtain ⟨PL, N, b, tv, ws, cs, pts, ts, ns, p, rfl, hP, sens, pok, t12, hN, nmw, heq, hb, lp12, q⟩ := h
    refine ⟨_, (pss_cons (ps_for PassesOwn.never rfl (pi_enumL (K := K) rfl (by rfl) T.enumerate (pa_cons (pv 0) pa_nil)) (pgk_tup (K := K) rfl rfl (pgs_cons (pg_name (i := 4) sc_law_goes_on.nd rfl (Or.inl rfl)) (pgs_cons (pgk_tup (K := K) rfl rfl (pgs_cons (pg_name (i := 5) sc_law_goes_on.nd rfl (Or.inl rfl)) (pgs_cons (pg_name (i := 6) sc_law_goes_on.nd rfl (Or.inl rfl)) pgs_nil))) pgs_nil))) (pss_cons (ps_setLc (i := 7) (own := [("letter", 9)]) (g := gName 9) rfl sc_law_goes_on.nd rfl rfl (sw_true rfl rfl rfl (by decide +kernel)) (ik_listI (K := K) rfl (pe_ix (ik_list (K := K) rfl) (pv 2) (pv 4) (fun _ _ => rfl))) (blkOk_by (own := [("letter", 9)]) (N := ["parts", "turns", "names", "play", "at", "owners", "rows", "known", "own", "letter", "place"]) (sc := defScope s_law_goes_on) (by decide +kernel)) (fun _ _ _ _ _ => (pg_name (i := 9) sc_law_goes_on.nd rfl (Or.inl rfl))) (fun _ _ _ _ _ => (pts_one (pt_cmpR op_le (pv 9) (pe_callB (c_len (K := K) rfl) (by rfl) T.len (by decide +kernel) (pa_cons (pv 3) pa_nil)) (nomark _)))) (fun _ _ _ _ _ => (pv 9)))
 (pss_cons (ps_set (i := 8) sc_law_goes_on.nd rfl (Or.inl rfl) (pe_callTy (c_tuple (K := K) rfl) (by rfl) T.tuple (by decide +kernel) (pa_cons (pe_lc (own := [("place", 10), ("letter", 9)]) (g := gTup K 2 (gCons (gName 10) (gCons (gName 9) gNil))) rfl sc_law_goes_on.nd (pi_enumL (K := K) rfl (by rfl) T.enumerate (pa_cons (pv 7) pa_nil)) (blkOk_by (own := [("place", 10), ("letter", 9)]) (N := ["parts", "turns", "names", "play", "at", "owners", "rows", "known", "own", "letter", "place"]) (sc := defScope s_law_goes_on) (by decide +kernel)) (fun _ _ _ _ _ => (pgk_tup (K := K) rfl rfl (pgs_cons (pg_name (i := 10) sc_law_goes_on.nd rfl (Or.inl rfl)) (pgs_cons (pg_name (i := 9) sc_law_goes_on.nd rfl (Or.inl rfl)) pgs_nil)))) (fun _ _ _ _ _ => pts_nil) (fun _ _ _ _ _ => (pe_ifExp (pt_cmpR (ok_in (K := K) rfl) (pv 9) (pv 3) (by rfl)) (pe_op op_add (pv 10) pe_int) (pe_op op_sub (pe_un un_neg (pv 10)) pe_int)))) pa_nil)))
 (pss_one (ps_if (pt_cmpR op_eq (pe_ix (ik_tup (K := K) rfl) (pe_call G_law_ends (hr.mono (by decide)) (by rfl) C_law_ends.m C_law_ends.k C_law_ends.b .nil pass0 (pa_cons (pv 5) (pa_cons (pv 6) (pa_cons (pv 8) pa_nil)))) pe_int (fun _ _ => rfl)) pe_str (nomark _)) (pss_one (ps_ret pe_str)) pss_nil)))))
 (pss_one (ps_ret pe_str))), ?_⟩
    refine rd_start (σ' := [some (.ref PL), some tv, some (.ref N), some (.ref b), none, none, none, none, none, none, none]) rfl ?_
    have lp := pt_len pok
    walk_at "rvs"
    refine ⟨PL, ws, rfl, SqL.of hP, ?_⟩
    refine fr_enumLN rfl (fun i σ' H' => ∃ x4 x5 x6 x7 x8 : Option V, σ' = [some (.ref PL), some tv, some (.ref N), some (.ref b), x4, x5, x6, x7, x8, none, none] ∧ Evl.Ex H H' ∧ ∀ a, a < i → winQ p ⟨(pts.getD a pt0).n, (pts.getD a pt0).z, (pts.getD a pt0).R, nmOf ts a⟩ = true)
      ⟨_, _, _, _, _, rfl, Evl.Ex.refl _, fun a h => absurd h (Nat.not_lt_zero _)⟩ (fun i σ' H' ⟨_, _, _, _, _, _, e, _⟩ => SqL.of (e _ _ hP)) (fun i σ' H1 T0 hi hP1 hT0 => ?_) fun σ' H1 hP1 => ?_
    · obtain ⟨x4, x5, x6, x7, x8, rfl, e1, hwin⟩ := hP1
      rw [sens.1] at hi
      have pk := pok _ (pt_mem hi)
      obtain ⟨a, xs, h0, h1, h2, h3⟩ := (sens.ex e1).2.2 i hi
      rw [h0]
      have e2 := Evl.Ex.new (o := .tup [V.int (i : Nat), .ref a]) hT0
      have e12 := e1.trans e2
      have h12 := Evl.ex_t e2 h1
      have h22 := Evl.ex_t e2 h2
      have h32 := dpAll_ex e2 _ _ h3
      generalize upd H1 T0 (.tup [V.int (i : Nat), .ref a]) = H2 at e12 h12 h22 h32 ⊢
      clear e2 hT0 h1 h2 h3 e1
      obtain ⟨bn, b1, b4⟩ := (nmw.ex e12).2 i hi
      have hNg : ns[i]? = some (.ref bn) := by
        rw [← b1, List.getD_eq_getElem?_getD, List.getElem?_eq_getElem (by rw [nmw.1]; exact hi)] <;> rfl
      refine rd_gtup2 (x := .str (pts.getD i pt0).z) (y := .ref (cs.getD i 0)) h12 rfl (σ' := [some (.ref PL), some tv, some (.ref N), some (.ref b), some (.int (i : Nat)), some (.str (pts.getD i pt0).z), some (.ref (cs.getD i 0)), x7, x8, none, none]) rfl ⟨rfl, ?_⟩
      walk_at "rvs"
      refine rd_ixL (SqL.of (e12 _ _ hN)) (atI_nat hNg) ?_
      have eb4 : ((nmOf ts i).map fun (g : Nat) => V.int (g : Int)) = ((nmOf ts i).map fun (g : Nat) => (g : Int)).map V.int := by rw [List.map_map] <;> rfl
      rw [eb4] at b4
      refine rd_refL (SqL.of b4) ?_
      refine lc_fmL (fun x => decide (x ≤ (p.length : Int))) V.int (σx := fun x => [some (.ref PL), some tv, some (.ref N), some (.ref b), some (.int (i : Nat)), some (.str (pts.getD i pt0).z), some (.ref (cs.getD i 0)), x7, x8, some x, none]) (SqL.of b4) (by rw [List.length_map, heq i hi]; have := pk.2.2.1; omega) (fun _ => rfl) (fun _ => rfl) (fun x hx H' Nx S e kN kS => ?_) fun D3 H3 e3 eD3 hD3 => ?_
      · walk_at "rvs"
        refine rd_lenT (Evl.ex_t (e12.trans e) hb) ?_
        rw [List.length_map]
        walk_at "rvs"
        refine rd_ite (fun c => ?_) (fun c => ?_)
        · walk_at "rvs"
          exact kN (decide_eq_true c) _ (Evl.Ex.refl _)
        · exact kS (decide_eq_false c) _ (Evl.Ex.refl _)
      rw [knw_cast, List.map_map] at hD3
      have lkn : (knw (nmOf ts i) p.length).length ≤ (pts.getD i pt0).n := Nat.le_trans knw_len (Nat.le_of_eq (heq i hi))
      have e13 := e12.trans e3
      walk_at "rvs"
      refine ⟨D3, _, rfl, SqL.of hD3, ?_⟩
      refine lc_enumL rfl (SqL.of hD3) (by rw [List.length_map]; have := pk.2.2.1; omega) (σx := fun x y => [some (.ref PL), some tv, some (.ref N), some (.ref b), some (.int (i : Nat)), some (.str (pts.getD i pt0).z), some (.ref (cs.getD i 0)), some (.ref D3), x8, some y, some x]) (fun _ _ => rfl) (fun _ _ => rfl) (fun _ => true) (fun j => .int (if (((knw (nmOf ts i) p.length).getD j 0 : Nat) : Int) ∈ p then (j : Int) + 1 else -((j : Int) + 1))) (fun j hj H' Nx S e kN kS => ?_) fun D4 H4 e4 eD4 hD4 => ?_
      · rw [List.length_map] at hj
        have hv : ((knw (nmOf ts i) p.length).map (V.int ∘ fun (g : Nat) => (g : Int))).getD j .non = .int (((knw (nmOf ts i) p.length).getD j 0 : Nat) : Int) := by
          rw [List.getD_eq_getElem?_getD, List.getElem?_map, getD_some hj] <;> rfl
        dsimp only
        rw [hv]
        walk_at "rds"
        refine rd_inT (Evl.ex_t (e13.trans e) hb) ?_
        walk_at "rds"
        refine rd_ite (fun c => ?_) (fun c => ?_)
        · walk_at "rds"
          have := kN rfl _ (Evl.Ex.refl _)
          dsimp only at this
          rw [if_pos c] at this
          exact this
        · walk_at "rds"
          have := kN rfl _ (Evl.Ex.refl _)
          dsimp only at this
          rw [if_neg c] at this
          rw [show -((j : Nat) : Int) - 1 = -((j : Int) + 1) by omega]
          exact this
      rw [List.filter_eq_self.mpr (fun _ _ => rfl), List.length_map, rs_map] at hD4
      walk_at "rvs"
      refine rd_tupL (SqL.of hD4) fun o ho => ?_
      have e5 := e4.trans (Evl.Ex.new (o := .tup ((rs (nmOf ts i) p).map V.int)) ho)
      have so : SqT K (upd H4 o (.tup ((rs (nmOf ts i) p).map V.int))) o ((rs (nmOf ts i) p).map V.int) := SqT.of upd_same
      generalize upd H4 o (.tup ((rs (nmOf ts i) p).map V.int)) = H5 at e5 so ⊢
      have e35 := e3.trans e5
      walk_at "rvs"
      dsimp only
      refine rd_ifI (fun σ' H6 => ∃ x8 : Option V, σ' = [some (.ref PL), some tv, some (.ref N), some (.ref b), some (.int (i : Nat)), some (.str (pts.getD i pt0).z), some (.ref (cs.getD i 0)), some (.ref D3), x8, none, none] ∧ Evl.Ex H H6 ∧ winQ p ⟨(pts.getD i pt0).n, (pts.getD i pt0).z, (pts.getD i pt0).R, nmOf ts i⟩ = true) (fun Nx kN => ?_) fun σ' H6 hI => ?_
      · refine rd_if ?_
        walk_at "rvs"
        refine ⟨_, _, o, _, xs, _, rs (nmOf ts i) p, rfl, pk.1, by have := pk.2.2.1; omega, Evl.ex_t e35 h22, dpAll_ex e35 _ _ h32, pk.2.2.2.1, by have := pk.2.2.2.2; omega, so, rs_ok _ _, by rw [rs_len]; exact lkn, by have := pk.2.2.1; omega, fun v H6 e6 hv => ?_⟩
        obtain ⟨qa, cnt, rfl, hc, sq⟩ := hv
        have hww : winR (pts.getD i pt0).z ((pts.getD i pt0).n - (rs (nmOf ts i) p).length) (((rs (nmOf ts i) p).length : Int) + 1) (askedF (rs (nmOf ts i) p) (pts.getD i pt0).R) = winQ p ⟨(pts.getD i pt0).n, (pts.getD i pt0).z, (pts.getD i pt0).R, nmOf ts i⟩ := rfl
        rw [hww] at sq
        walk_at "rvs"
        refine rd_ixT sq rfl ?_
        walk_at "rvs"
        rw [who_each]
        cases c1 : winQ p ⟨(pts.getD i pt0).n, (pts.getD i pt0).z, (pts.getD i pt0).R, nmOf ts i⟩ with
        | false =>
          refine (if_pos rfl).mpr ?_
          walk_at "rvs"
          have hq := q _ ((e12.trans e35).trans e6)
          have hall : (named pts ts).all (winQ p) = false := by
            rw [List.all_eq_false]
            exact ⟨_, List.mem_map.mpr ⟨i, List.mem_range.mpr hi, rfl⟩, by rw [c1]; decide⟩
          rw [hall] at hq
          exact hq
        | true =>
          refine (if_neg (by decide)).mpr ?_
          walk_at "rvs"
          exact kN _ _ ⟨_, rfl, (e12.trans e35).trans e6, c1⟩
      · obtain ⟨x8, rfl, e6, c1⟩ := hI
        walk_at "rvs"
        refine ⟨_, _, _, _, _, rfl, e6, fun a ha => ?_⟩
        by_cases c : a = i
        · rw [c]
          exact c1
        · exact hwin a (by omega)
    · obtain ⟨x4, x5, x6, x7, x8, rfl, e1, hwin⟩ := hP1
      rw [sens.1] at hwin
      walk_at "rvs"
      have hq := q _ e1
      have hall : (named pts ts).all (winQ p) = true := by
        rw [List.all_eq_true]
        intro x hx
        obtain ⟨a, ha, rfl⟩ := List.mem_map.mp hx
        exact hwin a (List.mem_range.mp ha)
      rw [hall] at hq
      exact hq
end
end KA
set_option Elab.async false
set_option linter.all false
set_option maxRecDepth 100000
set_option maxHeartbeats 400000
set_option pp.maxSteps 300
namespace KA
open PySem PySem.Spec PyProof.Rows L2 Ea
abbrev slaw : Stmt := topS 29
theorem sclaw : FnScope ["script", "deck", "most", "turn", "parts", "bad", "turns", "names", "own", "lost", "play", "letter", "goal", "menu", "owners", "rows", "x"] ["script"] (defScope slaw) :=
  ⟨rfl, rfl, rfl, by decide +kernel, rfl, by decide +kernel, by decide +kernel⟩
local macro_rules | `(tactic| walk_at "rd") => `(tactic| first
  | (with_reducible refine rd_seq ?_) | (with_reducible refine rd_asg ?_) | (with_reducible refine rd_if ?_) | (with_reducible refine rd_ret ?_) | (with_reducible refine rd_next ?_)
  | (with_reducible refine rd_drop ?_) | ((with_reducible refine rd_name (σ' := ?ss) ?hs ?_); (case hs => (dsimp only [List.set]; exact rfl)))
  | ((with_reducible refine rd_var (v := ?vv) ?hv ?_); (case hv => exact rfl)) | (with_reducible refine rd_c ?_) | (with_reducible refine rd_op ?_) | (with_reducible refine rd_un ?_)
  | (with_reducible refine rd_I0 ?_) | (with_reducible refine rd_U ?_) | (with_reducible refine rd_test ?_) | (with_reducible refine rd_B ?_) | (with_reducible refine rd_k ?_)
  | (with_reducible refine rd_not ?_) | (with_reducible refine rd_and ?_) | (with_reducible refine rd_or ?_) | (with_reducible refine rd_ifE ?_)
  | (with_reducible refine rd_par ?_) | ((with_reducible refine rd_par2 (σ' := ?ss) ?hs ?_); (case hs => (dsimp only [List.set]; exact rfl)))
  | (with_reducible refine rd_gsub ?_) | (with_reducible refine rd_andV ?_) | (with_reducible refine rd_orV ?_) | (with_reducible refine rd_notV ?_)
  | (with_reducible refine rd_lc ?_) | (with_reducible refine rd_iTup ?_) | (with_reducible refine rd_iList ?_) | (with_reducible refine rd_iRng1 ?_) | (with_reducible refine rd_iRng2 ?_) | (with_reducible refine rd_iEnumT ?_) | (with_reducible refine rd_iEnum ?_) | (with_reducible refine rd_iZipM ?_) | (with_reducible refine rd_iEnumS ?_) | (with_reducible refine rd_iKeys ?_) | (with_reducible refine rd_din ?_) | (with_reducible refine rd_dnotin ?_)
  | (with_reducible refine rd_yes ?_) | (with_reducible refine rd_true ?_) | (with_reducible refine rd_false ?_) | (with_reducible refine rd_m1 ?_) | (with_reducible refine rd_isS ?_)
  | ((with_reducible refine rd_eq ?hs ?_); (case hs => exact rfl)) | ((with_reducible refine rd_ne ?hs ?_); (case hs => exact rfl))
  | (with_reducible refine rd_listRg ?_) | (with_reducible refine rd_rg2 ?_) | (with_reducible refine rd_rgk ?_)
  | (with_reducible refine rd_dnew ?_) | (with_reducible refine rd_ddel ?_) | (with_reducible refine rd_kw ?_) | (with_reducible refine rd_callS ?_) | (with_reducible refine rd_dc ?_) | (with_reducible refine rd_for ?_) | (with_reducible refine rd_tru ?_) | (with_reducible refine rd_truI ?_)
  | (with_reducible refine rd_nil ?_) | (with_reducible refine rd_cons ?_) | (with_reducible refine rd_call ?_) | (with_reducible refine rd_cb ?_)
  | (with_reducible refine rd_tup ?_) | (with_reducible refine rd_lst ?_) | (with_reducible refine rd_dget ?_) | (with_reducible refine rd_dput ?_) | (with_reducible refine rd_dget2 ?_) | (with_reducible refine rd_sl ?_)
  | (with_reducible refine rd_nopart ?_) | (with_reducible refine rd_part ?_) | (with_reducible refine rd_parti ?_) | (with_reducible refine rd_bm ?_) | (with_reducible refine rd_bm0 ?_)
  | (with_reducible refine rd_int ?_) | (with_reducible refine rd_intb ?_) | (with_reducible refine rd_abs ?_) | (with_reducible refine rd_min2 ?_) | (with_reducible refine rd_max2 ?_))
local macro_rules | `(tactic| walk_at "rds") => `(tactic| repeat (walk_at "rd"))
local macro_rules | `(tactic| walk_at "rq") => `(tactic| first
  | (with_reducible refine rd_seq ?_) | (with_reducible refine rd_asg ?_) | (with_reducible refine rd_ret ?_) | (with_reducible refine rd_next ?_)
  | (with_reducible refine rd_drop ?_) | ((with_reducible refine rd_name (σ' := ?ss) ?hs ?_); (case hs => (dsimp only [List.set]; exact rfl)))
  | ((with_reducible refine rd_var (v := ?vv) ?hv ?_); (case hv => exact rfl)) | (with_reducible refine rd_c ?_) | (with_reducible refine rd_op ?_) | (with_reducible refine rd_un ?_)
  | (with_reducible refine rd_I0 ?_) | (with_reducible refine rd_U ?_) | (with_reducible refine rd_test ?_) | (with_reducible refine rd_B ?_) | (with_reducible refine rd_k ?_)
  | (with_reducible refine rd_not ?_) | (with_reducible refine rd_and ?_) | (with_reducible refine rd_or ?_) | (with_reducible refine rd_ifE ?_)
  | (with_reducible refine rd_par ?_) | ((with_reducible refine rd_par2 (σ' := ?ss) ?hs ?_); (case hs => (dsimp only [List.set]; exact rfl)))
  | (with_reducible refine rd_gsub ?_) | (with_reducible refine rd_andV ?_) | (with_reducible refine rd_orV ?_) | (with_reducible refine rd_notV ?_)
  | (with_reducible refine rd_lc ?_) | (with_reducible refine rd_iTup ?_) | (with_reducible refine rd_iList ?_) | (with_reducible refine rd_iRng1 ?_) | (with_reducible refine rd_iRng2 ?_) | (with_reducible refine rd_iEnumT ?_) | (with_reducible refine rd_iEnum ?_) | (with_reducible refine rd_iZipM ?_) | (with_reducible refine rd_iEnumS ?_) | (with_reducible refine rd_iKeys ?_) | (with_reducible refine rd_din ?_) | (with_reducible refine rd_dnotin ?_)
  | (with_reducible refine rd_yes ?_) | (with_reducible refine rd_true ?_) | (with_reducible refine rd_false ?_) | (with_reducible refine rd_m1 ?_) | (with_reducible refine rd_isS ?_)
  | ((with_reducible refine rd_eq ?hs ?_); (case hs => exact rfl)) | ((with_reducible refine rd_ne ?hs ?_); (case hs => exact rfl))
  | (with_reducible refine rd_listRg ?_) | (with_reducible refine rd_rg2 ?_) | (with_reducible refine rd_rgk ?_)
  | (with_reducible refine rd_dnew ?_) | (with_reducible refine rd_ddel ?_) | (with_reducible refine rd_kw ?_) | (with_reducible refine rd_callS ?_) | (with_reducible refine rd_dc ?_) | (with_reducible refine rd_for ?_) | (with_reducible refine rd_tru ?_) | (with_reducible refine rd_truI ?_)
  | (with_reducible refine rd_nil ?_) | (with_reducible refine rd_cons ?_) | (with_reducible refine rd_call ?_) | (with_reducible refine rd_cb ?_)
  | (with_reducible refine rd_tup ?_) | (with_reducible refine rd_lst ?_) | (with_reducible refine rd_dget ?_) | (with_reducible refine rd_dput ?_) | (with_reducible refine rd_dget2 ?_) | (with_reducible refine rd_sl ?_)
  | (with_reducible refine rd_nopart ?_) | (with_reducible refine rd_part ?_) | (with_reducible refine rd_parti ?_) | (with_reducible refine rd_bm ?_) | (with_reducible refine rd_bm0 ?_)
  | (with_reducible refine rd_int ?_) | (with_reducible refine rd_intb ?_) | (with_reducible refine rd_abs ?_) | (with_reducible refine rd_min2 ?_) | (with_reducible refine rd_max2 ?_))
local macro_rules | `(tactic| walk_at "rqs") => `(tactic| repeat (walk_at "rq"))
local macro_rules | `(tactic| walk_at "rv") => `(tactic| first
  | (with_reducible refine rd_seq ?_) | (with_reducible refine rd_asg ?_) | (with_reducible refine rd_ret ?_) | (with_reducible refine rd_next ?_)
  | (with_reducible refine rd_drop ?_) | ((with_reducible refine rd_name (σ' := ?ss) ?hs ?_); (case hs => (dsimp only [List.set]; exact rfl)))
  | ((with_reducible refine rd_var (v := ?vv) ?hv ?_); (case hv => exact rfl)) | (with_reducible refine rd_c ?_) | (with_reducible refine rd_op ?_) | (with_reducible refine rd_un ?_)
  | (with_reducible refine rd_I0 ?_) | (with_reducible refine rd_U ?_) | (with_reducible refine rd_test ?_) | (with_reducible refine rd_B ?_) | (with_reducible refine rd_k ?_)
  | (with_reducible refine rd_not ?_) | (with_reducible refine rd_and ?_) | (with_reducible refine rd_or ?_)
  | (with_reducible refine rd_par ?_) | ((with_reducible refine rd_par2 (σ' := ?ss) ?hs ?_); (case hs => (dsimp only [List.set]; exact rfl)))
  | (with_reducible refine rd_gsub ?_) | (with_reducible refine rd_andV ?_) | (with_reducible refine rd_orV ?_) | (with_reducible refine rd_notV ?_)
  | (with_reducible refine rd_lc ?_) | (with_reducible refine rd_iTup ?_) | (with_reducible refine rd_iList ?_) | (with_reducible refine rd_iRng1 ?_) | (with_reducible refine rd_iRng2 ?_) | (with_reducible refine rd_iEnumT ?_) | (with_reducible refine rd_iEnum ?_) | (with_reducible refine rd_iZipM ?_) | (with_reducible refine rd_iEnumS ?_) | (with_reducible refine rd_iKeys ?_) | (with_reducible refine rd_din ?_) | (with_reducible refine rd_dnotin ?_)
  | (with_reducible refine rd_yes ?_) | (with_reducible refine rd_true ?_) | (with_reducible refine rd_false ?_) | (with_reducible refine rd_m1 ?_) | (with_reducible refine rd_isS ?_)
  | ((with_reducible refine rd_eq ?hs ?_); (case hs => exact rfl)) | ((with_reducible refine rd_ne ?hs ?_); (case hs => exact rfl))
  | (with_reducible refine rd_listRg ?_) | (with_reducible refine rd_rg2 ?_) | (with_reducible refine rd_rgk ?_)
  | (with_reducible refine rd_dnew ?_) | (with_reducible refine rd_ddel ?_) | (with_reducible refine rd_kw ?_) | (with_reducible refine rd_callS ?_) | (with_reducible refine rd_dc ?_) | (with_reducible refine rd_for ?_) | (with_reducible refine rd_tru ?_) | (with_reducible refine rd_truI ?_)
  | (with_reducible refine rd_nil ?_) | (with_reducible refine rd_cons ?_) | (with_reducible refine rd_call ?_) | (with_reducible refine rd_cb ?_)
  | (with_reducible refine rd_tup ?_) | (with_reducible refine rd_lst ?_) | (with_reducible refine rd_dget ?_) | (with_reducible refine rd_dput ?_) | (with_reducible refine rd_dget2 ?_) | (with_reducible refine rd_sl ?_)
  | (with_reducible refine rd_nopart ?_) | (with_reducible refine rd_part ?_) | (with_reducible refine rd_parti ?_) | (with_reducible refine rd_bm ?_) | (with_reducible refine rd_bm0 ?_)
  | (with_reducible refine rd_int ?_) | (with_reducible refine rd_intb ?_) | (with_reducible refine rd_abs ?_) | (with_reducible refine rd_min2 ?_) | (with_reducible refine rd_max2 ?_))
local macro_rules | `(tactic| walk_at "rvs") => `(tactic| repeat (walk_at "rv"))

theorem Sen.gl {K : PySem.W.Frag} {H H' : Hp} {n : Nat} {a : Addr} {z : Str} {R : List (List Int)} {d l : Addr} (g : Gl d l H H') (hD : DeckL d l H) (h : Sen K H n a z R) : Sen K H' n a z R := by
  obtain ⟨c, xs, h1, h2, h3, h4⟩ := h
  exact ⟨c, xs, g.tup hD h1, g.tup hD h2, Gl.rows g hD h3, h4⟩
/-- all letters SOME's -/
def sS (n : Nat) : Str := repS "s" (n : Int)
theorem sS_own (n : Nat) : OwnS n (sS n) := by
  have h := own_rep own_s (n := (n : Int)) (by omega)
  rw [Int.toNat_natCast, Nat.mul_one] at h
  exact h
theorem sS_held {n x : Nat} (h1 : 1 ≤ x) (hn : x ≤ n) : heldBy (sS n) "s" (x : Int) = true := by
  have hl : (sS n).cps.toList.length = n := (sS_own n).1
  rw [held_s]
  refine decide_eq_true ?_
  have hm : (sS n).cps.toList.getD (x - 1) 0 ∈ (sS n).cps.toList := getD_mem (by omega)
  rcases folded_mem (Str.ofString "s").cps (n : Int).toNat #[] _ hm with q | q
  · simp at q
  · have e : (Str.ofString "s").cps.toList = [115] := by decide
    rw [e] at q
    exact List.mem_singleton.mp q
theorem wov_s {n : Nat} {z : Str} {R : List (List Int)} {ps : List Pt} (W : Wov n z R ps) : Wov n (sS n) R (ps.map fun q => ⟨q.n, sS q.n, q.R, q.nm⟩) := by
  have mem : ∀ q ∈ ps.map (fun q : Pt => (⟨q.n, sS q.n, q.R, q.nm⟩ : Pt)), ∃ r ∈ ps, q = ⟨r.n, sS r.n, r.R, r.nm⟩ := fun q hq => by
    obtain ⟨r, hr, rfl⟩ := List.mem_map.mp hq
    exact ⟨r, hr, rfl⟩
  refine ⟨W.row, fun q hq => ?_, fun q hq => ?_, fun q hq => ?_, fun q hq => ?_, fun g g1 gn => ?_, fun q hq j g hg => ?_, fun p hp hpl => ?_⟩
  · obtain ⟨r, hr, rfl⟩ := mem q hq
    exact W.rows r hr
  · obtain ⟨r, hr, rfl⟩ := mem q hq
    exact W.asc r hr
  · obtain ⟨r, hr, rfl⟩ := mem q hq
    exact W.len r hr
  · obtain ⟨r, hr, rfl⟩ := mem q hq
    exact W.rng r hr
  · obtain ⟨l1, q, l2, e, h1, h2, h3⟩ := W.cov g g1 gn
    refine ⟨l1.map fun q => ⟨q.n, sS q.n, q.R, q.nm⟩, ⟨q.n, sS q.n, q.R, q.nm⟩, l2.map fun q => ⟨q.n, sS q.n, q.R, q.nm⟩, by rw [e, List.map_append, List.map_cons], h1, fun r hr => ?_, fun r hr => ?_⟩
    · obtain ⟨s, hs, rfl⟩ := List.mem_map.mp hr
      exact h2 s hs
    · obtain ⟨s, hs, rfl⟩ := List.mem_map.mp hr
      exact h3 s hs
  · obtain ⟨r, hr, rfl⟩ := mem q hq
    have hg : r.nm[j]? = some g := hg
    have hj := (List.getElem?_eq_some_iff.mp hg).1
    have hr2 := W.rng r hr g (List.mem_of_getElem? hg)
    have hlen := W.len r hr
    show _ = heldBy (sS r.n) "s" ((j : Int) + 1)
    rw [show ((j : Int) + 1) = ((j + 1 : Nat) : Int) by omega, sS_held hr2.1 hr2.2, sS_held (by omega) (by omega)]
  · rw [List.all_map]
    exact W.res p hp hpl
theorem named_all (pts : List Pt) (ts : List Nat) (f : Nat → Str → List (List Int) → List Nat → Bool) : ((named pts ts).all fun q => f q.n q.z q.R q.nm) = (List.range pts.length).all fun a => f (pts.getD a pt0).n (pts.getD a pt0).z (pts.getD a pt0).R (nmOf ts a) := by
  unfold named
  rw [List.all_map] <;> rfl
theorem range_all (pts : List Pt) (f : Pt → Bool) : ((List.range pts.length).all fun a => f (pts.getD a pt0)) = pts.all f := by
  rw [Bool.eq_iff_iff, List.all_eq_true, List.all_eq_true]
  constructor
  · intro h p hp
    obtain ⟨i, hi⟩ := List.mem_iff_getElem?.mp hp
    have h2 := h i (List.mem_range.mpr (List.getElem?_eq_some_iff.mp hi).1)
    rw [List.getD_eq_getElem?_getD, hi] at h2
    exact h2
  · intro h i hi
    exact h _ (pt_mem (List.mem_range.mp hi))
/-- who wins at the start, part by part -/
theorem start_all (pts : List Pt) (ts : List Nat) : ((named pts ts).all fun q => winF q.n q.z q.R (rs q.nm [])) = pts.all winP := by
  rw [named_all pts ts (fun n z R nm => winF n z R (rs nm []))]
  rw [← range_all pts winP]
  refine all_same fun a _ => ?_
  rw [rs_nil _ fun g hg => (nmOf_mem.mp hg).1] <;> rfl
def winS (pt : Pt) : Bool := winF pt.n (sS pt.n) pt.R []
theorem start_s (pts : List Pt) (ts : List Nat) : (((named pts ts).map fun q => (⟨q.n, sS q.n, q.R, q.nm⟩ : Pt)).all fun q => winF q.n q.z q.R (rs q.nm [])) = pts.all winS := by
  rw [List.all_map]
  show ((named pts ts).all fun q => winF q.n (sS q.n) q.R (rs q.nm [])) = _
  rw [named_all pts ts (fun n z R nm => winF n (sS n) R (rs nm []))]
  rw [← range_all pts winS]
  refine all_same fun a _ => ?_
  rw [rs_nil _ fun g hg => (nmOf_mem.mp hg).1] <;> rfl
theorem none_badF (pts : List Pt) (f : Pt → Bool) : PyData.eqv (.list (dI (((List.range pts.length).filter fun i => !f (pts.getD i pt0)).map fun _ => 1))) (.list []) = pts.all f := by
  have key : ∀ l : List Int, PyData.eqv (.list (dI l)) (.list []) = l.isEmpty := fun l => by cases l <;> rfl
  rw [key, ← range_all pts f, Bool.eq_iff_iff, List.isEmpty_iff, List.map_eq_nil_iff, List.filter_eq_nil_iff, List.all_eq_true]
  constructor
  · intro h i hi
    have h2 := h i hi
    cases c : f (pts.getD i pt0) with
    | true => rfl
    | false => exact absurd (by rw [c]; rfl) h2
  · intro h i hi
    rw [h i hi]
    decide
section
variable {P : Program} {w : World} {K : PySem.W.Frag} {mg : Str → Option Value} {base : Heap}
theorem who7 (b c : Bool) : decide (V.str (whoT b) = V.str (whoT c)) = decide (b = c) := by cases b <;> cases c <;> decide
theorem good7 {n : Nat} {z : Str} {R : List (List Int)} {p : List Int} (hp : p.length < 60) : Nice 60 1 (dR (goodF n z R p)) := by
  refine (Nice.tup (NiceAll.ints fun x hx => ?_)).mono (Nat.le_trans (List.length_filter_le _ _) (by show 2 ≤ 60; decide)) (Nat.le_refl _)
  have := (List.mem_filter.mp hx).1
  simp only [List.mem_cons, List.not_mem_nil, or_false] at this
  have h : x.natAbs ≤ 60 := by
    rcases this with rfl | rfl <;> omega
  exact Nat.lt_of_le_of_lt h (by decide)
theorem eqv7 : ∀ r : List Int, PyData.eqv (dR r) (dR r) = true := fun r => by
  have : ∀ r : List Int, PyData.eqvAll (dI r) (dI r) = true := fun r => by
    induction r with
    | nil => rfl
    | cons x t ih =>
      show (PyData.eqv (.int x) (.int x) && PyData.eqvAll (dI t) (dI t)) = true
      rw [ih]
      simp [PyData.eqv]
  exact this r
theorem nice_ones {k : Nat} (h : k ≤ 60) {l : List Int} (hl : l.length ≤ k) (h1 : ∀ x ∈ l, x = 1) : Nice 60 1 (.list (dI l)) := by
  refine (Nice.lst (NiceAll.ints fun x hx => ?_)).mono (by omega) (Nat.le_refl _)
  rw [h1 x hx]
  decide
theorem rd_ifV7 {tt : TT} {te tz : TE} {σ : L2.St} {H : Hp} {Q : VK} (I : V → Hp → Prop) (h1 : ∀ Q' : VK, (∀ v H', I v H' → Q' v H') → tIf tt te tz σ H Q') (h : ∀ v H', I v H' → Q v H') : tIf tt te tz σ H Q := h1 Q h
def spLaw (K : PySem.W.Frag) : Sp := fun vs H Q _ => ∃ (a : Addr) (ns : List Int), vs = [.ref a] ∧ SqL K H a (ns.map V.int) ∧ ns.length ≤ 63 ∧ ∀ H', Q (.bl true) H'
theorem ok_law {f fK fD fP fA fW fU fO fE fN fG : Addr} {fd fdK fdD fdP fdA fdW fdU fdO fdE fdN fdG : FuncData} (F : Fun K "law" "law" slaw f fd) (T : Bl mg)
    (G_law_deck : FnOk P w K mg base CX0 1 fK fdK ["script"] (spDeck K)) (C_law_deck : Callee K mg "_law_deck" fK fdK ["script"])
    (G_law_draw : FnOk P w K mg base CX0 1 fD fdD ["deck", "many"] spDraw) (C_law_draw : Callee K mg "_law_draw" fD fdD ["deck", "many"])
    (G_law_pick : FnOk P w K mg base CX0 2 fP fdP ["deck", "items"] spPick) (C_law_pick : Callee K mg "_law_pick" fP fdP ["deck", "items"])
    (G_law_parts : FnOk P w K mg base CX0 15 fA fdA ["deck", "most"] (spParts K)) (C_law_parts : Callee K mg "_law_parts" fA fdA ["deck", "most"])
    (G_law_woven : FnOk P w K mg base CX0 3 fW fdW ["deck", "parts"] (spWoven K)) (C_law_woven : Callee K mg "_law_woven" fW fdW ["deck", "parts"])
    (G_law_put : FnOk P w K mg base CX0 3 fU fdU ["deck", "parts", "turns", "names"] (spPut K)) (C_law_put : Callee K mg "_law_put" fU fdU ["deck", "parts", "turns", "names"])
    (G_law_goes_on : FnOk P w K mg base CX0 15 fO fdO ["parts", "turns", "names", "play"] (spGoes K)) (C_law_goes_on : Callee K mg "_law_goes_on" fO fdO ["parts", "turns", "names", "play"])
    (G_law_ends : FnOk P w K mg base CX0 14 fE fdE ["owners", "rows", "play"] (spEndsT K 13)) (C_law_ends : Callee K mg "_law_ends" fE fdE ["owners", "rows", "play"])
    (Gwinner : FnOk P w K mg base CX0 15 fN fdN ["sentence", "play"] (spWinner0 K)) (Cwinner : Callee K mg "winner" fN fdN ["sentence", "play"])
    (Ggood_moves : FnOk P w K mg base CX0 16 fG fdG ["sentence", "play"] (spGood0 K)) (Cgood_moves : Callee K mg "good_moves" fG fdG ["sentence", "play"]) :
    FnG P w K mg base 17 f fd ["script"] (spLaw K) := by
  refine okG F sclaw (fun vs H Q E h => ?_) (fun cdv A outer s H vs Q E hr hg h => ?_)
  · obtain ⟨a, ns, rfl, _⟩ := h
    rfl
  · obtain ⟨a, ns, rfl, ha, hl, q⟩ := h
    refine ⟨_, (pss_cons (ps_set (i := 1) sclaw.nd rfl (Or.inl rfl) (pe_call G_law_deck (hr.mono (by decide)) (by rfl) C_law_deck.m C_law_deck.k C_law_deck.b .nil pass0 (pa_cons (pv 0) pa_nil)))
 (pss_cons (ps_set (i := 2) sclaw.nd rfl (Or.inl rfl) (pe_ifExp (pt_cmpR op_eq (pe_call G_law_draw (hr.mono (by decide)) (by rfl) C_law_draw.m C_law_draw.k C_law_draw.b .nil pass0 (pa_cons (pv 1) (pa_cons pe_int pa_nil))) pe_int (nomark _)) pe_int (pe_call G_law_pick (hr.mono (by decide)) (by rfl) C_law_pick.m C_law_pick.k C_law_pick.b .nil pass0 (pa_cons (pv 1) (pa_cons (pe_lst (pa_cons pe_int (pa_cons pe_int (pa_cons pe_int (pa_cons pe_int (pa_cons pe_int (pa_cons pe_int pa_nil))))))) pa_nil)))))
 (pss_cons (ps_for PassesOwn.never rfl (pi_range1 (by rfl) T.range (pa_cons (pe_ifExp (pt_cmpR op_gt (pv 2) pe_int (nomark _)) pe_int pe_int) pa_nil)) (pg_name (i := 3) sclaw.nd rfl (Or.inl rfl)) (pss_cons (ps_asg (pe_call G_law_parts (hr.mono (by decide)) (by rfl) C_law_parts.m C_law_parts.k C_law_parts.b .nil pass0 (pa_cons (pv 1) (pa_cons (pv 2) pa_nil))) (pgk_tup (K := K) rfl rfl (pgs_cons (pg_name (i := 4) sclaw.nd rfl (Or.inr rfl)) (pgs_cons (pg_name (i := 5) sclaw.nd rfl (Or.inl rfl)) pgs_nil))))
 (pss_cons (ps_asg (pe_call G_law_woven (hr.mono (by decide)) (by rfl) C_law_woven.m C_law_woven.k C_law_woven.b .nil pass0 (pa_cons (pv 1) (pa_cons (pv 4) pa_nil))) (pgk_tup (K := K) rfl rfl (pgs_cons (pg_name (i := 6) sclaw.nd rfl (Or.inr rfl)) (pgs_cons (pg_name (i := 7) sclaw.nd rfl (Or.inr rfl)) pgs_nil))))
 (pss_cons (ps_set (i := 8) sclaw.nd rfl (Or.inl rfl) (pe_call G_law_put (hr.mono (by decide)) (by rfl) C_law_put.m C_law_put.k C_law_put.b .nil pass0 (pa_cons (pv 1) (pa_cons (pv 4) (pa_cons (pv 6) (pa_cons (pv 7) pa_nil))))))
 (pss_cons (ps_if (pt_cmpR op_ne (pe_call Gwinner (hr.mono (by decide)) (by rfl) Cwinner.m Cwinner.k Cwinner.b .nil pass0 (pa_cons (pv 8) (pa_cons (pe_tup pa_nil) pa_nil))) (pe_ifExp (pt_cmpR op_lt (pv 5) pe_int (nomark _)) pe_str pe_str) (nomark _)) (pss_one (ps_ret pe_bl)) pss_nil)
 (pss_cons (ps_setLc (i := 9) (own := [("owners", 14), ("rows", 15)]) (g := gTup K 2 (gCons (gName 14) (gCons (gName 15) gNil))) rfl sclaw.nd rfl rfl (sw_true rfl rfl rfl (by decide +kernel)) (ik_listI (K := K) rfl (pv 4)) (blkOk_by (own := [("owners", 14), ("rows", 15)]) (N := ["script", "deck", "most", "turn", "parts", "bad", "turns", "names", "own", "lost", "play", "letter", "goal", "menu", "owners", "rows", "x"]) (sc := defScope slaw) (by decide +kernel)) (fun _ _ _ _ _ => (pgk_tup (K := K) rfl rfl (pgs_cons (pg_name (i := 14) sclaw.nd rfl (Or.inl rfl)) (pgs_cons (pg_name (i := 15) sclaw.nd rfl (Or.inl rfl)) pgs_nil)))) (fun _ _ _ _ _ => (pts_one (pt_cmpR op_eq (pe_ix (ik_tup (K := K) rfl) (pe_call G_law_ends (hr.mono (by decide)) (by rfl) C_law_ends.m C_law_ends.k C_law_ends.b .nil pass0 (pa_cons (pe_op op_mulS pe_str (pe_callB c_lenS (by rfl) T.len (by decide +kernel) (pa_cons (pv 14) pa_nil))) (pa_cons (pv 15) (pa_cons (pe_tup pa_nil) pa_nil)))) pe_int (fun _ _ => rfl)) pe_str (nomark _)))) (fun _ _ _ _ _ => pe_int))
 (pss_cons (ps_if (pt_cmpR op_ne (pe_call Gwinner (hr.mono (by decide)) (by rfl) Cwinner.m Cwinner.k Cwinner.b .nil pass0 (pa_cons (pe_tup (pa_cons (pe_op op_mulS pe_str (pe_callB c_lenS (by rfl) T.len (by decide +kernel) (pa_cons (pe_ix (ik_tup (K := K) rfl) (pv 8) pe_int (fun _ _ => rfl)) pa_nil))) (pa_cons (pe_ix (ik_tup (K := K) rfl) (pv 8) pe_int (fun _ _ => rfl)) pa_nil))) (pa_cons (pe_tup pa_nil) pa_nil))) (pe_ifExp (pt_cmpR (ok_eqD (K := K) rfl hr.units) (pv 9) (pe_lst pa_nil) (nomark _)) pe_str pe_str) (nomark _)) (pss_one (ps_ret pe_bl)) pss_nil)
 (pss_cons (ps_set (i := 10) sclaw.nd rfl (Or.inr rfl) (pe_tup pa_nil))
 (pss_cons (ps_for PassesOwn.never rfl (pi_range2 (by rfl) T.range (pa_cons pe_int (pa_cons (pe_op op_add (pe_callB (c_max2 rfl) (by rfl) T.max (by decide +kernel) (pa_cons (pe_op op_sub (pe_callB (c_len (K := K) rfl) (by rfl) T.len (by decide +kernel) (pa_cons (pv 6) pa_nil)) pe_int) (pa_cons (pe_call G_law_draw (hr.mono (by decide)) (by rfl) C_law_draw.m C_law_draw.k C_law_draw.b .nil pass0 (pa_cons (pv 1) (pa_cons (pe_callB (c_len (K := K) rfl) (by rfl) T.len (by decide +kernel) (pa_cons (pv 6) pa_nil)) pa_nil))) pa_nil))) pe_int) pa_nil))) (pg_name (i := 11) sclaw.nd rfl (Or.inl rfl)) (pss_one (ps_set (i := 10) sclaw.nd rfl (Or.inr rfl) (pe_op (ok_catT (K := K) rfl) (pv 10) (pe_tup (pa_cons (pe_call G_law_pick (hr.mono (by decide)) (by rfl) C_law_pick.m C_law_pick.k C_law_pick.b .nil pass0 (pa_cons (pv 1) (pa_cons (pe_lst (pa_cons (pv 11) (pa_cons (pe_un un_neg (pv 11)) pa_nil))) pa_nil))) pa_nil))))))
 (pss_cons (ps_if (pt_cmpR op_ne (pe_call Gwinner (hr.mono (by decide)) (by rfl) Cwinner.m Cwinner.k Cwinner.b .nil pass0 (pa_cons (pv 8) (pa_cons (pv 10) pa_nil))) (pe_call G_law_goes_on (hr.mono (by decide)) (by rfl) C_law_goes_on.m C_law_goes_on.k C_law_goes_on.b .nil pass0 (pa_cons (pv 4) (pa_cons (pv 6) (pa_cons (pv 7) (pa_cons (pv 10) pa_nil))))) (nomark _)) (pss_one (ps_ret pe_bl)) pss_nil)
 (pss_cons (ps_asg (pe_tup (pa_cons (pe_ifExp (pt_cmpR op_eq (pe_ix ix_str (pe_ix (ik_tup (K := K) rfl) (pv 8) pe_int (fun _ _ => rfl)) (pe_callB (c_len (K := K) rfl) (by rfl) T.len (by decide +kernel) (pa_cons (pv 10) pa_nil)) (fun _ _ => rfl)) pe_str (nomark _)) pe_str pe_str) (pa_cons (pe_op op_add (pe_callB (c_len (K := K) rfl) (by rfl) T.len (by decide +kernel) (pa_cons (pv 10) pa_nil)) pe_int) pa_nil))) (pgk_tup (K := K) rfl rfl (pgs_cons (pg_name (i := 12) sclaw.nd rfl (Or.inr rfl)) (pgs_cons (pg_name (i := 11) sclaw.nd rfl (Or.inl rfl)) pgs_nil))))
 (pss_cons (ps_setLc (i := 13) (own := [("x", 16)]) (g := gName 16) rfl sclaw.nd rfl rfl (sw_true rfl rfl rfl (by decide +kernel)) (ik_tupI (K := K) rfl (pe_tup (pa_cons (pe_un un_neg (pv 11)) (pa_cons (pv 11) pa_nil)))) (blkOk_by (own := [("x", 16)]) (N := ["script", "deck", "most", "turn", "parts", "bad", "turns", "names", "own", "lost", "play", "letter", "goal", "menu", "owners", "rows", "x"]) (sc := defScope slaw) (by decide +kernel)) (fun _ _ _ _ _ => (pg_name (i := 16) sclaw.nd rfl (Or.inl rfl))) (fun _ _ _ _ _ => (pts_one (pt_cmpR op_eq (pe_call G_law_goes_on (hr.mono (by decide)) (by rfl) C_law_goes_on.m C_law_goes_on.k C_law_goes_on.b .nil pass0 (pa_cons (pv 4) (pa_cons (pv 6) (pa_cons (pv 7) (pa_cons (pe_op (ok_catT (K := K) rfl) (pv 10) (pe_tup (pa_cons (pv 16) pa_nil))) pa_nil))))) (pv 12) (nomark _)))) (fun _ _ _ _ _ => (pv 16)))
 (pss_one (ps_if (pt_cmpR (ok_neD (K := K) rfl hr.units) (pe_call Ggood_moves (hr.mono (by decide)) (by rfl) Cgood_moves.m Cgood_moves.k Cgood_moves.b .nil pass0 (pa_cons (pv 8) (pa_cons (pv 10) pa_nil))) (pe_callTy (c_tuple (K := K) rfl) (by rfl) T.tuple (by decide +kernel) (pa_cons (pv 13) pa_nil)) (nomark _)) (pss_one (ps_ret pe_bl)) pss_nil))))))))))))))
 (pss_one (ps_ret pe_bl))))), ?_⟩
    refine rd_start (σ' := [some (.ref a), none, none, none, none, none, none, none, none, none, none, none, none, none, none, none, none]) rfl ?_
    walk_at "rvs"
    refine ⟨a, ns, rfl, ha, hl, fun d l H1 e1 hd hl0 hD1 => ?_⟩
    walk_at "rvs"
    refine rd_ifV7 (fun v H' => ∃ m : Int, v = .int m ∧ 7 ≤ m ∧ m ≤ 12 ∧ DeckL d l H') (fun N kN => ?_) fun v H2 hv => ?_
    · walk_at "rds"
      refine ⟨d, l, 16, rfl, hD1, by decide, by decide, fun r H2 g2 r0 r1 => ?_⟩
      walk_at "rds"
      refine rd_ite (fun c => ?_) (fun c => ?_)
      · walk_at "rds"
        exact kN _ _ ⟨12, rfl, by decide, by decide, g2.dk⟩
      · walk_at "rds"
        refine ⟨(by show 6 ≤ sizeLine; decide), fun b hb => ?_⟩
        have gb := Gl.new (o := .lst [V.int 7, .int 8, .int 8, .int 9, .int 9, .int 10]) g2.dk hb
        walk_at "rds"
        refine ⟨d, l, b, _, rfl, gb.dk, upd_same, (g2.dk.off hb).1, (g2.dk.off hb).2, by show 1 ≤ 6; decide, by show 6 ≤ 1000; decide, fun y H3 g3 hy => ?_⟩
        simp only [List.mem_cons, List.not_mem_nil, or_false] at hy
        rcases hy with rfl | rfl | rfl | rfl | rfl | rfl
        · exact kN _ _ ⟨7, rfl, by decide, by decide, g3.dk⟩
        · exact kN _ _ ⟨8, rfl, by decide, by decide, g3.dk⟩
        · exact kN _ _ ⟨8, rfl, by decide, by decide, g3.dk⟩
        · exact kN _ _ ⟨9, rfl, by decide, by decide, g3.dk⟩
        · exact kN _ _ ⟨9, rfl, by decide, by decide, g3.dk⟩
        · exact kN _ _ ⟨10, rfl, by decide, by decide, g3.dk⟩
    obtain ⟨most, rfl, m7, m12, hD2⟩ := hv
    clear hD1
    walk_at "rvs"
    refine rd_ifV7 (fun v H' => ∃ m : Int, v = .int m ∧ 0 ≤ m ∧ m ≤ 2 ∧ H' = H2) (fun N kN => ?_) fun v H3 hv => ?_
    · walk_at "rds"
      refine rd_ite (fun c => ?_) (fun c => ?_)
      · walk_at "rds"
        exact kN _ _ ⟨1, rfl, by decide, by decide, rfl⟩
      · walk_at "rds"
        exact kN _ _ ⟨2, rfl, by decide, by decide, rfl⟩
    obtain ⟨tm, rfl, tm0, tm2, rfl⟩ := hv
    walk_at "rvs"
    refine rd_rng1 (by omega) (by omega) ?_
    refine fr_range (lo := 0) (n := tm.toNat) (fun i σ' H' => ∃ x3 x4 x5 x6 x7 x8 x9 xa xb xc xd : Option V, σ' = [some (.ref a), some (.ref d), some (.int most), x3, x4, x5, x6, x7, x8, x9, xa, xb, xc, xd, none, none, none] ∧ DeckL d l H')
      ⟨_, _, _, _, _, _, _, _, _, _, _, rfl, hD2⟩ (fun i σ' H4 hi hP => ?_) fun σ' H4 hP => ?_
    · clear hD2
      obtain ⟨x3, x4, x5, x6, x7, x8, x9, xa, xb, xc, xd, rfl, hD4⟩ := hP
      refine rd_start (σ' := [some (.ref a), some (.ref d), some (.int most), some (.int (0 + (i : Int))), x4, x5, x6, x7, x8, x9, xa, xb, xc, xd, none, none, none]) rfl ?_
      walk_at "rvs"
      refine ⟨d, l, most, rfl, hD4, m7, m12, fun qp PL ws cs pts bd H5 g5 sq5 hP5 oP1 oP2 sens pok t1 tm1 hbd => ?_⟩
      have hD5 := g5.dk
      have lp := pt_len pok
      clear g5 hD4
      walk_at "rvs"
      refine rd_gtup2 (x := .ref PL) (y := .int bd) sq5 rfl (σ' := [some (.ref a), some (.ref d), some (.int most), some (.int (0 + (i : Int))), some (.ref PL), some (.int bd), x6, x7, x8, x9, xa, xb, xc, xd, none, none, none]) rfl ?_
      walk_at "rvs"
      refine ⟨d, l, PL, ws, cs, pts, rfl, hD5, hP5, oP1, oP2, sens, pok, t1, by omega, fun qw TA NA ts nv H6 g6 sq6 hT6 eT hN6 eN nmi ht hts heq => ?_⟩
      have hD6 := g6.dk
      have oT := hD5.off eT
      have oN := hD5.off eN
      have nmv : NmV d l H6 nv pts.length ts := ⟨nmi.1, fun a ha => by
        obtain ⟨b, h1, h2, _, h4, _⟩ := nmi.2 a ha
        exact ⟨b, h1, (hD5.off h2).1, (hD5.off h2).2, h4⟩⟩
      have hP6 := g6.kp PL _ oP1 oP2 hP5
      have sens6 := sens.gl g6 hD5
      clear nmi sens hP5 g6 eT eN sq5
      walk_at "rvs"
      refine rd_gtup2 (x := .ref TA) (y := .ref NA) sq6 rfl (σ' := [some (.ref a), some (.ref d), some (.int most), some (.int (0 + (i : Int))), some (.ref PL), some (.int bd), some (.ref TA), some (.ref NA), x8, x9, xa, xb, xc, xd, none, none, none]) rfl ?_
      clear sq6
      walk_at "rvs"
      refine ⟨d, l, PL, TA, NA, ws, cs, pts, ts, nv, rfl, hD6, hP6, oP1, oP2, sens6, pok, by omega, hT6, oT.1, oT.2, hN6, oN.1, oN.2, nmv, ht, hts, heq, fun o z R H7 g7 sen W => ?_⟩
      have hD7 := g7.dk
      have hP7 := g7.kp PL _ oP1 oP2 hP6
      have hN7 := g7.kp NA _ oN.1 oN.2 hN6
      have hT7 := g7.kp TA _ oT.1 oT.2 hT6
      have sens7 := sens6.gl g7 hD6
      have nmv7 := nmv.gl g7
      clear nmv sens6 hT6 hN6 hP6 g7 hD6 hD5
      have n12 : ts.length ≤ 12 := by omega
      have n1 : 1 ≤ ts.length := by omega
      have hst : winF ts.length z R [] = pts.all winP := by rw [weave W ts.length [] (fun i x e => by simp at e) (by simp), start_all]
      have Ws := wov_s W
      have hss : winF ts.length (sS ts.length) R [] = pts.all winS := by rw [weave Ws ts.length [] (fun i x e => by simp at e) (by simp), start_s]
      walk_at "rvs"
      refine rd_if ?_
      walk_at "rvs"
      refine ⟨Nat.zero_le _, fun t4 h4 => ?_⟩
      have e8 := Evl.Ex.new (o := .tup []) h4
      walk_at "rvs"
      refine ⟨o, t4, z, ts.length, R, [], rfl, sen.ex e8, SqT.of upd_same, Nat.zero_le _, n12, fun H8 e9 => ?_⟩
      rw [hst]
      have e89 := e8.trans e9
      have g8 := Gl.ex e89 hD7
      have hD8 := g8.dk
      have hP8 := e89 _ _ hP7
      have hN8 := e89 _ _ hN7
      have hT8 := e89 _ _ hT7
      have sens8 := sens7.ex e89
      have nmv8 := nmv7.gl g8
      have sen8 := sen.ex e89
      clear g8 e89 e9 e8 h4 hD7 hP7 hN7 hT7 sens7 nmv7 sen hst
      walk_at "rvs"
      refine rd_ifV7 (fun v H' => v = .str (whoT (pts.all winP)) ∧ H' = H8) (fun N kN => ?_) fun v H9 hv => ?_
      · walk_at "rds"
        refine rd_ite (fun c => ?_) (fun c => ?_)
        · walk_at "rds"
          have hc := hbd.mp c
          exact kN _ _ ⟨by rw [hc]; rfl, rfl⟩
        · walk_at "rds"
          have hc : pts.all winP = false := by
            cases ca : pts.all winP with
            | false => rfl
            | true => exact absurd (hbd.mpr ca) c
          exact kN _ _ ⟨by rw [hc]; rfl, rfl⟩
      obtain ⟨rfl, rfl⟩ := hv
      walk_at "rvs"
      refine rd_iten (fun c => absurd rfl c) (fun _ => ?_)
      walk_at "rvs"
      refine rd_refL (SqL.of hP8) ?_
      refine lc_prL (px := fun i => .str (pts.getD i pt0).z) (py := fun i => .ref (cs.getD i 0)) rfl (SqL.of hP8) (by rw [sens8.1]; omega) (fun j hj => ?_) (σx := fun x y => [some (.ref a), some (.ref d), some (.int most), some (.int (0 + (i : Int))), some (.ref PL), some (.int bd), some (.ref TA), some (.ref NA), some (.ref o), x9, xa, xb, xc, xd, some x, some y, none]) (fun _ _ => rfl) (fun _ _ => rfl)
        (f := fun j => !winS (pts.getD j pt0)) (g := fun _ => .int 1) (fun j hj H' N S e kN kS => ?_) fun D9 HA eA eD9 hD9 => ?_
      · obtain ⟨a, xs, h0, h1, _⟩ := sens8.2.2 j (by rw [← sens8.1]; exact hj)
        refine ⟨a, ?_, h1⟩
        rw [← h0, List.getD_eq_getElem?_getD, List.getElem?_eq_getElem hj] <;> rfl
      · have hj2 : j < pts.length := by rw [← sens8.1]; exact hj
        have pk := pok _ (pt_mem hj2)
        obtain ⟨a, xs, h0, h1, h2, h3⟩ := (sens8.2.2 j hj2).ex e
        walk_at "rvs"
        refine rd_lenS (by rw [pk.1.1, sizeLine_eq]; have := pk.2.2.1; omega) ?_
        rw [pk.1.1]
        refine rd_mulS (by omega) (by have := pk.2.2.1; omega) (by decide) (by decide) ?_
        walk_at "rvs"
        refine ⟨Nat.zero_le _, fun t4 h4 => ?_⟩
        have e4 := Evl.Ex.new (o := .tup []) h4
        walk_at "rvs"
        refine ⟨_, _, t4, (pts.getD j pt0).n, xs, _, [], rfl, sS_own _, by have := pk.2.2.1; omega, Evl.ex_t e4 h2, dpAll_ex e4 _ _ h3, pk.2.2.2.1, by have := pk.2.2.2.2; omega, SqT.of upd_same, fun i x e => by simp at e, Nat.zero_le _, by have := pk.2.2.1; show _ - 0 < 13; omega, fun v H2 e2 hv => ?_⟩
        obtain ⟨qa, cnt, rfl, hc, sq⟩ := hv
        have hww : winR (repS (Str.ofString "s") ((pts.getD j pt0).n : Int)) ((pts.getD j pt0).n - ([] : List Int).length) ((([] : List Int).length : Int) + 1) (askedF [] (pts.getD j pt0).R) = winS (pts.getD j pt0) := rfl
        rw [hww] at sq
        walk_at "rvs"
        refine rd_ixT sq rfl ?_
        walk_at "rvs"
        rw [who_each]
        cases c1 : winS (pts.getD j pt0) with
        | false =>
          refine (if_pos rfl).mpr ?_
          walk_at "rvs"
          exact kN (by show (!winS (pts.getD j pt0)) = true; rw [c1]; rfl) _ (e4.trans e2)
        | true =>
          refine (if_neg (by decide)).mpr ?_
          exact kS (by show (!winS (pts.getD j pt0)) = false; rw [c1]; rfl) _ (e4.trans e2)
      rw [sens8.1] at hD9
      have hD9' : HA D9 = some (.lst ((((List.range pts.length).filter fun j => !winS (pts.getD j pt0)).map fun _ => (1 : Int)).map V.int)) := by rw [hD9, List.map_map] <;> rfl
      have lons : (((List.range pts.length).filter fun j => !winS (pts.getD j pt0)).map fun _ => (1 : Int)).length ≤ 12 := by
        rw [List.length_map]
        refine Nat.le_trans (List.length_filter_le _ _) ?_
        rw [List.length_range]
        omega
      have hons : ∀ x ∈ (((List.range pts.length).filter fun j => !winS (pts.getD j pt0)).map fun _ => (1 : Int)), x = 1 := fun x hx => by
        obtain ⟨_, _, rfl⟩ := List.mem_map.mp hx
        rfl
      obtain ⟨c, xs, s1, s2, dd, hz, hn60, hrow, hR300⟩ := sen8.ex eA
      walk_at "rvs"
      dsimp only
      refine rd_if ?_
      walk_at "rvs"
      refine rd_ixT s1 rfl ?_
      walk_at "rvs"
      refine rd_lenS (by rw [hz.1, sizeLine_eq]; omega) ?_
      rw [hz.1]
      refine rd_mulS (by omega) (by omega) (by decide) (by decide) ?_
      walk_at "rvs"
      refine rd_ixT s1 rfl ?_
      walk_at "rvs"
      refine ⟨(by show 2 ≤ sizeLine; decide), fun o2 ho2 => ?_⟩
      have eB := Evl.Ex.new (o := .tup [V.str (repS (Str.ofString "s") (ts.length : Int)), .ref c]) ho2
      have senS : Sen K (upd HA o2 (.tup [V.str (repS (Str.ofString "s") (ts.length : Int)), .ref c])) ts.length o2 (sS ts.length) R := ⟨c, xs, SqT.of upd_same, Evl.ex_t eB s2, dpAll_ex eB _ _ dd, sS_own _, hn60, hrow, hR300⟩
      walk_at "rvs"
      refine ⟨Nat.zero_le _, fun t5 h5 => ?_⟩
      have eC := Evl.Ex.new (o := .tup []) h5
      walk_at "rvs"
      refine ⟨o2, t5, sS ts.length, ts.length, R, [], rfl, senS.ex eC, SqT.of upd_same, Nat.zero_le _, n12, fun HC eD => ?_⟩
      rw [hss]
      have eF := ((eA.trans eB).trans eC).trans eD
      have hD9C := ((eB.trans eC).trans eD) _ _ hD9'
      have gC := Gl.ex eF hD8
      have hDC := gC.dk
      have hPC := eF _ _ hP8
      have hNC := eF _ _ hN8
      have hTC := eF _ _ hT8
      have sensC := sens8.ex eF
      have nmvC := nmv8.gl gC
      have senC := sen8.ex eF
      clear gC eF eD eC h5 senS eB ho2 s1 s2 dd hD9' hD9 eD9 eA hP8 hN8 hT8 sens8 nmv8 sen8 hD8 hss
      walk_at "rvs"
      refine rd_ifV7 (fun v H' => v = .str (whoT (pts.all winS)) ∧ Evl.Ex HC H') (fun N kN => ?_) fun v HD hv => ?_
      · walk_at "rds"
        refine ⟨Nat.zero_le _, fun t6 h6 => ?_⟩
        have e6 := Evl.Ex.new (o := .lst []) h6
        walk_at "rds"
        refine rd_eqD (.lst (SqL.of (e6 _ _ hD9C)) (dp_ints _)) (.lst (SqL.of upd_same) .nil) (nice_ones (k := 12) (by decide) lons hons) (nice_ones (k := 12) (l := []) (by decide) (by decide) nofun) (by decide) (by decide) ?_
        have ee : PyData.eqv (.list (dI (((List.range pts.length).filter fun j => !winS (pts.getD j pt0)).map fun _ => (1 : Int)))) (.list []) = pts.all winS := none_badF pts winS
        rw [ee]
        walk_at "rds"
        cases cw : pts.all winS with
        | true =>
          refine (if_pos rfl).mpr ?_
          walk_at "rds"
          exact kN _ _ ⟨by rw [cw]; rfl, e6⟩
        | false =>
          refine (if_neg (by decide)).mpr ?_
          walk_at "rds"
          exact kN _ _ ⟨by rw [cw]; rfl, e6⟩
      obtain ⟨rfl, eHD⟩ := hv
      walk_at "rvs"
      refine rd_iten (fun c => absurd rfl c) (fun _ => ?_)
      have gE := Gl.ex eHD hDC
      have hDE := gE.dk
      have hPE := eHD _ _ hPC
      have hNE := eHD _ _ hNC
      have hTE := eHD _ _ hTC
      have sensE := sensC.ex eHD
      have nmvE := nmvC.gl gE
      have senE := senC.ex eHD
      clear gE eHD hDC hPC hNC hTC sensC nmvC senC hD9C lons hons
      walk_at "rvs"
      refine ⟨Nat.zero_le _, fun t7 h7 => ?_⟩
      have e7 := Evl.Ex.new (o := .tup []) h7
      have s7 : SqT K (upd HD t7 (.tup [])) t7 (([] : List Int).map V.int) := SqT.of upd_same
      have gG := Gl.ex e7 hDE
      have hDG := gG.dk
      have hPG := e7 _ _ hPE
      have hNG := e7 _ _ hNE
      have hTG := e7 _ _ hTE
      have sensG := sensE.ex e7
      have nmvG := nmvE.gl gG
      have senG := senE.ex e7
      generalize upd HD t7 (.tup []) = HG at s7 hDG hPG hNG hTG sensG nmvG senG ⊢
      clear gG e7 h7 hDE hPE hNE hTE sensE nmvE senE
      walk_at "rvs"
      refine rd_lenL (SqL.of hTG) ?_
      rw [List.length_map]
      walk_at "rvs"
      refine rd_lenL (SqL.of hTG) ?_
      rw [List.length_map]
      walk_at "rvs"
      refine ⟨d, l, (ts.length : Int), rfl, hDG, by omega, by omega, fun r HI gI r0 r1 => ?_⟩
      walk_at "rvs"
      obtain ⟨M, hM, hMn⟩ : ∃ M : Nat, (if r > (ts.length : Int) - 8 then r else (ts.length : Int) - 8) = (M : Int) ∧ M < ts.length := by
        split
        · exact ⟨r.toNat, by omega, by omega⟩
        · exact ⟨((ts.length : Int) - 8).toNat, by omega, by omega⟩
      rw [hM]
      have sI := gI.tup hDG s7
      have hPI := gI.kp PL _ oP1 oP2 hPG
      have hNI := gI.kp NA _ oN.1 oN.2 hNG
      have sensI := sensG.gl gI hDG
      have nmvI := nmvG.gl gI
      have senI := senG.gl gI hDG
      have hDI := gI.dk
      clear gI hDG hPG hNG hTG sensG nmvG senG s7
      refine ⟨1, (M : Int) + 1, rfl, ⟨by omega, by omega, by omega, by omega⟩, ?_⟩
      rw [show ((M : Int) + 1 - 1).toNat = M by omega]
      refine fr_range (lo := 1) (n := M) (fun j σ' H' => ∃ (b : Addr) (p : List Int) (xb : Option V), σ' = [some (.ref a), some (.ref d), some (.int most), some (.int (0 + (i : Int))), some (.ref PL), some (.int bd), some (.ref TA), some (.ref NA), some (.ref o), some (.ref D9), some (.ref b), xb, xc, xd, none, none, none] ∧ Gl d l HI H' ∧ SqT K H' b (p.map V.int) ∧ p.length = j ∧ PlayOk p)
        ⟨t7, [], _, rfl, Gl.refl hDI, sI, rfl, fun i x e => by simp at e⟩ (fun j σ' HJ hj hPJ => ?_) fun σ' HJ hPJ => ?_
      · obtain ⟨b, p, xb, rfl, gJ, sb, rfl, okp⟩ := hPJ
        refine rd_start (σ' := [some (.ref a), some (.ref d), some (.int most), some (.int (0 + (i : Int))), some (.ref PL), some (.int bd), some (.ref TA), some (.ref NA), some (.ref o), some (.ref D9), some (.ref b), some (.int (1 + (p.length : Int))), xc, xd, none, none, none]) rfl ?_
        walk_at "rvs"
        refine ⟨(by show 2 ≤ sizeLine; decide), fun b2 hb2 => ?_⟩
        have gK := Gl.new (o := .lst [V.int (1 + (p.length : Int)), .int (-(1 + (p.length : Int)))]) gJ.dk hb2
        have ob := gJ.dk.off hb2
        have eb2 := Evl.Ex.new (o := .lst [V.int (1 + (p.length : Int)), .int (-(1 + (p.length : Int)))]) hb2
        walk_at "rvs"
        refine ⟨d, l, b2, _, rfl, gK.dk, upd_same, ob.1, ob.2, by show 1 ≤ 2; decide, by show 2 ≤ 1000; decide, fun y HK gL hy9 => ?_⟩
        obtain ⟨u, rfl, hu⟩ : ∃ u : Int, y = .int u ∧ u.natAbs = p.length + 1 := by
          simp only [List.mem_cons, List.not_mem_nil, or_false] at hy9
          rcases hy9 with rfl | rfl
          · exact ⟨_, rfl, by omega⟩
          · exact ⟨_, rfl, by omega⟩
        have gKL := gK.trans gL
        have sb2 := gKL.tup gJ.dk sb
        walk_at "rvs"
        refine ⟨(by show 1 ≤ sizeLine; decide), fun b3 hb3 => ?_⟩
        have eM := Evl.Ex.new (o := .tup [V.int u]) hb3
        walk_at "rvs"
        refine rd_catT (ys := [V.int u]) (Evl.ex_t eM sb2) (SqT.of upd_same) (by rw [List.length_map, sizeLine_eq]; show _ + 1 ≤ _; omega) fun b4 HM eN sM => ?_
        walk_at "rvs"
        exact ⟨b4, p ++ [u], _, rfl, (gJ.trans gKL).trans (Gl.ex (eM.trans eN) gL.dk), by rw [List.map_append]; exact sM, snoc_len _ _, okp.snoc hu⟩
      obtain ⟨b, p, xb, rfl, gJ, sb, lpM, okp⟩ := hPJ
      have hPJ := gJ.kp PL _ oP1 oP2 hPI
      have hNJ := gJ.kp NA _ oN.1 oN.2 hNI
      have sensJ := sensI.gl gJ hDI
      have nmvJ := (nmvI.gl gJ).wk
      have senJ := senI.gl gJ hDI
      have hDJ := gJ.dk
      clear gJ hDI hPI hNI sensI nmvI senI sI
      have hpl : p.length < ts.length := by omega
      have hwv : ∀ p' : List Int, PlayOk p' → p'.length ≤ ts.length → winF ts.length z R p' = (named pts ts).all (winQ p') := fun p' ok hl => weave W (ts.length - p'.length) p' ok (by omega)
      walk_at "rvs"
      dsimp only
      refine rd_if ?_
      walk_at "rvs"
      refine ⟨o, b, z, ts.length, R, p, rfl, senJ, sb, by omega, n12, fun HK eK => ?_⟩
      walk_at "rvs"
      refine ⟨PL, NA, b, .ref TA, ws, cs, pts, ts, nv, p, rfl, eK _ _ hPJ, sensJ.ex eK, pok, by omega, eK _ _ hNJ, nmvJ.ex eK, heq, Evl.ex_t eK sb, by omega, fun HL eL => ?_⟩
      rw [hwv p okp (by omega)]
      walk_at "rvs"
      refine rd_iten (fun c => absurd rfl c) (fun _ => ?_)
      have eKL := eK.trans eL
      have gL := Gl.ex eKL hDJ
      have hDL := gL.dk
      have hPL := eKL _ _ hPJ
      have hNL := eKL _ _ hNJ
      have sensL := sensJ.ex eKL
      have nmvL := nmvJ.ex eKL
      have senL := senJ.ex eKL
      have sbL := Evl.ex_t eKL sb
      clear gL eKL eL eK hDJ hPJ hNJ sensJ nmvJ senJ sb
      obtain ⟨c, xs, s1, s2, dd, hz, hn60, hrow, hR300⟩ := id senL
      walk_at "rvs"
      refine rd_ifV7 (fun v H' => v = .str (whoT (nextS z p)) ∧ H' = HL) (fun N kN => ?_) fun v HM hv => ?_
      · walk_at "rds"
        refine rd_ixT s1 rfl ?_
        walk_at "rds"
        refine rd_lenT sbL ?_
        rw [List.length_map]
        have hzl : z.cps.toList.length = ts.length := hz.1
        refine rd_ixS (c := z.cps.toList.getD p.length 0) (by rw [hz.1, sizeLine_eq]; omega) (atI_nat (getD_some (by omega))) ?_
        walk_at "rds"
        have es : sgn z ((p.length : Int) + 1) = z.cps.toList.getD p.length 0 := by
          unfold sgn
          rw [show ((p.length : Int) + 1).natAbs - 1 = p.length by omega]
        have en : decide (V.str (⟨#[z.cps.toList.getD p.length 0]⟩ : Str) = V.str (Str.ofString "s")) = nextS z p := by
          unfold nextS heldBy
          rw [es] <;> rfl
        rw [en]
        cases cn : nextS z p with
        | true =>
          refine (if_pos rfl).mpr ?_
          walk_at "rds"
          exact kN _ _ ⟨by rw [cn]; rfl, rfl⟩
        | false =>
          refine (if_neg (by decide)).mpr ?_
          walk_at "rds"
          exact kN _ _ ⟨by rw [cn]; rfl, rfl⟩
      obtain ⟨rfl, rfl⟩ := hv
      walk_at "rvs"
      refine rd_lenT sbL ?_
      rw [List.length_map]
      walk_at "rvs"
      refine ⟨(by show 2 ≤ sizeLine; decide), fun t8 h8 => ?_⟩
      have e8 := Evl.Ex.new (o := .tup [V.str (whoT (nextS z p)), .int ((p.length : Int) + 1)]) h8
      refine rd_gtup2 (x := .str (whoT (nextS z p))) (y := .int ((p.length : Int) + 1)) (SqT.of upd_same) rfl (σ' := [some (.ref a), some (.ref d), some (.int most), some (.int (0 + (i : Int))), some (.ref PL), some (.int bd), some (.ref TA), some (.ref NA), some (.ref o), some (.ref D9), some (.ref b), some (.int ((p.length : Int) + 1)), some (.str (whoT (nextS z p))), xd, none, none, none]) rfl ?_
      have gM := Gl.ex e8 hDL
      have hDM := gM.dk
      have hPM := e8 _ _ hPL
      have hNM := e8 _ _ hNL
      have sensM := sensL.ex e8
      have nmvM := nmvL.ex e8
      have senM := senL.ex e8
      have sbM := Evl.ex_t e8 sbL
      generalize upd HM t8 (.tup [V.str (whoT (nextS z p)), .int ((p.length : Int) + 1)]) = HN at hDM hPM hNM sensM nmvM senM sbM ⊢
      clear gM e8 h8 hDL hPL hNL sensL nmvL senL sbL s1 s2 dd
      walk_at "rvs"
      refine ⟨(by show 2 ≤ sizeLine; decide), fun t9 h9 => ?_⟩
      have e9 := Evl.Ex.new (o := .tup [V.int (-((p.length : Int) + 1)), .int ((p.length : Int) + 1)]) h9
      walk_at "rvs"
      refine rd_ref (SqT.of upd_same) ?_
      refine lc_fmT (ns := [-((p.length : Int) + 1), (p.length : Int) + 1]) (fun x => decide (winF ts.length z R (p ++ [x]) = nextS z p)) V.int (σx := fun x => [some (.ref a), some (.ref d), some (.int most), some (.int (0 + (i : Int))), some (.ref PL), some (.int bd), some (.ref TA), some (.ref NA), some (.ref o), some (.ref D9), some (.ref b), some (.int ((p.length : Int) + 1)), some (.str (whoT (nextS z p))), xd, none, none, some x]) (SqT.of upd_same) (by show 2 ≤ 40000; decide) (fun _ => rfl) (fun _ => rfl) (fun x hx H' Nx S e kN kS => ?_) fun DM HO eO eDM hDM2 => ?_
      · have hxa : x.natAbs = p.length + 1 := by
          simp only [List.mem_cons, List.not_mem_nil, or_false] at hx
          rcases hx with rfl | rfl <;> omega
        have e9e := e9.trans e
        walk_at "rvs"
        refine ⟨(by show 1 ≤ sizeLine; decide), fun b3 hb3 => ?_⟩
        have eM := Evl.Ex.new (o := .tup [V.int x]) hb3
        walk_at "rvs"
        refine rd_catT (ys := [V.int x]) (Evl.ex_t (e9e.trans eM) sbM) (SqT.of upd_same) (by rw [List.length_map, sizeLine_eq]; show _ + 1 ≤ _; omega) fun b4 HQ eN sM => ?_
        have eQ := (e9e.trans eM).trans eN
        have sM : SqT K HQ b4 ((p ++ [x]).map V.int) := by rw [List.map_append]; exact sM
        walk_at "rvs"
        refine ⟨PL, NA, b4, .ref TA, ws, cs, pts, ts, nv, p ++ [x], rfl, eQ _ _ hPM, sensM.ex eQ, pok, by omega, eQ _ _ hNM, nmvM.ex eQ, heq, sM, by rw [snoc_len]; omega, fun HR eR => ?_⟩
        rw [← hwv (p ++ [x]) (okp.snoc hxa) (by rw [snoc_len]; omega)]
        walk_at "rvs"
        rw [who7]
        have eT := (eM.trans eN).trans eR
        cases cw : decide (winF ts.length z R (p ++ [x]) = nextS z p) with
        | true =>
          refine (if_pos rfl).mpr ?_
          walk_at "rvs"
          exact kN cw _ eT
        | false =>
          refine (if_neg (by decide)).mpr ?_
          exact kS cw _ eT
      have eg : ([-((p.length : Int) + 1), (p.length : Int) + 1].filter fun x => decide (winF ts.length z R (p ++ [x]) = nextS z p)) = goodF ts.length z R p := rfl
      rw [eg] at hDM2
      have eP := e9.trans eO
      walk_at "rvs"
      dsimp only
      refine rd_if ?_
      walk_at "rvs"
      refine ⟨o, b, z, ts.length, R, p, rfl, senM.ex eP, Evl.ex_t eP sbM, hpl, n12, fun q9 HS eS t9 => ?_⟩
      walk_at "rvs"
      refine rd_tupL (SqL.of (eS _ _ hDM2)) fun o9 ho9 => ?_
      have eU := Evl.Ex.new (o := .tup ((goodF ts.length z R p).map V.int)) ho9
      walk_at "rvs"
      refine rd_neD (dp_of_row (Evl.ex_t eU t9)) (dp_of_row (SqT.of upd_same)) (good7 (by omega)) (good7 (by omega)) (by decide) (by decide) ?_
      rw [eqv7]
      walk_at "rvs"
      refine (if_neg (by decide)).mpr ?_
      walk_at "rvs"
      exact ⟨_, _, _, _, _, _, _, _, _, _, _, rfl, (Gl.ex ((eP.trans eS).trans eU) hDM).dk⟩
    · obtain ⟨x3, x4, x5, x6, x7, x8, x9, xa, xb, xc, xd, rfl, hD4⟩ := hP
      walk_at "rvs"
      exact q _
end
end KA
set_option Elab.async false
set_option linter.all false
set_option maxRecDepth 100000
set_option maxHeartbeats 400000
namespace KA
open PySem PySem.Spec PyProof.Rows L2 Ea
theorem cls_if {K : PySem.W.Frag} {S : Addr} {o : Option Bool} (h2 : PySem.W.isClsIn K S = true) (h3 : PySem.W.typeIn K (.ref S) = some (.type "type")) :
    (if ((PySem.W.clsIn K S).isSome && PySem.W.typeIn K (.ref S) == some (.type "type")) = true then o else none) = o := by
  have q : (PySem.W.clsIn K S).isSome = true := h2
  rw [q, h3]
  exact if_pos rfl
theorem kit_up {K : PySem.W.Frag} {t : Value} {S : Addr} (h2 : PySem.W.isClsIn K S = true) (h3 : PySem.W.typeIn K (.ref S) = some (.type "type")) (h4 : PySem.W.subIn K t (.ref S) = some true) : PySem.W.kitOne K t (.ref S) = some true := by
  have e : PySem.W.kitCls K t (.ref S) = some true := (cls_if h2 h3).trans h4
  unfold PySem.W.kitOne
  rw [e]
  split <;> rfl
theorem kit_ty {K : PySem.W.Frag} {t : Value} (h : PySem.W.subIn K t (.type "ValueError") = some true) : PySem.W.kitOne K t (.type "ValueError") = some true := by
  have m : PySem.W.kitMeta "ValueError" = true := by first | decide +kernel | rfl | kernel_rfl
  have e : PySem.W.kitCls K t (.type "ValueError") = some true := by
    show (if PySem.W.kitMeta "ValueError" = true then PySem.W.subIn K t (.type "ValueError") else none) = some true
    rw [if_pos m]
    exact h
  unfold PySem.W.kitOne
  rw [e]
  split <;> rfl
theorem exm_same {K : PySem.W.Frag} {S : Addr} (h1 : PySem.W.subIn K (.ref S) (.type "BaseException") = some true) (h2 : PySem.W.isClsIn K S = true) (h3 : PySem.W.typeIn K (.ref S) = some (.type "type")) (h4 : PySem.W.subIn K (.ref S) (.ref S) = some true) : PySem.W.exmOne K (.ref S) (.ref S) = some true := by
  have e : PySem.W.kitCls K (.ref S) (.ref S) = some true := (cls_if h2 h3).trans h4
  unfold PySem.W.exmOne
  rw [h1, e]
  exact if_pos rfl
abbrev iArgs : Arguments := {
                  posonlyargs := [],
                  args := [
                    { arg := "self", annotation := none, pos := ⟨7, 17, 7, 21⟩ : PySem.Arg },
                    { arg := "limit", annotation := none, pos := ⟨7, 23, 7, 28⟩ : PySem.Arg }],
                  vararg := none,
                  kwonlyargs := [],
                  kw_defaults := [],
                  kwarg := none,
                  defaults := [] : PySem.Arguments }
abbrev iScope : Scope := {
                  kind := PySem.ScopeKind.function,
                  names := [
                    (PySem.Str.ofString "self", PySem.NameKind.local),
                    (PySem.Str.ofString "limit", PySem.NameKind.local),
                    (PySem.Str.ofString "__class__", PySem.NameKind.free),
                    (PySem.Str.ofString "super", PySem.NameKind.globalImplicit)],
                  isGenerator := false,
                  isCoroutine := false,
                  more := [] : PySem.Scope }
abbrev iBody : List Stmt := supBody "self" "limit" "there are more than the limit" ⟨8, 8, 8, 13⟩ ⟨8, 8, 8, 15⟩ ⟨8, 8, 8, 24⟩ ⟨8, 25, 8, 56⟩ ⟨8, 8, 8, 57⟩ ⟨8, 8, 8, 57⟩ ⟨9, 8, 9, 12⟩ ⟨9, 8, 9, 18⟩ ⟨9, 21, 9, 26⟩ ⟨9, 8, 9, 26⟩ 0
theorem all_mk {l : PySem.W.OpenLaw} {w : World} {K : PySem.W.Frag} {h : Heap} {mg : Str → Option Value} {fa f0 f1 f2 f3 f4 f5 f6 f7 f8 f9 f10 f11 f12 f13 f14 f15 f16 f17 f18 f19 f20 f21 C CG : Addr} (X : K.In h) (G : h.Ns mainGlobals mg) (hfa : mg "law" = some (.ref fa))
    {od0 an0 : Option Addr} {sl0 : Array (Option Value)} {oc0 kV0 dc0 pm0 cd0 ct0 : Value} {od1 an1 : Option Addr} {sl1 : Array (Option Value)} {oc1 kV1 dc1 pm1 cd1 ct1 : Value} {od2 an2 : Option Addr} {sl2 : Array (Option Value)} {oc2 kV2 dc2 pm2 cd2 ct2 : Value} {od3 an3 : Option Addr} {sl3 : Array (Option Value)} {oc3 kV3 dc3 pm3 cd3 ct3 : Value} {od4 an4 : Option Addr} {sl4 : Array (Option Value)} {oc4 kV4 dc4 pm4 cd4 ct4 : Value} {od5 an5 : Option Addr} {sl5 : Array (Option Value)} {oc5 kV5 dc5 pm5 cd5 ct5 : Value} {od6 an6 : Option Addr} {sl6 : Array (Option Value)} {oc6 kV6 dc6 pm6 cd6 ct6 : Value} {od7 an7 : Option Addr} {sl7 : Array (Option Value)} {oc7 kV7 dc7 pm7 cd7 ct7 : Value} {od8 an8 : Option Addr} {sl8 : Array (Option Value)} {oc8 kV8 dc8 pm8 cd8 ct8 : Value} {od9 an9 : Option Addr} {sl9 : Array (Option Value)} {oc9 kV9 dc9 pm9 cd9 ct9 : Value} {od10 an10 : Option Addr} {sl10 : Array (Option Value)} {oc10 kV10 dc10 pm10 cd10 ct10 : Value} {od11 an11 : Option Addr} {sl11 : Array (Option Value)} {oc11 kV11 dc11 pm11 cd11 ct11 : Value} {od12 an12 : Option Addr} {sl12 : Array (Option Value)} {oc12 kV12 dc12 pm12 cd12 ct12 : Value} {od13 an13 : Option Addr} {sl13 : Array (Option Value)} {oc13 kV13 dc13 pm13 cd13 ct13 : Value} {od14 an14 : Option Addr} {sl14 : Array (Option Value)} {oc14 kV14 dc14 pm14 cd14 ct14 : Value} {od15 an15 : Option Addr} {sl15 : Array (Option Value)} {oc15 kV15 dc15 pm15 cd15 ct15 : Value} {od16 an16 : Option Addr} {sl16 : Array (Option Value)} {oc16 kV16 dc16 pm16 cd16 ct16 : Value} {od17 an17 : Option Addr} {sl17 : Array (Option Value)} {oc17 kV17 dc17 pm17 cd17 ct17 : Value} {od18 an18 : Option Addr} {sl18 : Array (Option Value)} {oc18 kV18 dc18 pm18 cd18 ct18 : Value} {od19 an19 : Option Addr} {sl19 : Array (Option Value)} {oc19 kV19 dc19 pm19 cd19 ct19 : Value} {od20 an20 : Option Addr} {sl20 : Array (Option Value)} {oc20 kV20 dc20 pm20 cd20 ct20 : Value} {od21 an21 : Option Addr} {sl21 : Array (Option Value)} {oc21 kV21 dc21 pm21 cd21 ct21 : Value}
    (a0 : PySem.W.nsIn K mainGlobals "check_size" = some (some (.ref f0))) (l0 : K.lookup f0 = some ⟨oc0, od0, .func (PySem.W.fnOf "check_size" "check_size" (defArgs scheck_size) (defBody scheck_size) (defScope scheck_size) .none kV0 dc0 pm0 an0 cd0 ct0), sl0⟩) (c0 : PySem.W.codeIn K cd0 "check_size" = true) (k0 : PySem.W.keepIn K (.ref f0) = true)
    (a1 : PySem.W.nsIn K mainGlobals "owner_of" = some (some (.ref f1))) (l1 : K.lookup f1 = some ⟨oc1, od1, .func (PySem.W.fnOf "owner_of" "owner_of" (defArgs sowner_of) (defBody sowner_of) (defScope sowner_of) .none kV1 dc1 pm1 an1 cd1 ct1), sl1⟩) (c1 : PySem.W.codeIn K cd1 "owner_of" = true) (k1 : PySem.W.keepIn K (.ref f1) = true)
    (a2 : PySem.W.nsIn K mainGlobals "state_of" = some (some (.ref f2))) (l2 : K.lookup f2 = some ⟨oc2, od2, .func (PySem.W.fnOf "state_of" "state_of" (defArgs sstate_of) (defBody sstate_of) (defScope sstate_of) .none kV2 dc2 pm2 an2 cd2 ct2), sl2⟩) (c2 : PySem.W.codeIn K cd2 "state_of" = true) (k2 : PySem.W.keepIn K (.ref f2) = true)
    (a3 : PySem.W.nsIn K mainGlobals "unset_part" = some (some (.ref f3))) (l3 : K.lookup f3 = some ⟨oc3, od3, .func (PySem.W.fnOf "unset_part" "unset_part" (defArgs sunset_part) (defBody sunset_part) (defScope sunset_part) .none kV3 dc3 pm3 an3 cd3 ct3), sl3⟩) (c3 : PySem.W.codeIn K cd3 "unset_part" = true) (k3 : PySem.W.keepIn K (.ref f3) = true)
    (a4 : PySem.W.nsIn K mainGlobals "asked_from" = some (some (.ref f4))) (l4 : K.lookup f4 = some ⟨oc4, od4, .func (PySem.W.fnOf "asked_from" "asked_from" (defArgs sasked_from) (defBody sasked_from) (defScope sasked_from) .none kV4 dc4 pm4 an4 cd4 ct4), sl4⟩) (c4 : PySem.W.codeIn K cd4 "asked_from" = true) (k4 : PySem.W.keepIn K (.ref f4) = true)
    (a5 : PySem.W.nsIn K mainGlobals "asked_behind" = some (some (.ref f5))) (l5 : K.lookup f5 = some ⟨oc5, od5, .func (PySem.W.fnOf "asked_behind" "asked_behind" (defArgs sasked_behind) (defBody sasked_behind) (defScope sasked_behind) .none kV5 dc5 pm5 an5 cd5 ct5), sl5⟩) (c5 : PySem.W.codeIn K cd5 "asked_behind" = true) (k5 : PySem.W.keepIn K (.ref f5) = true)
    (a6 : PySem.W.nsIn K mainGlobals "some_wins" = some (some (.ref f6))) (l6 : K.lookup f6 = some ⟨oc6, od6, .func (PySem.W.fnOf "some_wins" "some_wins" (defArgs ssome_wins) (defBody ssome_wins) (defScope ssome_wins) .none kV6 dc6 pm6 an6 cd6 ct6), sl6⟩) (c6 : PySem.W.codeIn K cd6 "some_wins" = true) (k6 : PySem.W.keepIn K (.ref f6) = true)
    (a7 : PySem.W.nsIn K mainGlobals "winner" = some (some (.ref f7))) (l7 : K.lookup f7 = some ⟨oc7, od7, .func (PySem.W.fnOf "winner" "winner" (defArgs swinner) (defBody swinner) (defScope swinner) .none kV7 dc7 pm7 an7 cd7 ct7), sl7⟩) (c7 : PySem.W.codeIn K cd7 "winner" = true) (k7 : PySem.W.keepIn K (.ref f7) = true)
    (a8 : PySem.W.nsIn K mainGlobals "good_moves" = some (some (.ref f8))) (l8 : K.lookup f8 = some ⟨oc8, od8, .func (PySem.W.fnOf "good_moves" "good_moves" (defArgs sgood_moves) (defBody sgood_moves) (defScope sgood_moves) .none kV8 dc8 pm8 an8 cd8 ct8), sl8⟩) (c8 : PySem.W.codeIn K cd8 "good_moves" = true) (k8 : PySem.W.keepIn K (.ref f8) = true)
    (a9 : PySem.W.nsIn K mainGlobals "_law_deck" = some (some (.ref f9))) (l9 : K.lookup f9 = some ⟨oc9, od9, .func (PySem.W.fnOf "_law_deck" "_law_deck" (defArgs s_law_deck) (defBody s_law_deck) (defScope s_law_deck) .none kV9 dc9 pm9 an9 cd9 ct9), sl9⟩) (c9 : PySem.W.codeIn K cd9 "_law_deck" = true) (k9 : PySem.W.keepIn K (.ref f9) = true)
    (a10 : PySem.W.nsIn K mainGlobals "_law_draw" = some (some (.ref f10))) (l10 : K.lookup f10 = some ⟨oc10, od10, .func (PySem.W.fnOf "_law_draw" "_law_draw" (defArgs s_law_draw) (defBody s_law_draw) (defScope s_law_draw) .none kV10 dc10 pm10 an10 cd10 ct10), sl10⟩) (c10 : PySem.W.codeIn K cd10 "_law_draw" = true) (k10 : PySem.W.keepIn K (.ref f10) = true)
    (a11 : PySem.W.nsIn K mainGlobals "_law_pick" = some (some (.ref f11))) (l11 : K.lookup f11 = some ⟨oc11, od11, .func (PySem.W.fnOf "_law_pick" "_law_pick" (defArgs s_law_pick) (defBody s_law_pick) (defScope s_law_pick) .none kV11 dc11 pm11 an11 cd11 ct11), sl11⟩) (c11 : PySem.W.codeIn K cd11 "_law_pick" = true) (k11 : PySem.W.keepIn K (.ref f11) = true)
    (a12 : PySem.W.nsIn K mainGlobals "_law_mixed" = some (some (.ref f12))) (l12 : K.lookup f12 = some ⟨oc12, od12, .func (PySem.W.fnOf "_law_mixed" "_law_mixed" (defArgs s_law_mixed) (defBody s_law_mixed) (defScope s_law_mixed) .none kV12 dc12 pm12 an12 cd12 ct12), sl12⟩) (c12 : PySem.W.codeIn K cd12 "_law_mixed" = true) (k12 : PySem.W.keepIn K (.ref f12) = true)
    (a13 : PySem.W.nsIn K mainGlobals "_law_free" = some (some (.ref f13))) (l13 : K.lookup f13 = some ⟨oc13, od13, .func (PySem.W.fnOf "_law_free" "_law_free" (defArgs s_law_free) (defBody s_law_free) (defScope s_law_free) .none kV13 dc13 pm13 an13 cd13 ct13), sl13⟩) (c13 : PySem.W.codeIn K cd13 "_law_free" = true) (k13 : PySem.W.keepIn K (.ref f13) = true)
    (a14 : PySem.W.nsIn K mainGlobals "_law_ends" = some (some (.ref f14))) (l14 : K.lookup f14 = some ⟨oc14, od14, .func (PySem.W.fnOf "_law_ends" "_law_ends" (defArgs s_law_ends) (defBody s_law_ends) (defScope s_law_ends) .none kV14 dc14 pm14 an14 cd14 ct14), sl14⟩) (c14 : PySem.W.codeIn K cd14 "_law_ends" = true) (k14 : PySem.W.keepIn K (.ref f14) = true)
    (a15 : PySem.W.nsIn K mainGlobals "_law_won" = some (some (.ref f15))) (l15 : K.lookup f15 = some ⟨oc15, od15, .func (PySem.W.fnOf "_law_won" "_law_won" (defArgs s_law_won) (defBody s_law_won) (defScope s_law_won) .none kV15 dc15 pm15 an15 cd15 ct15), sl15⟩) (c15 : PySem.W.codeIn K cd15 "_law_won" = true) (k15 : PySem.W.keepIn K (.ref f15) = true)
    (a16 : PySem.W.nsIn K mainGlobals "_law_lost" = some (some (.ref f16))) (l16 : K.lookup f16 = some ⟨oc16, od16, .func (PySem.W.fnOf "_law_lost" "_law_lost" (defArgs s_law_lost) (defBody s_law_lost) (defScope s_law_lost) .none kV16 dc16 pm16 an16 cd16 ct16), sl16⟩) (c16 : PySem.W.codeIn K cd16 "_law_lost" = true) (k16 : PySem.W.keepIn K (.ref f16) = true)
    (a17 : PySem.W.nsIn K mainGlobals "_law_parts" = some (some (.ref f17))) (l17 : K.lookup f17 = some ⟨oc17, od17, .func (PySem.W.fnOf "_law_parts" "_law_parts" (defArgs s_law_parts) (defBody s_law_parts) (defScope s_law_parts) .none kV17 dc17 pm17 an17 cd17 ct17), sl17⟩) (c17 : PySem.W.codeIn K cd17 "_law_parts" = true) (k17 : PySem.W.keepIn K (.ref f17) = true)
    (a18 : PySem.W.nsIn K mainGlobals "_law_woven" = some (some (.ref f18))) (l18 : K.lookup f18 = some ⟨oc18, od18, .func (PySem.W.fnOf "_law_woven" "_law_woven" (defArgs s_law_woven) (defBody s_law_woven) (defScope s_law_woven) .none kV18 dc18 pm18 an18 cd18 ct18), sl18⟩) (c18 : PySem.W.codeIn K cd18 "_law_woven" = true) (k18 : PySem.W.keepIn K (.ref f18) = true)
    (a19 : PySem.W.nsIn K mainGlobals "_law_put" = some (some (.ref f19))) (l19 : K.lookup f19 = some ⟨oc19, od19, .func (PySem.W.fnOf "_law_put" "_law_put" (defArgs s_law_put) (defBody s_law_put) (defScope s_law_put) .none kV19 dc19 pm19 an19 cd19 ct19), sl19⟩) (c19 : PySem.W.codeIn K cd19 "_law_put" = true) (k19 : PySem.W.keepIn K (.ref f19) = true)
    (a20 : PySem.W.nsIn K mainGlobals "_law_goes_on" = some (some (.ref f20))) (l20 : K.lookup f20 = some ⟨oc20, od20, .func (PySem.W.fnOf "_law_goes_on" "_law_goes_on" (defArgs s_law_goes_on) (defBody s_law_goes_on) (defScope s_law_goes_on) .none kV20 dc20 pm20 an20 cd20 ct20), sl20⟩) (c20 : PySem.W.codeIn K cd20 "_law_goes_on" = true) (k20 : PySem.W.keepIn K (.ref f20) = true)
    (a21 : PySem.W.nsIn K mainGlobals "law" = some (some (.ref f21))) (l21 : K.lookup f21 = some ⟨oc21, od21, .func (PySem.W.fnOf "law" "law" (defArgs slaw) (defBody slaw) (defScope slaw) .none kV21 dc21 pm21 an21 cd21 ct21), sl21⟩) (c21 : PySem.W.codeIn K cd21 "law" = true) (k21 : PySem.W.keepIn K (.ref f21) = true)
    (z0 : PySem.W.nsIn K mainGlobals "len" = some none) (z1 : PySem.W.nsIn K mainGlobals "abs" = some none) (z2 : PySem.W.nsIn K mainGlobals "min" = some none) (z3 : PySem.W.nsIn K mainGlobals "max" = some none) (z4 : PySem.W.nsIn K mainGlobals "sorted" = some none) (z5 : PySem.W.nsIn K mainGlobals "tuple" = some none) (z6 : PySem.W.nsIn K mainGlobals "list" = some none) (z7 : PySem.W.nsIn K mainGlobals "set" = some none) (z8 : PySem.W.nsIn K mainGlobals "int" = some none) (z9 : PySem.W.nsIn K mainGlobals "range" = some none) (z10 : PySem.W.nsIn K mainGlobals "repr" = some none) (z11 : PySem.W.nsIn K mainGlobals "isinstance" = some none) (z12 : PySem.W.nsIn K mainGlobals "enumerate" = some none) (z13 : PySem.W.nsIn K mainGlobals "zip" = some none) (z14 : PySem.W.nsIn K mainGlobals "sum" = some none) (z15 : PySem.W.nsIn K mainGlobals "all" = some none) (z16 : PySem.W.nsIn K mainGlobals "any" = some none) (z17 : PySem.W.nsIn K mainGlobals "str" = some none) (z18 : PySem.W.nsIn K mainGlobals "bool" = some none)
    {fI cda cc : Addr} {tnm tqn : Str} {tN : Addr} {tbs tmr : List Value} {tsn : List Str} {tsb : List Value} {tab : Bool} {tcol : Option Bool} {tdd : Option Addr} {tk0 tk1 tk2 tk3 tk5 : Option Value} {toc : Value} {tod : Option Addr} {tkV tdoc tpm tct : Value} {tan : Option Addr} {tsl : Array (Option Value)}
    {tc1 : Value} {tc2 : Option Addr} {tfv : Array Value} {tc3 : Array (Option Value)} {tfile0 : Str} {ttf : Tok} {tcl : Value} {tcld : Option Addr} {tcsl : Array (Option Value)}
    (taC : PySem.W.nsIn K mainGlobals "TooMany" = some (some (.ref C))) (taG : PySem.W.nsIn K mainGlobals "GameError" = some (some (.ref CG)))
    (tlC : K.lookup C = some (excClassObj tnm tqn C tN tbs tmr true tsn tsb tab tcol tdd tk0 tk1 tk2 tk3 tk5 "ValueError.__new__")) (tbm : PySem.HandSPX.refsVE tmr = true)
    (tsa : PySem.W.findIn K (.ref C) "__setattr__" = some (some (.builtin "object.__setattr__")))
    (xb : PySem.W.subIn K (.ref C) (.type "BaseException") = some true) (xt : PySem.W.typeIn K (.ref C) = some (.type "type")) (xk : PySem.W.keepIn K (.ref C) = true)
    (tiC : PySem.W.findIn K (.ref C) "__init__" = some (some (.ref fI))) (ttI : PySem.W.typeIn K (.ref fI) = some (.type "function"))
    (tlI : K.lookup fI = some ⟨toc, tod, .func (PySem.W.ksFn "__init__" "TooMany.__init__" iArgs iBody iScope .none tkV tdoc tpm tan (.ref cda) tct cc), tsl⟩)
    (tcI : PySem.W.codeIn K (.ref cda) "TooMany.__init__" = true) (tlc : K.lookup cda = some ⟨tc1, tc2, .fields tfv, tc3⟩) (tvs : tfv[2]? = some (.str tfile0 ttf)) (tfile : ((l.prog.main.file : Str) == tfile0) = true)
    (ttop : (l.prog.main.scope.names.lookup ("super" : Str)).isSome = false) (tcc : K.lookup cc = some ⟨tcl, tcld, .cell (some (.ref C)), tcsl⟩)
    (tsub : PySem.W.mroIn K C (.ref C) = some true)
    (txq : PySem.W.excInitIn K C [.type "ValueError", .type "Exception", .type "BaseException", .type "object"] "ValueError.__new__" = true)
    (tsup : PySem.W.ks_superIn K C C "__init__" = some (some (.builtin "ValueError.__init__")))
    (tsV : PySem.W.subIn K (.ref C) (.type "ValueError") = some true) (top : PySem.W.nsIn K cStatics "thirdparty.any" = some none) (tzs : PySem.W.nsIn K mainGlobals "super" = some none)
    (tno : PySem.W.findIn K (.ref C) "limit" = some none)
    (u1 : PySem.W.findIn K (.ref C) "__getattribute__" = some (some (.builtin "BaseException.__getattribute__"))) (u2 : PySem.W.findIn K (.ref C) "__getattr__" = some none)
    (u4 : PySem.W.hasDictIn K C = true) (u5 : PySem.W.findIn K (.ref C) "__class__" = some (some (.builtin "object.__class__")))
    (u6 : PySem.W.specialIn K (.builtin "object.__class__") "__get__" = some (some (.builtin "getset_descriptor.__get__"))) (u7 : PySem.W.takesIn K (.builtin "object.__class__") = some true)
    (u8 : PySem.W.mroIn K C (.type "object") = some true) (iC : PySem.W.isClsIn K C = true) (sC : PySem.W.subIn K (.ref C) (.ref C) = some true) (iG : PySem.W.isClsIn K CG = true) (tG : PySem.W.typeIn K (.ref CG) = some (.type "type")) (sG : PySem.W.subIn K (.ref C) (.ref CG) = some true)
    (zV : PySem.W.nsIn K mainGlobals "ValueError" = some none)
    {tiMAX_SEARCH : Tok} (aiMAX_SEARCH : PySem.W.nsIn K mainGlobals "MAX_SEARCH" = some (some (.int 12 tiMAX_SEARCH)))
    : ∃ fd : FuncData, (∀ (s : Shared) (v : Value), BindsTo s fd ⟨[v], []⟩ [("script", v)]) ∧ ∀ base : Heap, K.In base → base.Ns mainGlobals mg → FnG l.prog w K mg base 17 fa fd ["script"] (spLaw K) := by
  have e := hfa.symm.trans (PySem.W.mg_of X G a21)
  cases e
  have F0 := fun_mk (st := scheck_size) l0 c0 k0
  have b0 := F0.binds (ps := ["sentence"]) fun _ _ _ _ _ _ us hl => match us, hl with | [_], _ => rfl
  have Ccheck_size : Callee K mg "check_size" f0 _ ["sentence"] := ⟨PySem.W.mg_of X G a0, k0, b0⟩
  have F1 := fun_mk (st := sowner_of) l1 c1 k1
  have b1 := F1.binds (ps := ["sentence", "letter"]) fun _ _ _ _ _ _ us hl => match us, hl with | [_, _], _ => rfl
  have Cowner_of : Callee K mg "owner_of" f1 _ ["sentence", "letter"] := ⟨PySem.W.mg_of X G a1, k1, b1⟩
  have F2 := fun_mk (st := sstate_of) l2 c2 k2
  have b2 := F2.binds (ps := ["clause", "play"]) fun _ _ _ _ _ _ us hl => match us, hl with | [_, _], _ => rfl
  have Cstate_of : Callee K mg "state_of" f2 _ ["clause", "play"] := ⟨PySem.W.mg_of X G a2, k2, b2⟩
  have F3 := fun_mk (st := sunset_part) l3 c3 k3
  have b3 := F3.binds (ps := ["clause", "play"]) fun _ _ _ _ _ _ us hl => match us, hl with | [_, _], _ => rfl
  have Cunset_part : Callee K mg "unset_part" f3 _ ["clause", "play"] := ⟨PySem.W.mg_of X G a3, k3, b3⟩
  have F4 := fun_mk (st := sasked_from) l4 c4 k4
  have b4 := F4.binds (ps := ["sentence", "play"]) fun _ _ _ _ _ _ us hl => match us, hl with | [_, _], _ => rfl
  have Casked_from : Callee K mg "asked_from" f4 _ ["sentence", "play"] := ⟨PySem.W.mg_of X G a4, k4, b4⟩
  have F5 := fun_mk (st := sasked_behind) l5 c5 k5
  have b5 := F5.binds (ps := ["asked", "literal"]) fun _ _ _ _ _ _ us hl => match us, hl with | [_, _], _ => rfl
  have Casked_behind : Callee K mg "asked_behind" f5 _ ["asked", "literal"] := ⟨PySem.W.mg_of X G a5, k5, b5⟩
  have F6 := fun_mk (st := ssome_wins) l6 c6 k6
  have b6 := F6.binds (ps := ["owners", "letter", "asked"]) fun _ _ _ _ _ _ us hl => match us, hl with | [_, _, _], _ => rfl
  have Csome_wins : Callee K mg "some_wins" f6 _ ["owners", "letter", "asked"] := ⟨PySem.W.mg_of X G a6, k6, b6⟩
  have F7 := fun_mk (st := swinner) l7 c7 k7
  have b7 := F7.binds (ps := ["sentence", "play"]) fun _ _ _ _ _ _ us hl => match us, hl with | [_, _], _ => rfl
  have Cwinner : Callee K mg "winner" f7 _ ["sentence", "play"] := ⟨PySem.W.mg_of X G a7, k7, b7⟩
  have F8 := fun_mk (st := sgood_moves) l8 c8 k8
  have b8 := F8.binds (ps := ["sentence", "play"]) fun _ _ _ _ _ _ us hl => match us, hl with | [_, _], _ => rfl
  have Cgood_moves : Callee K mg "good_moves" f8 _ ["sentence", "play"] := ⟨PySem.W.mg_of X G a8, k8, b8⟩
  have F9 := fun_mk (st := s_law_deck) l9 c9 k9
  have b9 := F9.binds (ps := ["script"]) fun _ _ _ _ _ _ us hl => match us, hl with | [_], _ => rfl
  have C_law_deck : Callee K mg "_law_deck" f9 _ ["script"] := ⟨PySem.W.mg_of X G a9, k9, b9⟩
  have F10 := fun_mk (st := s_law_draw) l10 c10 k10
  have b10 := F10.binds (ps := ["deck", "many"]) fun _ _ _ _ _ _ us hl => match us, hl with | [_, _], _ => rfl
  have C_law_draw : Callee K mg "_law_draw" f10 _ ["deck", "many"] := ⟨PySem.W.mg_of X G a10, k10, b10⟩
  have F11 := fun_mk (st := s_law_pick) l11 c11 k11
  have b11 := F11.binds (ps := ["deck", "items"]) fun _ _ _ _ _ _ us hl => match us, hl with | [_, _], _ => rfl
  have C_law_pick : Callee K mg "_law_pick" f11 _ ["deck", "items"] := ⟨PySem.W.mg_of X G a11, k11, b11⟩
  have F12 := fun_mk (st := s_law_mixed) l12 c12 k12
  have b12 := F12.binds (ps := ["deck", "items"]) fun _ _ _ _ _ _ us hl => match us, hl with | [_, _], _ => rfl
  have C_law_mixed : Callee K mg "_law_mixed" f12 _ ["deck", "items"] := ⟨PySem.W.mg_of X G a12, k12, b12⟩
  have F13 := fun_mk (st := s_law_free) l13 c13 k13
  have b13 := F13.binds (ps := ["owners"]) fun _ _ _ _ _ _ us hl => match us, hl with | [_], _ => rfl
  have C_law_free : Callee K mg "_law_free" f13 _ ["owners"] := ⟨PySem.W.mg_of X G a13, k13, b13⟩
  have F14 := fun_mk (st := s_law_ends) l14 c14 k14
  have b14 := F14.binds (ps := ["owners", "rows", "play"]) fun _ _ _ _ _ _ us hl => match us, hl with | [_, _, _], _ => rfl
  have C_law_ends : Callee K mg "_law_ends" f14 _ ["owners", "rows", "play"] := ⟨PySem.W.mg_of X G a14, k14, b14⟩
  have F15 := fun_mk (st := s_law_won) l15 c15 k15
  have b15 := F15.binds (ps := ["deck"]) fun _ _ _ _ _ _ us hl => match us, hl with | [_], _ => rfl
  have C_law_won : Callee K mg "_law_won" f15 _ ["deck"] := ⟨PySem.W.mg_of X G a15, k15, b15⟩
  have F16 := fun_mk (st := s_law_lost) l16 c16 k16
  have b16 := F16.binds (ps := ["deck"]) fun _ _ _ _ _ _ us hl => match us, hl with | [_], _ => rfl
  have C_law_lost : Callee K mg "_law_lost" f16 _ ["deck"] := ⟨PySem.W.mg_of X G a16, k16, b16⟩
  have F17 := fun_mk (st := s_law_parts) l17 c17 k17
  have b17 := F17.binds (ps := ["deck", "most"]) fun _ _ _ _ _ _ us hl => match us, hl with | [_, _], _ => rfl
  have C_law_parts : Callee K mg "_law_parts" f17 _ ["deck", "most"] := ⟨PySem.W.mg_of X G a17, k17, b17⟩
  have F18 := fun_mk (st := s_law_woven) l18 c18 k18
  have b18 := F18.binds (ps := ["deck", "parts"]) fun _ _ _ _ _ _ us hl => match us, hl with | [_, _], _ => rfl
  have C_law_woven : Callee K mg "_law_woven" f18 _ ["deck", "parts"] := ⟨PySem.W.mg_of X G a18, k18, b18⟩
  have F19 := fun_mk (st := s_law_put) l19 c19 k19
  have b19 := F19.binds (ps := ["deck", "parts", "turns", "names"]) fun _ _ _ _ _ _ us hl => match us, hl with | [_, _, _, _], _ => rfl
  have C_law_put : Callee K mg "_law_put" f19 _ ["deck", "parts", "turns", "names"] := ⟨PySem.W.mg_of X G a19, k19, b19⟩
  have F20 := fun_mk (st := s_law_goes_on) l20 c20 k20
  have b20 := F20.binds (ps := ["parts", "turns", "names", "play"]) fun _ _ _ _ _ _ us hl => match us, hl with | [_, _, _, _], _ => rfl
  have C_law_goes_on : Callee K mg "_law_goes_on" f20 _ ["parts", "turns", "names", "play"] := ⟨PySem.W.mg_of X G a20, k20, b20⟩
  have F21 := fun_mk (st := slaw) l21 c21 k21
  have T : Bl mg := ⟨PySem.W.mg_none_of X G z0, PySem.W.mg_none_of X G z1, PySem.W.mg_none_of X G z2, PySem.W.mg_none_of X G z3, PySem.W.mg_none_of X G z4, PySem.W.mg_none_of X G z5, PySem.W.mg_none_of X G z6, PySem.W.mg_none_of X G z7, PySem.W.mg_none_of X G z8, PySem.W.mg_none_of X G z9, PySem.W.mg_none_of X G z10, PySem.W.mg_none_of X G z11, PySem.W.mg_none_of X G z12, PySem.W.mg_none_of X G z13, PySem.W.mg_none_of X G z14, PySem.W.mg_none_of X G z15, PySem.W.mg_none_of X G z16, PySem.W.mg_none_of X G z17, PySem.W.mg_none_of X G z18⟩
  have UC : ExcC K C := ⟨u1, u2, xb, u4, u5, u6, u7, u8⟩
  have OTTooMany : OexC K C := ⟨⟨_, _, _, _, _, _, _, _, _, _, _, _, _, _, _, tlC, tbm⟩, tsa, xb, xt, xk⟩
  have OTooMany : TooC K mg C fI (PySem.W.ksFn "__init__" "TooMany.__init__" iArgs iBody iScope .none tkV tdoc tpm tan (.ref cda) tct cc) := ⟨OTTooMany, tiC, ttI, PySem.W.mg_of X G taC, Binds.all fun us hl => match us, hl with | [_, _], _ => rfl⟩
  have mMAX_SEARCH : ∃ u, mg "MAX_SEARCH" = some u ∧ RelV (.int 12) u := ⟨_, PySem.W.mg_of X G aiMAX_SEARCH, ⟨_, rfl⟩⟩
  refine ⟨PySem.W.fnOf "law" "law" (defArgs slaw) (defBody slaw) (defScope slaw) .none kV21 dc21 pm21 an21 cd21 ct21, fun s v => .of_eq rfl, fun base _ _ => ?_⟩
  have OITooMany := ok_super (P := l.prog) (w := w) (base := base) (mg := mg) (k := 0) OTTooMany txq tlI tcI tlc tvs tfile ttop tcc tsub tsup tsV top (PySem.W.mg_none_of X G tzs) tno (NdefX.nscope_by (by decide +kernel)) (by rfl) (by rfl) (by rfl) (by decide) (.inl (by rfl)) (.inl (by rfl)) (by decide) (by decide) (by decide) (by decide) (fun _ => rfl) (fun _ => rfl) (fun _ => rfl) (fun _ => rfl)
  have Gcheck_size := ok_size (P := l.prog) (w := w) (base := base) F0 T OTooMany OITooMany mMAX_SEARCH 
  have Gowner_of := ok_owner (P := l.prog) (w := w) (base := base) F1 T  
  have Gstate_of := ok_state (P := l.prog) (w := w) (base := base) F2 T  
  have Gunset_part := ok_unset (P := l.prog) (w := w) (base := base) F3 T  
  have Gasked_from := ok_from (P := l.prog) (w := w) (base := base) F4 T  Gstate_of Cstate_of Gunset_part Cunset_part
  have Gasked_behind := ok_behind (P := l.prog) (w := w) (base := base) F5 T  
  have Gsome_wins := ok_wins (P := l.prog) (w := w) (base := base) F6 T  Gasked_behind Casked_behind Csome_wins 13
  have Gwinner := ok_winner (P := l.prog) (w := w) (base := base) F7 T  Gcheck_size Ccheck_size Gasked_from Casked_from Gsome_wins Csome_wins
  have GW0 := ok_winner0 Gwinner
  have Ggood_moves := ok_good (P := l.prog) (w := w) (base := base) F8 T  Gcheck_size Ccheck_size Gowner_of Cowner_of GW0 Cwinner
  have GG0 := ok_good0 Ggood_moves
  have G_law_deck := ok_deck (P := l.prog) (w := w) (base := base) F9 T  
  have G_law_draw := ok_draw (P := l.prog) (w := w) (base := base) F10 T  
  have G_law_pick := ok_pick (P := l.prog) (w := w) (base := base) F11 T  G_law_draw C_law_draw
  have G_law_mixed := ok_mixed (P := l.prog) (w := w) (base := base) F12 T  G_law_draw C_law_draw
  have GV_law_mixed := ok_mixedV (P := l.prog) (w := w) (base := base) F12 T  G_law_draw C_law_draw
  have G_law_free := ok_free (P := l.prog) (w := w) (base := base) F13 T  
  have G_law_ends := ok_endsTop (P := l.prog) (w := w) (base := base) F14 T  G_law_free C_law_free C_law_ends
  have G_law_won := ok_won (P := l.prog) (w := w) (base := base) F15 T  G_law_draw C_law_draw G_law_pick C_law_pick
  have G_law_lost := ok_lost (P := l.prog) (w := w) (base := base) F16 T  G_law_draw C_law_draw G_law_pick C_law_pick
  have G_law_parts := ok_parts (P := l.prog) (w := w) (base := base) F17 T  G_law_draw C_law_draw G_law_mixed C_law_mixed G_law_won C_law_won G_law_lost C_law_lost G_law_ends C_law_ends
  have G_law_woven := ok_woven (P := l.prog) (w := w) (base := base) F18 T  G_law_pick C_law_pick
  have G_law_put := ok_put (P := l.prog) (w := w) (base := base) F19 T  GV_law_mixed C_law_mixed
  have G_law_goes_on := ok_goes (P := l.prog) (w := w) (base := base) F20 T  G_law_ends C_law_ends
  exact ok_law F21 T  G_law_deck C_law_deck G_law_draw C_law_draw G_law_pick C_law_pick G_law_parts C_law_parts G_law_woven C_law_woven G_law_put C_law_put G_law_goes_on C_law_goes_on G_law_ends C_law_ends GW0 Cwinner GG0 Cgood_moves
end KA
open PySem PySem.W PyProof.Rows
set_option Elab.async false
set_option linter.all false
set_option maxRecDepth 100000
set_option maxHeartbeats 0 in
theorem PySem.Challenge.cw_eachsome_k12_whole_long_sparse_sentences_holds : PySem.Challenge.rw_eachsome_k12_whole_long_sparse_sentences.Holds := by
  w_on; o_law; k_head; (case hw => w_witness2)
  k_fill
  refine Ea.walk_G (l := PySem.Challenge.rw_eachsome_k12_whole_long_sparse_sentences) (n := 63) (k := 17) (x := "script") (sp := fun w => KA.spLaw _) rfl (by decide) rfl ⟨rfl, by decide, by decide⟩ (fun w h Y => PySem.W.kIn_of Y) ?F (fun _ _ a ns hl _ hS => ⟨a, ns, rfl, hS, hl, fun _ => rfl⟩)
  case F =>
    intro w mg fa h KX G hmg
    refine' KA.all_mk KX G hmg ?a0 ?l0 ?c0 ?k0 ?a1 ?l1 ?c1 ?k1 ?a2 ?l2 ?c2 ?k2 ?a3 ?l3 ?c3 ?k3 ?a4 ?l4 ?c4 ?k4 ?a5 ?l5 ?c5 ?k5 ?a6 ?l6 ?c6 ?k6 ?a7 ?l7 ?c7 ?k7 ?a8 ?l8 ?c8 ?k8 ?a9 ?l9 ?c9 ?k9 ?a10 ?l10 ?c10 ?k10 ?a11 ?l11 ?c11 ?k11 ?a12 ?l12 ?c12 ?k12 ?a13 ?l13 ?c13 ?k13 ?a14 ?l14 ?c14 ?k14 ?a15 ?l15 ?c15 ?k15 ?a16 ?l16 ?c16 ?k16 ?a17 ?l17 ?c17 ?k17 ?a18 ?l18 ?c18 ?k18 ?a19 ?l19 ?c19 ?k19 ?a20 ?l20 ?c20 ?k20 ?a21 ?l21 ?c21 ?k21 ?z0 ?z1 ?z2 ?z3 ?z4 ?z5 ?z6 ?z7 ?z8 ?z9 ?z10 ?z11 ?z12 ?z13 ?z14 ?z15 ?z16 ?z17 ?z18 ?taC ?taG ?tlC ?tbm ?tsa ?xb ?xt ?xk ?tiC ?ttI ?tlI ?tcI ?tlc ?tvs ?tfile ?ttop ?tcc ?tsub ?txq ?tsup ?tsV ?top ?tzs ?tno ?u1 ?u2 ?u4 ?u5 ?u6 ?u7 ?u8 ?iC ?sC ?iG ?tG ?sG ?zV ?aiMAX_SEARCH
    (case a0 => k_is)
    (case l0 => k_is)
    (case c0 => k_is)
    (case k0 => k_is)
    (case a1 => k_is)
    (case l1 => k_is)
    (case c1 => k_is)
    (case k1 => k_is)
    (case a2 => k_is)
    (case l2 => k_is)
    (case c2 => k_is)
    (case k2 => k_is)
    (case a3 => k_is)
    (case l3 => k_is)
    (case c3 => k_is)
    (case k3 => k_is)
    (case a4 => k_is)
    (case l4 => k_is)
    (case c4 => k_is)
    (case k4 => k_is)
    (case a5 => k_is)
    (case l5 => k_is)
    (case c5 => k_is)
    (case k5 => k_is)
    (case a6 => k_is)
    (case l6 => k_is)
    (case c6 => k_is)
    (case k6 => k_is)
    (case a7 => k_is)
    (case l7 => k_is)
    (case c7 => k_is)
    (case k7 => k_is)
    (case a8 => k_is)
    (case l8 => k_is)
    (case c8 => k_is)
    (case k8 => k_is)
    (case a9 => k_is)
    (case l9 => k_is)
    (case c9 => k_is)
    (case k9 => k_is)
    (case a10 => k_is)
    (case l10 => k_is)
    (case c10 => k_is)
    (case k10 => k_is)
    (case a11 => k_is)
    (case l11 => k_is)
    (case c11 => k_is)
    (case k11 => k_is)
    (case a12 => k_is)
    (case l12 => k_is)
    (case c12 => k_is)
    (case k12 => k_is)
    (case a13 => k_is)
    (case l13 => k_is)
    (case c13 => k_is)
    (case k13 => k_is)
    (case a14 => k_is)
    (case l14 => k_is)
    (case c14 => k_is)
    (case k14 => k_is)
    (case a15 => k_is)
    (case l15 => k_is)
    (case c15 => k_is)
    (case k15 => k_is)
    (case a16 => k_is)
    (case l16 => k_is)
    (case c16 => k_is)
    (case k16 => k_is)
    (case a17 => k_is)
    (case l17 => k_is)
    (case c17 => k_is)
    (case k17 => k_is)
    (case a18 => k_is)
    (case l18 => k_is)
    (case c18 => k_is)
    (case k18 => k_is)
    (case a19 => k_is)
    (case l19 => k_is)
    (case c19 => k_is)
    (case k19 => k_is)
    (case a20 => k_is)
    (case l20 => k_is)
    (case c20 => k_is)
    (case k20 => k_is)
    (case a21 => k_is)
    (case l21 => k_is)
    (case c21 => k_is)
    (case k21 => k_is)
    (case z0 => k_is)
    (case z1 => k_is)
    (case z2 => k_is)
    (case z3 => k_is)
    (case z4 => k_is)
    (case z5 => k_is)
    (case z6 => k_is)
    (case z7 => k_is)
    (case z8 => k_is)
    (case z9 => k_is)
    (case z10 => k_is)
    (case z11 => k_is)
    (case z12 => k_is)
    (case z13 => k_is)
    (case z14 => k_is)
    (case z15 => k_is)
    (case z16 => k_is)
    (case z17 => k_is)
    (case z18 => k_is)
    (case taC => k_is)
    (case taG => k_is)
    (case tlC => k_is)
    (case tbm => (first | rfl | decide +kernel))
    (case tsa => k_is)
    (case xb => k_is)
    (case xt => k_is)
    (case xk => k_is)
    (case tiC => k_is)
    (case ttI => k_is)
    (case tlI => k_is)
    (case tcI => k_is)
    (case tlc => k_is)
    (case tvs => rfl)
    (case tfile => (first | rfl | decide +kernel | kernel_rfl))
    (case ttop => (first | rfl | decide +kernel | kernel_rfl))
    (case tcc => k_is)
    (case tsub => k_is)
    (case txq => (first | k_exc | decide +kernel | kernel_rfl | rfl))
    (case tsup => (first | k_is | kernel_rfl | rfl))
    (case tsV => k_is)
    (case top => k_is)
    (case tzs => k_is)
    (case tno => k_is)
    (case u1 => k_is)
    (case u2 => k_is)
    (case u4 => k_is)
    (case u5 => k_is)
    (case u6 => k_is)
    (case u7 => k_is)
    (case u8 => k_is)
    (case iC => k_is)
    (case sC => k_is)
    (case iG => k_is)
    (case tG => k_is)
    (case sG => k_is)
    (case zV => k_is)
    (case aiMAX_SEARCH => k_is)
