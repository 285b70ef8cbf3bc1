import PyProof.Rows.All
import Wide.All
import OpenK.AllK
import Wide.FinOn
import PyProof.Rows.NestShow
import HandS.ForMost
import HandS.Exc
import HandS.ExcOwn
import HandS.WordsExc
import HandS.Defaults
import HandS.More
import HandS.Strs
import HandS.Conv
import HandS.SetFor
import HandS.SortInts
import HandS.DictComp
import HandS.TupAny
import HandS.ExcIs
import HandS.Evl
import PySem.Challenge.RW_eachsome_k62_whole_first_worlds_that_par
import KE.GoesEnum
import HandS.RaiseMore
import KE.SortData
import KE.SortKeyHeap
import KE.KDictPairs
import KE.KDictList
import HandS.Style
import HandS.List
import HandS.Text
import PyProof.SliceStr2
import PyProof.Rows.StrRev
import HandS.IsInst
import HandS.Wide
import HandS.TupMul
import HandS.ExcInit
import HandS.Nested
import KE.KExcSuper
import HandS.ExcBuiltin
import KE.KExcIs
import HandS.Deep
import HandS.SetTxt0
import HandS.Set
import HandS.SetIn
import HandS.SetBool
import HandS.Comp
import HandS.WideBits
import HandS.Iter
set_option Elab.async false
set_option linter.all false
set_option maxRecDepth 100000
set_option maxHeartbeats 4000000
/-! Own rules: repr of data where nothing is being shown, set of a tuple of ints, a text times a number, an own error made without arguments, calls by names alone; defs whose promise needs that nothing is being shown. -/
namespace Ea
open PySem PySem.Spec PyProof.Rows L2

/-! ### repr -/
def rRepr (K : PySem.W.Frag) : List V → Hp → VK → Prop := fun xs H Q =>
  ∃ (x : V) (d : PyData), xs = [x] ∧ Dp K H x d ∧ d.showable = true ∧ isDisplay d = true ∧ d.hasDict = false ∧ d.depth ≤ 40 ∧ d.shown.length ≤ sizeLine ∧ Q (.str d.shown) H
section
variable {X : Cx}
theorem cr_repr (hg : X.A.guards = some []) (hu : X.A.units + 64 < cLine) : CallR X (.builtin "repr") (rRepr X.K) := by
  intro pins s σ H xs us Q I r h
  obtain ⟨x, d, rfl, hd, h1, h2, h3, h4, h5, q⟩ := h
  obtain ⟨u, rfl, ru⟩ := vals1 r
  obtain ⟨as, rd⟩ := Dp.reads I d x u hd ru
  obtain ⟨a, rfl⟩ := isRef_of_reads rd h2
  exact repr_of_reads' rd h1 (PyData.noDict_hsm h3) hg (by omega) (fun _ _ e => e)
    (fun h' tk u hk => ⟨.str d.shown, H, I.kept hk, ⟨_, rfl⟩, q⟩) h5

/-! ### set of a tuple of ints -/
def rSetI (K : PySem.W.Frag) (w : World) : List V → Hp → VK → Prop := fun xs H Q =>
  ∃ (p : Addr) (ns : List Int), xs = [.ref p] ∧ SqT K H p (ns.map V.int) ∧ ns.length ≤ 1000 ∧
    ∀ (a : Addr) (c : Nat), H a = none → c ≤ ns.length → Q (.ref a) (upd H a (SetO w a (fun j => decide (j ∈ ns)) c))
theorem cr_setI (hc : X.calm = true) : CallR X (.type "set") (rSetI X.K X.w) := by
  intro pins s σ H xs us Q I r h
  obtain ⟨p, ns, rfl, hp, hl, q⟩ := h
  rw [Vals.ref1 r]
  obtain ⟨its, rv, pt, hz⟩ := I.tuple hp
  have hi : IntsAre its.toArray.toList ns := by simpa using rv.ints
  have hf : H s.heap.objs.size = none := I.hok.fresh (Nat.le_refl _)
  refine call_set_tupI ns (I.ok.hd hc) pt hi (by unfold scanBound; omega) fun h' tk c R1 hcn k => ?_
  exact ⟨.ref _, upd H s.heap.objs.size (SetO X.w s.heap.objs.size (fun j => decide (j ∈ ns)) c),
    I.laid (t' := tk) k (Nat.le_refl _) (setO_new R1), rfl, q _ c hf hcn⟩

/-! ### a text times a number -/
theorem folded_size (z : Array Nat) : ∀ (n : Nat) (acc : Array Nat), ((List.replicate n z).foldl (· ++ ·) acc).size = acc.size + n * z.size
  | 0, acc => by simp
  | n + 1, acc => by
    rw [List.replicate_succ, List.foldl_cons, folded_size z n, Array.size_append, Nat.succ_mul]
    omega
def repS (z : Str) (n : Int) : Str := ⟨(List.replicate n.toNat z.cps).foldl (· ++ ·) #[]⟩
def rMulS : R2 := fun x y H Q => ∃ z n, x = .str z ∧ y = .int n ∧ 0 ≤ n ∧ n ≤ 1000 ∧ z.length ≤ 1000 ∧ 1 ≤ z.length ∧ Q (.str (repS z n)) H
theorem repS_length (z : Str) (n : Int) : (repS z n).length = n.toNat * z.length := by
  have h := folded_size z.cps n.toNat #[]
  rw [Array.size_empty, Nat.zero_add] at h
  exact h
theorem repS_fits {z : Str} {n : Int} (h1 : n ≤ 1000) (h2 : z.length ≤ 1000) : (repS z n).length ≤ sizeLine := by
  rw [repS_length, sizeLine_eq]
  have : n.toNat * z.length ≤ 1000 * 1000 := Nat.mul_le_mul (by omega) h2
  omega
theorem op_mulS : OpR X (binaryOp .Mult) rMulS := by
  intro pins s σ H x y v u Q I rx ry h
  obtain ⟨z, n, rfl, rfl, h0, h1, h2, h3, q⟩ := h
  obtain ⟨t, rfl⟩ := rx
  obtain ⟨t', rfl⟩ := ry
  have hlen : z.length * n.toNat ≤ 1000 * 1000 := Nat.mul_le_mul h2 (by omega)
  have hr : (decide (n < -(2 ^ 63 : Int)) || decide (n ≥ 2 ^ 63)) = false := by
    rw [decide_eq_false (by omega), decide_eq_false (by omega)]; rfl
  refine PySem.P.mul_str hr ?_ ?_ ?_
  · intro hn _ hgt
    have e : (1000 : Int) ≤ (2 ^ 63 - 1) / n := by
      rw [Int.le_ediv_iff_mul_le (by omega)]
      omega
    omega
  · intro _ _
    unfold Builtin.Str.tooLong
    rw [decide_eq_false_iff_not, sizeLine_eq]
    omega
  · by_cases c1 : n < 1
    · rw [if_pos c1]
      have e0 : n = 0 := by omega
      subst e0
      refine ⟨by decide, .str (repS z 0), H, I.tok _, ⟨_, rfl⟩, q⟩
    · rw [if_neg c1]
      by_cases c2 : (n == 1 || z.length == 0) = true
      · rw [if_pos c2]
        have e1 : n = 1 := by
          rcases Bool.or_eq_true _ _ |>.mp c2 with h | h
          · exact eq_of_beq h
          · have := eq_of_beq h
            omega
        subst e1
        have e2 : repS z 1 = z := by
          unfold repS
          show (⟨#[] ++ z.cps⟩ : Str) = z
          rw [Array.empty_append]
        rw [e2] at q
        exact ⟨.str z, H, I, ⟨_, rfl⟩, q⟩
      · rw [if_neg c2]
        exact ⟨repS_fits h1 h2, .str (repS z n), H, I.tok _, ⟨_, rfl⟩, q⟩

/-! ### X(): an own error without arguments -/
theorem pmk_own0 {C : Addr} {bmB : List Value} {B newId initId : String} {x : Str} {p pos : Pos} (F : ExcBaseFacts B newId initId bmB)
    (q : PySem.W.excIn X.K C bmB newId = true) (gC : X.mg x = some (.ref C)) (kC : PySem.W.keepIn X.K (.ref C) = true)
    (r : Raises X (.ref C)) (hg : Gl X x) (hdb : (x == ("__debug__" : Str)) = false := by decide) :
    PMk X (.Call (.Name x p) [] [] pos) (fun _ H Q => Q (.ref C) none H) := by
  intro pins s σ H Q I h
  refine wpAny_Call_Name_kw (ld_glob I hg gC (PySem.W.callWith_K0 I.kIn kC ?_) hdb)
  obtain ⟨bm, N, nm, qn, bs, hdct, sn, sub, ab, col, dd, k0, k1, k2, k3, k5, mN, hC, hN, hni, T⟩ := exc_obj I.kIn q
  exact wpAny_call_exc_subT F T hC hN hni (fun h' e hm => mk_of I hm r h (I.hok.gone hm.new)) (Nat.zero_le _)

/-! ### f(k = v, ..) by names alone; what it lets out is wished at the slots -/
def tKw (m : Nat) (sp : Sp) (gV : List V → List V) (E : L2.St → XK) (tk : TA) : TE := fun σ H Q =>
  tk σ H fun zs H2 => zs.length = m ∧ sp (gV zs) H2 Q (E σ)
theorem pe_kw {CX : CXT} {k : Nat} {f : Addr} {fd : FuncData} {ps ks : List Str} {sp : Sp} {E : L2.St → XK} {x : Str} {p pos : Pos} {kws : List Keyword} {tk : TA}
    {g : List Value → List Value} {gV : List V → List V} (F : FnOk X.prog X.w X.K X.mg X.base CX k f fd ps sp) (hr : Room k X.A) (hg : Gl X x)
    (hm : X.mg x = some (.ref f)) (hk : PySem.W.keepIn X.K (.ref f) = true)
    (hto : ∀ (s : Shared) (ws : List Value), ws.length = ks.length → BindsTo s fd ⟨[], ks.zip ws⟩ (ps.zip (g ws)))
    (hrel : ∀ {zs : List V} {ws : List Value}, zs.length = ks.length → Vals zs ws → Vals (gV zs) (g ws))
    (hx : ∀ σ, PassesAt CX X σ (E σ)) (hkw : PK X kws tk)
    (hall : (backToKw pos (keywordEach kws X.env)).all (·.1.isSome) = true := by rfl)
    (hks : (backToKw pos (keywordEach kws X.env)).filterMap (·.1) = ks := by rfl)
    (hdb : (x == ("__debug__" : Str)) = false := by decide)
    (hpl : ((backTo pos (starEach [] X.env)).any (·.1) || (backToKw pos (keywordEach kws X.env)).any (·.1.isNone)) = false := by rfl) :
    PE X (.Call (.Name x p) [] kws pos) (tKw ks.length sp gV E tk) := by
  refine ⟨fun pins s σ H Q I h => ?_⟩
  refine wpAny_Call_Name_kw (ld_glob I hg hm (PySem.W.callWith_KW0 (h₀ := X.base) I.ok.mod.kin hk hall ?_ hpl) hdb)
  refine thn (hkw.run pos pins s σ H _ I h) fun ws s2 ⟨zs, H2, I2, rz, l2, q2⟩ => ⟨I2.kIn, ?_⟩
  rw [hks]
  have hl : (g ws).length = ps.length := by
    rw [← (hrel l2 rz).length]
    exact F.len _ _ _ _ q2
  refine wpAny_call (codeAny_mono (F.run X.A X.stack s2 H2 ⟨[], ks.zip ws⟩ (g ws) (gV zs) Q (E σ) hr I2.env0
    (hto s2 ws (rz.length.symm.trans l2)) (hrel l2 rz) q2) fun r s' hq => ?_)
  match r, hq with
  | .error e, hq => exact hx σ pins H2 s2 e s' I2 hq
  | .ok (.ret u), hq => exact I2.after hq

/-! ### where nothing is being shown -/
structure FnG (P : Program) (w : World) (K : PySem.W.Frag) (mg : Str → Option Value) (base : Heap) (k : Nat) (f : Addr) (fd : FuncData)
    (ps : List Str) (sp : Sp) : Prop where
  len : ∀ vs H Q E, sp vs H Q E → vs.length = ps.length
  run : ∀ (A : Around) (outer : List Env) (s : Shared) (H : Hp) (args : Args) (us : List Value) (vs : List V) (Q : VK) (E : XK),
    Room k A → A.guards = some [] → Env0 P w K mg base A outer s H → BindsTo s fd args (ps.zip us) → Vals vs us → sp vs H Q E →
    codeAny (model P w) A (.call (.ref f) args) (CR CX0 outer P w H s Q E) s
theorem FnG.mono {P : Program} {w : World} {K : PySem.W.Frag} {mg : Str → Option Value} {base : Heap} {j k : Nat} {f : Addr} {fd : FuncData}
    {ps : List Str} {sp : Sp} (F : FnG P w K mg base j f fd ps sp) (h : j ≤ k) : FnG P w K mg base k f fd ps sp :=
  ⟨F.len, fun A outer s H args us vs Q E hr => F.run A outer s H args us vs Q E (hr.mono h)⟩
theorem pe_callG {k : Nat} {f : Addr} {fd : FuncData} {ps : List Str} {sp : Sp} {x : Str} {p pos : Pos} {e : Expr} {es : List Expr} {t : TA}
    (F : FnG X.prog X.w X.K X.mg X.base k f fd ps sp) (hr : Room k X.A) (h0 : X.A.guards = some []) (hg : Gl X x)
    (hm : X.mg x = some (.ref f)) (hk : PySem.W.keepIn X.K (.ref f) = true) (hb : Binds X.K fd ps []) (ha : PA X (e :: es) t)
    (hdb : (x == ("__debug__" : Str)) = false := by decide)
    (he : starEach (e :: es) X.env = (false, eval e X.env) :: starEach es X.env := by rfl)
    (hpl : (backTo pos (starEach es X.env)).any (·.1) = false := by rfl) :
    PE X (.Call (.Name x p) (e :: es) [] pos) (tCall sp [] E0 t) := by
  refine ⟨fun pins s σ H Q I h => ?_⟩
  refine wpAny_Call_Name_kw (ld_glob I hg hm (PySem.W.callWith_K (h₀ := X.base) I.ok.mod.kin hk
    (thn (ha.run pos pins s σ H _ I h) fun us s1 hu => ?_) he hpl) hdb)
  obtain ⟨vs, H1, I1, r, q⟩ := hu
  rw [List.append_nil] at q
  refine ⟨I1.kIn, wpAny_call ?_⟩
  have hl : us.length = ps.length := by
    rw [← r.length]
    exact F.len _ _ _ _ q
  have b := hb s1 us I1.kIn (by rw [List.append_nil]; exact hl)
  rw [List.append_nil] at b
  refine codeAny_mono (F.run X.A X.stack s1 H1 ⟨us, []⟩ us vs Q E0 hr h0 I1.env0 b r q) fun r s' hq => ?_
  match r, hq with
  | .error e, hq => exact False.elim hq
  | .ok (.ret u), hq => exact I1.after hq
end
section
variable {P : Program} {w : World} {K : PySem.W.Frag} {mg : Str → Option Value} {base : Heap}
theorem okG {x qual : Str} {st : Stmt} {f : Addr} {fd : FuncData} {N ps : List Str} {k : Nat} {sp : Sp} (F : Fun K x qual st f fd)
    (S : FnScope N ps (defScope st)) (len : ∀ vs H Q E, sp vs H Q E → vs.length = ps.length)
    (hbody : ∀ (cdv : Value) (A : Around) (outer : List Env) (s : Shared) (H : Hp) (vs : List V) (Q : VK) (E : XK),
      Room k (A.deeper (envOfC qual (defScope st) s.heap.objs.size f cdv)) → A.guards = some [] → sp vs H Q E →
      ∃ t, PSs (cxOf CX0 P w K mg base N qual (defScope st) f cdv A outer s H E).nox (defBody st) t ∧
        t { nx := fun _ H' => Q .non H', rt := Q } (start N vs) H) : FnG P w K mg base (k + 1) f fd ps sp := by
  obtain ⟨oc, od, kV, doc, pm, an, cdv, ct, osl, rfl, lk, hcd⟩ := F.ex
  refine ⟨len, fun A outer s H args us vs Q E hr h0 e0 hb r hsp => ?_⟩
  have KX : K.In s.heap := e0.mod.kin.keeps fun b o e => (e0.bs b o e).1
  have lim : s.heap.NoLimit := e0.mod.nolimit.keeps fun b o e => (e0.bs b o e).1
  refine codeAny_call_function hr.depth (KX _ _ lk) rfl S.co S.gen rfl (PySem.W.codeRec_of KX hcd) (hb _ _ _ _
    (wpAny_newFunctionEnv_cells S.kind (fun y hy => ?_) fun env he s1 y => ?_))
  · obtain ⟨n, v⟩ := y
    exact (S.par n (List.of_mem_zip hy).1).imp id fun z => ⟨z, PySem.W.cellsFrom_some _ _ _ (.inl z)⟩
  · subst he
    refine ⟨lim.keeps y.toInCall.keep, codeAny_func ?_⟩
    obtain ⟨t, ht, hq⟩ := hbody cdv A outer s H vs Q E (hr.deeper _) h0 hsp
    have I : Inv (cxOf CX0 P w K mg base N qual (defScope st) f cdv A outer s H E) [] (start N vs) H s1 :=
      inv_start S hr.hd e0 (len _ _ _ _ hsp) r y
    refine wpAny_mono (ht.nox.run [] s1 (start N vs) H _ I hq) (fun fl s' hs => ?_) fun e s' hs => hs
    match fl, hs with
    | .ret u, ⟨v, σ', H', J, rv, q⟩ => exact ⟨v, H', J.os, J.bare, J.base, J.hok, rv, q⟩
    | .next, ⟨σ', H', J, q⟩ => exact ⟨V.non, H', J.os, J.bare, J.base, J.hok, rfl, q⟩
    | .brk, ⟨_, _, _, q⟩ => exact False.elim q
    | .cont, ⟨_, _, _, q⟩ => exact False.elim q
end
end Ea
set_option Elab.async false
set_option linter.all false
set_option maxRecDepth 100000
set_option maxHeartbeats 4000000
/-! The law's own call, from a promise that needs that nothing is being shown. -/
namespace Ea
open PySem PySem.Spec PyProof.Rows L2

section
variable {P : Program} {w : World} {K : PySem.W.Frag} {mg mb : Str → Option Value} {k : Nat} {fa a : Addr} {fd : FuncData} {x : Str} {sp : Sp}
  {s₁ : Shared} {vs : List Value} {ns : List Int}
/-- what the call is to end with -/
abbrev Fine (s₁ : Shared) : Result → Shared → Prop := fun r s' => r = .ok (.ret (.bool true)) ∧ OldK s₁.heap s'.heap ∧ s'.os = s₁.os ∧ AllBare s'.gens

theorem call_from (KX : K.In s₁.heap) (hns : s₁.heap.Ns mainGlobals mg) (hb : s₁.heap.Ns builtinsNs mb)
    (hbb : ∀ x : Str, x ≠ "__name__" → mb x = bootBuiltins x) (hlim : s₁.heap.NoLimit) (hg : s₁.gens = #[])
    (ha : s₁.heap.get? a = some { cls := .type "list", data := .seq vs.toArray }) (hr : Room k callerA)
    (F : ∀ base : Heap, K.In base → base.Ns mainGlobals mg → FnG P w K mg base k fa fd [x] sp)
    (hbind : ∀ (s : Shared) (u : Value), BindsTo s fd ⟨[u], []⟩ [(x, u)])
    {H : Hp} (hO : Only H) (hok : HOk P w H s₁.heap) (hA : ∀ b, H b ≠ none → b = a) (hK : H a ≠ none → K.lookup a = none)
    (h : sp [.ref a] H (fun v _ => v = .bl true) fun _ _ _ => False) :
    codeAny (model P w) callerA (.call (.ref fa) ⟨[.ref a], []⟩) (Fine s₁) s₁ := by
  have out : ∀ {b : Addr}, (∃ u, H b = some u) → b = a := fun {b} ⟨u, e⟩ => hA b (by rw [e]; exact nofun)
  have free : ∀ {b : Addr} {o : Obj} {es : Array DictEntry} {ep : Nat}, s₁.heap.get? b = some o → o.data = .dict es ep → H b = none := by
    intro b o es ep e d
    cases q : H b with
    | none => rfl
    | some u =>
      obtain rfl := out ⟨u, q⟩
      rw [ha] at e
      cases e
      cases d
  have nsK : ∀ {b : Addr} {m : Str → Option Value}, s₁.heap.Ns b m → (hidT s₁.heap H).Ns b m :=
    fun {b m} ⟨o, es, ep, e, d, r⟩ => ⟨o, es, ep, hidT_get e (free e d), d, r⟩
  have hKb : K.In (hidT s₁.heap H) := by
    intro b o e
    refine hidT_get (KX b o e) ?_
    cases q : H b with
    | none => rfl
    | some u =>
      obtain rfl := out ⟨u, q⟩
      rw [hK (by rw [q]; exact nofun)] at e
      cases e
  have lim : (hidT s₁.heap H).NoLimit := by
    obtain ⟨mc, h1, h2⟩ := hlim
    exact ⟨mc, nsK h1, h2⟩
  have e0 : Env0 P w K mg (hidT s₁.heap H) callerA [] s₁ H :=
    ⟨rfl, ⟨hKb, nsK hns, ⟨mb, nsK hb, hbb⟩, lim⟩, fun b o e => of_hidT e, Nat.le_of_eq (hidT_size _ _), trivial, nofun, hok, .of_eq hg⟩
  have run := (F _ hKb (nsK hns)).run callerA [] s₁ H ⟨[.ref a], []⟩ [.ref a] [.ref a] (fun v _ => v = .bl true) (fun _ _ _ => False) hr rfl e0
    (hbind s₁ (.ref a)) (.cons rfl .nil) h
  refine codeAny_mono run fun r s' hq => ?_
  match r, hq with
  | .error e, hq => exact False.elim hq
  | .ok (.ret u), ⟨v, H', os, bare, un, hok', r', (q' : v = .bl true)⟩ =>
    subst q'
    obtain rfl : u = Value.bool true := r'
    refine ⟨rfl, OldK.of_keep fun b o e => ?_, os, bare⟩
    cases q : H b with
    | none => exact un.keep b o e q nofun nofun
    | some u =>
      rcases hO b with z | ⟨ob, xs, z⟩
      · rw [q] at z
        cases z
      · obtain ⟨e1, _⟩ := hok b _ z
        obtain ⟨e2, _⟩ := hok' b _ (un.frzs b ob _ z)
        rw [e] at e1
        cases e1
        exact e2

theorem call_law (KX : K.In s₁.heap) (hns : s₁.heap.Ns mainGlobals mg) (hb : s₁.heap.Ns builtinsNs mb)
    (hbb : ∀ x : Str, x ≠ "__name__" → mb x = bootBuiltins x) (hlim : s₁.heap.NoLimit) (hg : s₁.gens = #[])
    (ha : s₁.heap.get? a = some { cls := .type "list", data := .seq vs.toArray }) (hi : IntsAre vs ns) (hl : ns.length ≤ sizeLine) (hr : Room k callerA)
    (F : ∀ base : Heap, K.In base → base.Ns mainGlobals mg → FnG P w K mg base k fa fd [x] sp)
    (hbind : ∀ (s : Shared) (u : Value), BindsTo s fd ⟨[u], []⟩ [(x, u)])
    (hsp : ∀ H : Hp, Only H → SqL K H a (ns.map V.int) → sp [.ref a] H (fun v _ => v = .bl true) fun _ _ _ => False) :
    codeAny (model P w) callerA (.call (.ref fa) ⟨[.ref a], []⟩) (Fine s₁) s₁ := by
  have rv := vals_ints hi
  cases hk : K.lookup a with
  | some o =>
    have e := KX a o hk
    rw [ha] at e
    cases e
    have hS : SqL K (fun _ => none) a (ns.map V.int) :=
      .inr ⟨_, vs.toArray, _, hk, rfl, rfl, rfl, by rw [List.size_toArray, hi.length]; exact hl, by simpa using rv⟩
    exact call_from KX hns hb hbb hlim hg ha hr F hbind (H := fun _ => none) (fun _ => .inl rfl) nofun (fun b z => absurd rfl z) (fun z => absurd rfl z) (hsp _ (fun _ => .inl rfl) hS)
  | none =>
    let one : HO := .frz { cls := .type "list", data := .seq vs.toArray } (.lst (ns.map V.int))
    let H : Hp := fun b => if b = a then some one else none
    have at_ : H a = some one := if_pos rfl
    have off : ∀ {b : Addr}, b ≠ a → H b = none := fun h => if_neg h
    have hO : Only H := fun b => by
      by_cases e : b = a
      · subst e
        exact .inr ⟨_, _, at_⟩
      · exact .inl (off e)
    have hS : SqL K H a (ns.map V.int) := .inl (.inr ⟨_, at_⟩)
    refine call_from KX hns hb hbb hlim hg ha hr F hbind hO (fun b u z => ?_) (fun b z => ?_) (fun _ => hk) (hsp H hO hS)
    · by_cases e : b = a
      · subst e
        rw [at_] at z
        cases z
        exact ⟨ha, by rw [List.length_map]; exact hl, vs, _, rv, ha⟩
      · rw [off e] at z
        cases z
    · by_cases e : b = a
      · exact e
      · exact absurd (off e) z
end
theorem walk_G {l : PySem.W.OpenLaw} {n k : Nat} {q : Program} {loose : List Str} {XP : (Str → Option Value) → Heap → Prop} {YP : World → Heap → Prop}
    {d : DefRec} {K : Params → PySem.W.Frag} {sp : World → Sp} {x : Str}
    (hn : l.most = some n) (hn2 : n ≤ sizeLine) (hdf : d.params.defaults = []) (hr : Room k callerA)
    (hY : ∀ (w : World) (h : Heap), YP w h → (K w.params).In h)
    (F : ∀ (w : World) (mg : Str → Option Value) (fa : Addr) (h : Heap), (K w.params).In h → h.Ns mainGlobals mg → mg d.name = some (.ref fa) →
      ∃ fd : FuncData, (∀ (s : Shared) (u : Value), BindsTo s fd ⟨[u], []⟩ [(x, u)]) ∧
        ∀ base : Heap, (K w.params).In base → base.Ns mainGlobals mg → FnG l.prog w (K w.params) mg base k fa fd [x] (sp w))
    (hsp : ∀ (w : World) (H : Hp) (a : Addr) (ns : List Int), ns.length ≤ n → Only H → SqL (K w.params) H a (ns.map V.int) →
      sp w [.ref a] H (fun v _ => v = .bl true) fun _ _ _ => False) :
    PySem.W.WalkO q loose XP YP l.row.toRowW d [] (fun f vs => PySem.call f vs) := by
  refine Att.attach_call hn hdf fun w s₀ s₁ mg mb fa o pm cd doc a vs ns G Y ho hd hcd hmg hobj hints hlen hg => ?_
  obtain ⟨fd, hb, hF⟩ := F w mg fa _ (hY w _ Y) G.T.g hmg
  exact call_law (hY w _ Y) G.T.g G.T.b G.T.builtins G.T.nolimit hg hobj hints (Nat.le_trans hlen hn2) hr hF hb fun H hO hS => hsp w H a ns hlen hO hS
end Ea
set_option Elab.async false
set_option linter.all false
set_option maxRecDepth 100000
set_option maxHeartbeats 4000000
/-! Readings gone through from the left: one lemma for each shape; a deck of draws (a dict). -/
namespace Ea
open PySem PySem.Spec PyProof.Rows L2

/-! ### built-ins by names of their own -/
def rInt : List V → Hp → VK → Prop := fun xs H Q => (∃ i, xs = [.int i] ∧ Q (.int i) H) ∨ ∃ k, xs = [.bl k] ∧ Q (.int (if k then 1 else 0)) H
def rAbs : List V → Hp → VK → Prop := fun xs H Q => ∃ i, xs = [.int i] ∧ Q (.int (if i < 0 then -i else i)) H
def rMin2 : List V → Hp → VK → Prop := fun xs H Q => ∃ i j, xs = [.int i, .int j] ∧ Q (.int (if j < i then j else i)) H
def rMax2 : List V → Hp → VK → Prop := fun xs H Q => ∃ i j, xs = [.int i, .int j] ∧ Q (.int (if j > i then j else i)) H
def rLenQ (K : PySem.W.Frag) : List V → Hp → VK → Prop := fun xs H Q => ∃ p ys, xs = [.ref p] ∧ (SqL K H p ys ∨ SqT K H p ys) ∧ Q (.int ys.length) H
def rLenS : List V → Hp → VK → Prop := fun xs H Q => ∃ z, xs = [.str z] ∧ z.length ≤ sizeLine ∧ Q (.int z.length) H
def rTupOf (K : PySem.W.Frag) : List V → Hp → VK → Prop := fun xs H Q => ∃ p ys, xs = [.ref p] ∧ ((SqL K H p ys ∧ ∀ l, H l = none → Q (.ref l) (upd H l (.tup ys))) ∨ (SqT K H p ys ∧ Q (.ref p) H))
def rListOf (K : PySem.W.Frag) : List V → Hp → VK → Prop := fun xs H Q => ∃ p ys, xs = [.ref p] ∧ (SqL K H p ys ∨ SqT K H p ys) ∧ ∀ l, H l = none → Q (.ref l) (upd H l (.lst ys))
section
variable {X : Cx}
theorem c_int : CallR X (.type "int") rInt := call_int1
theorem c_abs : CallR X (.builtin "abs") rAbs := call_abs
theorem c_min2 (hc : X.calm = true) : CallR X (.builtin "min") rMin2 := call_min2 hc
theorem c_max2 (hc : X.calm = true) : CallR X (.builtin "max") rMax2 := call_max2 hc
theorem c_len {K : PySem.W.Frag} (h : X.K = K) : CallR X (.builtin "len") (rLenQ K) := h ▸ call_len_seq
theorem c_lenS : CallR X (.builtin "len") rLenS := call_len_str
theorem c_tuple {K : PySem.W.Frag} (h : X.K = K) : CallR X (.type "tuple") (rTupOf K) := h ▸ call_tuple_of
theorem c_list {K : PySem.W.Frag} (h : X.K = K) : CallR X (.type "list") (rListOf K) := h ▸ call_list_of
theorem c_sum {K : PySem.W.Frag} (h : X.K = K) (hc : X.calm = true) : CallR X (.builtin "sum") (rSum K) := h ▸ cr_sum hc
theorem c_max {K : PySem.W.Frag} (h : X.K = K) (hc : X.calm = true) : CallR X (.builtin "max") (rMax K) := h ▸ cr_max hc
theorem c_min {K : PySem.W.Frag} (h : X.K = K) (hc : X.calm = true) : CallR X (.builtin "min") (rMin K) := h ▸ cr_min hc
theorem c_sorted {K : PySem.W.Frag} (h : X.K = K) : CallR X (.builtin "sorted") (rSortedI K) := h ▸ cr_sortedI
theorem c_repr {K : PySem.W.Frag} (h : X.K = K) (hg : X.A.guards = some []) (hu : X.A.units + 64 < cLine) : CallR X (.builtin "repr") (rRepr K) := h ▸ cr_repr hg hu
theorem c_set {K : PySem.W.Frag} {w : World} (h : X.K = K) (h2 : X.w = w) (hc : X.calm = true) : CallR X (.type "set") (rSetI K w) := h ▸ h2 ▸ cr_setI hc
theorem ik_list {K : PySem.W.Frag} (h : X.K = K) : IxR X (rIxL K) := h ▸ ix_list
theorem ik_tup {K : PySem.W.Frag} (h : X.K = K) : IxR X (rIxT K) := h ▸ ix_tup
theorem ik_dict {K : PySem.W.Frag} {w : World} (h : X.K = K) (h2 : X.w = w) : IxR X (rIxD K w) := h ▸ h2 ▸ ix_kdict
theorem sk_list {K : PySem.W.Frag} (h : X.K = K) : SlR X (rSlL K) := h ▸ sl_list
theorem sk_tup {K : PySem.W.Frag} (h : X.K = K) : SlR X (rSlA K) := h ▸ sl_tupA
theorem ok_in {K : PySem.W.Frag} (h : X.K = K) : OpR X (compareOp .In) (rIn K false) := h ▸ op_in_seq
theorem ok_notIn {K : PySem.W.Frag} (h : X.K = K) : OpR X (compareOp .NotIn) (rIn K true) := h ▸ op_notIn_seq
theorem ok_eqD {K : PySem.W.Frag} (h : X.K = K) (hu : X.A.units + 64 < cLine) : OpR X (compareOp .Eq) (rEqD K) := h ▸ op_eqD hu
theorem ok_neD {K : PySem.W.Frag} (h : X.K = K) (hu : X.A.units + 64 < cLine) : OpR X (compareOp .NotEq) (rNeD K) := h ▸ op_neD hu
theorem ok_catT {K : PySem.W.Frag} (h : X.K = K) : OpR X (binaryOp .Add) (rCatA K) := h ▸ op_catA
theorem ok_sin {w : World} (h : X.w = w) : OpR X (compareOp .In) (rSIn w) := h ▸ or_sin
theorem ok_snotin {w : World} (h : X.w = w) : OpR X (compareOp .NotIn) (rSNotIn w) := h ▸ or_snotin
theorem ik_tupI {K : PySem.W.Frag} (h : X.K = K) {tg l : Expr} {tl : TE} (hl : PE X l tl) : PI X tg l (iTup K tl) := h ▸ pi_tup hl
theorem ik_listI {K : PySem.W.Frag} (h : X.K = K) {tg l : Expr} {tl : TE} (hl : PE X l tl) : PI X tg l (iList K tl) := h ▸ pi_list hl
def tTruK (K : PySem.W.Frag) (ta : TE) : TT := fun σ H Q => ta σ H fun x H' => ∃ k, TruV K x H' k ∧ Q k H'
theorem pk_truth {K : PySem.W.Frag} (h : X.K = K) {a : Expr} {ta : TE} (ha : PE X a ta)
    (he : ∀ whole, isTrue a X.env whole = (do let v ← whole; standAt a.pos; holding [v] (truthy v))) : PT X a (tTruK K ta) := h ▸ pt_truth ha he
end
section
variable {K : PySem.W.Frag} {σ σ' : L2.St} {H : Hp} {Q : VK} {QB : Bool → Hp → Prop} {QA : List V → Hp → Prop} {D : Ends} {i j : Nat} {x y v w : V}
  {ta tb te td ty : TE} {tt tu : TT} {r : R2} {a b : Int} {ts tz : TS} {g : Int → Int → V} {gi : Int → V} {C : Int → Int → Prop} {tr : TA} {tl th : TO}
theorem rd_start {t : TS} (e : σ = σ') (h : t D σ' H) : t D σ H := by
  subst e
  exact h
theorem rd_seq (h : ts { D with nx := tz D } σ H) : tSeq ts tz D σ H := h
theorem rd_if (h : tt σ H fun c H1 => if c = true then ts D σ H1 else tz D σ H1) : tIfS tt ts tz D σ H := h
theorem rd_next (h : D.nx σ H) : tNext D σ H := h
theorem rd_ret (h : te σ H D.rt) : tRet te D σ H := h
theorem rd_drop (h : te σ H fun _ H1 => D.nx σ H1) : tDrop te D σ H := h
theorem rd_asg {tg : TG} (h : te σ H fun x H1 => tg x σ H1 D.nx) : tAsg te tg D σ H := h
theorem rd_name {N : L2.St → Hp → Prop} (hs : σ.set i (some v) = σ') (h : N σ' H) : gName i v σ H N := by
  subst hs
  exact h
theorem rd_var (hv : σ[i]? = some (some v)) (h : Q v H) : tVar i σ H Q := ⟨v, hv, h⟩
theorem rd_c (h : Q v H) : tC v σ H Q := h
theorem rd_op (h : ta σ H fun x H1 => tb σ H1 fun y H2 => r x y H2 Q) : tOp r ta tb σ H Q := h
theorem rd_un {ru : V → Hp → VK → Prop} (h : ta σ H fun x H1 => ru x H1 Q) : tUn ru ta σ H Q := h
theorem rd_I0 (h : Q (g a b) H) : rI0 g (.int a) (.int b) H Q := ⟨a, b, rfl, rfl, h⟩
theorem rd_I (hc : C a b) (h : Q (g a b) H) : rI C g (.int a) (.int b) H Q := ⟨a, b, rfl, rfl, hc, h⟩
theorem rd_U (h : Q (gi a) H) : rU gi (.int a) H Q := ⟨a, rfl, h⟩
theorem rd_eq (hs : scal x y = true) (h : Q (.bl (decide (x = y))) H) : rEq x y H Q := ⟨hs, h⟩
theorem rd_ne (hs : scal x y = true) (h : Q (.bl (!decide (x = y))) H) : rNe x y H Q := ⟨hs, h⟩
theorem rd_test (h : te σ H fun x H' => ∃ k, x = .bl k ∧ QB k H') : tTest te σ H QB := h
theorem rd_B (h : te σ H fun x H' => ∃ k, x = .bl k ∧ QB k H') : tB te σ H QB := h
theorem rd_not (h : tt σ H fun c H1 => QB (!c) H1) : tNot tt σ H QB := h
theorem rd_and (h : tt σ H fun c H1 => if c = true then tu σ H1 QB else QB false H1) : tAnd tt tu σ H QB := h
theorem rd_or (h : tt σ H fun c H1 => if c = true then QB true H1 else tu σ H1 QB) : tOr tt tu σ H QB := h
theorem rd_k {b : Bool} {P : Bool → Prop} (h : P b) : ∃ k, V.bl b = V.bl k ∧ P k := ⟨b, rfl, h⟩
theorem rd_ite {p : Prop} {_ : Decidable p} {A B : Prop} (h1 : p → A) (h2 : ¬ p → B) : if decide p = true then A else B := by
  by_cases h : p
  · rw [if_pos (decide_eq_true h)]
    exact h1 h
  · rw [if_neg (by rw [decide_eq_true_eq]; exact h)]
    exact h2 h
theorem rd_iten {p : Prop} {_ : Decidable p} {A B : Prop} (h1 : ¬ p → A) (h2 : p → B) : if (!decide p) = true then A else B := by
  by_cases h : p
  · rw [decide_eq_true h]
    exact h2 h
  · rw [decide_eq_false h]
    exact h1 h
theorem rd_iteb {b : Bool} {A B : Prop} (h1 : b = true → A) (h2 : b = false → B) : if b = true then A else B := by
  cases b with
  | true => exact h1 rfl
  | false => exact h2 rfl
theorem rd_ifE (h : tt σ H fun c H1 => if c = true then ta σ H1 Q else tb σ H1 Q) : tIf tt ta tb σ H Q := h
theorem rd_nil (h : QA [] H) : tNil σ H QA := h
theorem rd_cons (h : te σ H fun x H1 => tr σ H1 fun xs H2 => QA (x :: xs) H2) : tCons te tr σ H QA := h
theorem rd_call {sp : Sp} {ds : List V} {E : XK} (h : tr σ H fun vs H1 => sp (vs ++ ds) H1 Q E) : tCall sp ds E tr σ H Q := h
theorem rd_cb {rc : List V → Hp → VK → Prop} (h : tr σ H fun vs H1 => rc vs H1 Q) : tCB rc tr σ H Q := h
theorem rd_tup (h : tr σ H fun xs H1 => xs.length ≤ sizeLine ∧ ∀ p, H1 p = none → Q (.ref p) (upd H1 p (.tup xs))) : tTup tr σ H Q := h
theorem rd_lst (h : tr σ H fun xs H1 => xs.length ≤ sizeLine ∧ ∀ p, H1 p = none → Q (.ref p) (upd H1 p (.lst xs))) : tLst tr σ H Q := h
theorem rd_dget (h : td σ H fun x H1 => ty σ H1 fun y H2 => ∃ a v, x = .ref a ∧ DGet H2 a y (some v) ∧ Q v H2) : tDGet td ty σ H Q := h
theorem rd_sl {rs : V → Option Int → Option Int → Hp → VK → Prop} (h : te σ H fun x H1 => tl σ H1 fun l H2 => th σ H2 fun u H3 => rs x l u H3 Q) : tSl rs te tl th σ H Q := h
theorem rd_nopart {QO : Option Int → Hp → Prop} (h : QO none H) : tNoPart σ H QO := h
theorem rd_part {QO : Option Int → Hp → Prop} (h : te σ H fun x H1 => ∃ i, x = .int i ∧ QO (some i) H1) : tPart te σ H QO := h
theorem rd_parti {P : Int → Prop} (h : P a) : ∃ i, V.int a = .int i ∧ P i := ⟨a, rfl, h⟩
theorem rd_bm {T : String} {rm : V → List V → Hp → VK → Prop} (h : te σ H fun x H1 => tyV K T x H1 ∧ tr σ H1 fun xs H2 => rm x xs H2 Q) : tBM K T rm te tr σ H Q := h
theorem rd_bm0 {T : String} {rm : V → List V → Hp → VK → Prop} (h : te σ H fun x H1 => tyV K T x H1 ∧ rm x [] H1 Q) : tBM0 K T rm te σ H Q := h
theorem rd_dput (h : te σ H fun v H1 => td σ H1 fun x H2 => ty σ H2 fun y H3 => ∃ a H4, x = .ref a ∧ DPut H3 a y v H4 ∧ D.nx σ H4) : sDPut td ty te D σ H := h
theorem rd_par {t : TA} (h : t σ H fun vs H1 => ∃ v w, vs = [v, w] ∧ D.nx ((σ.set i (some v)).set j (some w)) H1) : tPar i j t D σ H := h
theorem rd_par2 {N : L2.St → Hp → Prop} (hs : (σ.set i (some v)).set j (some w) = σ') (h : N σ' H) :
    ∃ v' w', ([v, w] : List V) = [v', w'] ∧ N ((σ.set i (some v')).set j (some w')) H := by
  subst hs
  exact ⟨v, w, rfl, h⟩
/-- while, by a word that falls -/
theorem rd_while (W : Nat → L2.St → Hp → Prop) (m : Nat) (h0 : W m σ H)
    (hs : ∀ m σ1 H1, W m σ1 H1 → tt σ1 H1 fun b H2 => if b = true then
      ts { D with nx := fun σ' H' => ∃ m', m' < m ∧ W m' σ' H', ct := fun σ' H' => ∃ m', m' < m ∧ W m' σ' H', bk := D.nx } σ1 H2 else D.nx σ1 H2)
    (mono : ∀ σ H Q Q', (∀ b H1, Q b H1 → Q' b H1) → tt σ H Q → tt σ H Q') : tWhile tt ts D σ H :=
  ⟨W, ⟨m, h0⟩, fun m σ1 H1 w => mono _ _ _ _ (fun b H2 h => by
    cases b with
    | true => exact ⟨_, fun _ _ z => z, h⟩
    | false => exact h) (hs m σ1 H1 w)⟩
theorem rd_whileE (h : ∃ W : Nat → L2.St → Hp → Prop, (∃ m, W m σ H) ∧ ∀ m σ H, W m σ H → tt σ H fun b H1 => if b = true then ∃ N : L2.St → Hp → Prop,
    (∀ σ' H', N σ' H' → ∃ m', m' < m ∧ W m' σ' H') ∧ ts { D with nx := N, ct := N, bk := D.nx } σ H1 else D.nx σ H1) : tWhile tt ts D σ H := h
theorem rd_tru (h : ta σ H fun x H' => ∃ k, TruV K x H' k ∧ QB k H') : tTruK K ta σ H QB := h
theorem rd_truI {P : Bool → Prop} (h : P (a != 0)) : ∃ k, TruV K (.int a) H k ∧ P k := ⟨_, rfl, h⟩
theorem rd_int1 (h : Q (.int a) H) : (∃ i, ([.int a] : List V) = [.int i] ∧ Q (.int i) H) ∨ ∃ k, ([.int a] : List V) = [.bl k] ∧ Q (.int (if k then 1 else 0)) H := .inl ⟨a, rfl, h⟩
end

section
variable {K : PySem.W.Frag} {H : Hp} {Q : VK} {a b : Int} {k : Bool} {p : Addr} {ys : List V} {z : Str}
theorem rd_int (h : Q (.int a) H) : rInt [.int a] H Q := .inl ⟨a, rfl, h⟩
theorem rd_intb (h : Q (.int (if k then 1 else 0)) H) : rInt [.bl k] H Q := .inr ⟨k, rfl, h⟩
theorem rd_abs (h : Q (.int (a.natAbs : Int)) H) : rAbs [.int a] H Q := ⟨a, rfl, by
  rw [show (if a < 0 then -a else a) = (a.natAbs : Int) by split <;> omega]
  exact h⟩
theorem rd_min2 (h : Q (.int (if b < a then b else a)) H) : rMin2 [.int a, .int b] H Q := ⟨a, b, rfl, h⟩
theorem rd_max2 (h : Q (.int (if b > a then b else a)) H) : rMax2 [.int a, .int b] H Q := ⟨a, b, rfl, h⟩
theorem rd_lenL (s : SqL K H p ys) (h : Q (.int ys.length) H) : rLenQ K [.ref p] H Q := ⟨p, ys, rfl, .inl s, h⟩
theorem rd_lenT (s : SqT K H p ys) (h : Q (.int ys.length) H) : rLenQ K [.ref p] H Q := ⟨p, ys, rfl, .inr s, h⟩
theorem rd_lenS (s : z.length ≤ sizeLine) (h : Q (.int z.length) H) : rLenS [.str z] H Q := ⟨z, rfl, s, h⟩
theorem rd_tupL (s : SqL K H p ys) (h : ∀ l, H l = none → Q (.ref l) (upd H l (.tup ys))) : rTupOf K [.ref p] H Q := ⟨p, ys, rfl, .inl ⟨s, h⟩⟩
theorem rd_tupT (s : SqT K H p ys) (h : Q (.ref p) H) : rTupOf K [.ref p] H Q := ⟨p, ys, rfl, .inr ⟨s, h⟩⟩
theorem rd_listL (s : SqL K H p ys) (h : ∀ l, H l = none → Q (.ref l) (upd H l (.lst ys))) : rListOf K [.ref p] H Q := ⟨p, ys, rfl, .inl s, h⟩
theorem rd_listT (s : SqT K H p ys) (h : ∀ l, H l = none → Q (.ref l) (upd H l (.lst ys))) : rListOf K [.ref p] H Q := ⟨p, ys, rfl, .inr s, h⟩
theorem rd_ixL {x : V} {i : Int} (s : SqL K H p ys) (e : atI ys i = some x) (h : Q x H) : rIxL K (.ref p) (.int i) H Q := ⟨p, ys, i, x, rfl, rfl, s, e, h⟩
theorem rd_ixT {x : V} {i : Int} (s : SqT K H p ys) (e : atI ys i = some x) (h : Q x H) : rIxT K (.ref p) (.int i) H Q := ⟨p, ys, i, x, rfl, rfl, s, e, h⟩
theorem rd_ixS {c : Nat} {i : Int} (s : z.length ≤ sizeLine) (e : atI z.cps.toList i = some c) (h : Q (.str ⟨#[c]⟩) H) : rIxS (.str z) (.int i) H Q := ⟨z, i, c, rfl, rfl, s, e, h⟩
end

/-! ### a deck of draws, a dict -/
def DeckB (d l : Addr) (H : Hp) : Prop := ∃ (ns : List Int) (s : Int),
  H d = some (.dK [(.inr "deep", .ref l), (.inr "state", .int s)]) ∧ H l = some (.lst (ns.map V.int)) ∧ ns.length ≤ 63 ∧ (∀ n ∈ ns, 0 ≤ n) ∧ 0 ≤ s ∧ s < 2305843009213693951
/-- what is left as it was by draws: all but the deck -/
structure Go (d l : Addr) (H H' : Hp) : Prop where
  dk : DeckB d l H'
  kp : ∀ a o, a ≠ d → a ≠ l → H a = some o → H' a = some o
section
variable {d l : Addr} {H H1 H2 : Hp}
theorem DeckB.ne (h : DeckB d l H) : d ≠ l := by
  obtain ⟨ns, s, e1, e2, _⟩ := h
  exact ne_of e1 e2 nofun
theorem Go.refl (h : DeckB d l H) : Go d l H H := ⟨h, fun _ _ _ _ e => e⟩
theorem Go.trans (a : Go d l H H1) (b : Go d l H1 H2) : Go d l H H2 := ⟨b.dk, fun p o n1 n2 e => b.kp p o n1 n2 (a.kp p o n1 n2 e)⟩
theorem DeckB.off (h : DeckB d l H) {p : Addr} (e : H p = none) : p ≠ d ∧ p ≠ l := by
  obtain ⟨ns, s, e1, e2, _⟩ := h
  exact ⟨fun z => (by rw [z, e1] at e; cases e), fun z => (by rw [z, e2] at e; cases e)⟩
theorem DeckB.upd (h : DeckB d l H) {p : Addr} {o : HO} (n1 : p ≠ d) (n2 : p ≠ l) : DeckB d l (upd H p o) := by
  obtain ⟨ns, s, e1, e2, r⟩ := h
  exact ⟨ns, s, by rw [upd_ne n1.symm]; exact e1, by rw [upd_ne n2.symm]; exact e2, r⟩
theorem Go.new (h : DeckB d l H) {p : Addr} {o : HO} (e : H p = none) : Go d l H (upd H p o) := by
  obtain ⟨n1, n2⟩ := h.off e
  exact ⟨h.upd n1 n2, fun q u _ _ eq => by rw [upd_ne (ne_of_none eq e)]; exact eq⟩
/-- an object that H does not know may change -/
theorem Go.mut (g : Go d l H H1) (h : DeckB d l H) {p : Addr} {o : HO} (e : H p = none) : Go d l H (upd H1 p o) := by
  obtain ⟨n1, n2⟩ := h.off e
  exact ⟨g.dk.upd n1 n2, fun q u m1 m2 eq => by rw [upd_ne (ne_of_none eq e)]; exact g.kp q u m1 m2 eq⟩
theorem Go.back (g : Go d l H H1) (h : DeckB d l H) {p : Addr} (e : H1 p = none) : H p = none := by
  obtain ⟨n1, n2⟩ := g.dk.off e
  cases q : H p with
  | none => rfl
  | some o =>
    rw [g.kp p o n1 n2 q] at e
    cases e
/-- a tuple stays -/
theorem Go.tup {K : PySem.W.Frag} (g : Go d l H H1) (h : DeckB d l H) {a : Addr} {xs : List V} (t : SqT K H a xs) : SqT K H1 a xs := by
  obtain ⟨ns, s, e1, e2, _⟩ := h
  have hn : ∀ {o : HO}, H a = some o → (∀ kv, o ≠ .dK kv) → (∀ ys, o ≠ .lst ys) → H1 a = some o := fun e c1 c2 =>
    g.kp a _ (fun z => (by rw [z, e1] at e; cases e; exact c1 _ rfl)) (fun z => (by rw [z, e2] at e; cases e; exact c2 _ rfl)) e
  rcases t with (t | ⟨o, t⟩) | t
  · exact .inl (.inl (hn t nofun nofun))
  · exact .inl (.inr ⟨o, hn t nofun nofun⟩)
  · exact .inr t
end
end Ea
set_option Elab.async false
set_option linter.all false
set_option maxRecDepth 100000
set_option maxHeartbeats 4000000
/-! Data that can be shown, compared: how great they are. -/
namespace Ea
open PySem PySem.Spec PyProof.Rows L2

structure Nice (n k : Nat) (d : PyData) : Prop where
  bulk : d.bulk ≤ n
  depth : d.depth ≤ k
  lay : d.canLay0 = true
  show_ : d.showable = true
  short : d.leavesShort 13 = true
  dict : d.hasDict = false
structure NiceAll (n k : Nat) (ds : List PyData) : Prop where
  bulk : PyData.bulkAll ds ≤ n
  depth : PyData.depthAll ds ≤ k
  lay : PyData.canLayAll0 ds = true
  show_ : PyData.showableAll ds = true
  short : PyData.leavesShortAll 13 ds = true
  dict : PyData.hasDictAll ds = false
theorem Nice.mono {n k m j : Nat} {d : PyData} (h : Nice n k d) (a : n ≤ m) (b : k ≤ j) : Nice m j d := ⟨Nat.le_trans h.bulk a, Nat.le_trans h.depth b, h.lay, h.show_, h.short, h.dict⟩
theorem NiceAll.mono {n k m j : Nat} {d : List PyData} (h : NiceAll n k d) (a : n ≤ m) (b : k ≤ j) : NiceAll m j d := ⟨Nat.le_trans h.bulk a, Nat.le_trans h.depth b, h.lay, h.show_, h.short, h.dict⟩
theorem Nice.non : Nice 0 0 .none := ⟨Nat.le_refl _, Nat.le_refl _, rfl, rfl, rfl, rfl⟩
theorem Nice.bool (b : Bool) : Nice 0 0 (.bool b) := ⟨Nat.le_refl _, Nat.le_refl _, rfl, rfl, rfl, rfl⟩
theorem log2_small {n : Nat} (h : n < 10 ^ 12) : n.log2 < 1920 := by
  by_cases h0 : n = 0
  · subst h0
    decide
  · rw [Nat.log2_lt h0]
    exact Nat.lt_trans h (by decide +kernel)
theorem Nice.int {i : Int} (h : i.natAbs < 10 ^ 12) : Nice 0 0 (.int i) :=
  ⟨Nat.le_refl _, Nat.le_refl _, rfl, decide_eq_true (log2_small h), decide_eq_true (PyData.shown_int_le h), rfl⟩
theorem Nice.str {x : Str} {n : Nat} (h : x.cps.size ≤ n) (hs : ∀ c ∈ x.cps.toList, c < 1114112) (ho : PyData.canLay0 (.str x) = true) : Nice n 0 (.str x) :=
  ⟨h, Nat.le_refl _, ho, rfl, by
    show (x.cps.toList.all fun c => decide (c < 16 ^ 8)) = true
    rw [List.all_eq_true]
    exact fun c hc => decide_eq_true (Nat.lt_of_lt_of_le (hs c hc) (by decide)), rfl⟩
theorem NiceAll.nil {k : Nat} : NiceAll 0 k [] := ⟨Nat.le_refl _, Nat.zero_le _, rfl, rfl, rfl, rfl⟩
theorem NiceAll.cons {n m k : Nat} {d : PyData} {ds : List PyData} (h : Nice n k d) (hs : NiceAll m k ds) : NiceAll (n + 1 + m) k (d :: ds) := by
  refine ⟨?_, ?_, ?_, ?_, ?_, ?_⟩
  · show d.bulk + 1 + PyData.bulkAll ds ≤ _
    have := h.bulk
    have := hs.bulk
    omega
  · show max d.depth (PyData.depthAll ds) ≤ _
    have := h.depth
    have := hs.depth
    omega
  · show (d.canLay0 && PyData.canLayAll0 ds) = true
    rw [h.lay, hs.lay] <;> rfl
  · show (d.showable && PyData.showableAll ds) = true
    rw [h.show_, hs.show_] <;> rfl
  · show (d.leavesShort 13 && PyData.leavesShortAll 13 ds) = true
    rw [h.short, hs.short] <;> rfl
  · show (d.hasDict || PyData.hasDictAll ds) = false
    rw [h.dict, hs.dict] <;> rfl
theorem Nice.cons2 {n m k : Nat} {d e : PyData} (h : Nice n k d) (h2 : Nice m k e) : NiceAll (n + 1 + (m + 1 + 0)) k [d, e] := NiceAll.cons h (NiceAll.cons h2 NiceAll.nil)
theorem Nice.cons3 {n m o k : Nat} {d e f : PyData} (h : Nice n k d) (h2 : Nice m k e) (h3 : Nice o k f) : NiceAll (n + 1 + (m + 1 + (o + 1 + 0))) k [d, e, f] := NiceAll.cons h (NiceAll.cons h2 (NiceAll.cons h3 NiceAll.nil))
theorem Nice.cons1 {n k : Nat} {d : PyData} (h : Nice n k d) : NiceAll (n + 1 + 0) k [d] := NiceAll.cons h NiceAll.nil
theorem Nice.tup {n k : Nat} {ds : List PyData} (h : NiceAll n k ds) : Nice n (k + 1) (.tuple ds) := ⟨h.bulk, Nat.succ_le_succ h.depth, h.lay, h.show_, h.short, h.dict⟩
theorem Nice.lst {n k : Nat} {ds : List PyData} (h : NiceAll n k ds) : Nice n (k + 1) (.list ds) := ⟨h.bulk, Nat.succ_le_succ h.depth, h.lay, h.show_, h.short, h.dict⟩
def dI (ns : List Int) : List PyData := ns.map PyData.int
theorem NiceAll.ints : ∀ {ns : List Int}, (∀ n ∈ ns, n.natAbs < 10 ^ 12) → NiceAll ns.length 0 (dI ns)
  | [], _ => NiceAll.nil
  | n :: r, h => by
    have z := NiceAll.cons (Nice.int (h n List.mem_cons_self)) (NiceAll.ints (ns := r) fun m hm => h m (List.mem_cons_of_mem _ hm))
    exact z.mono (by rw [List.length_cons]; omega) (Nat.le_refl _)
theorem dp_ints {K : PySem.W.Frag} {H : Hp} : ∀ (ns : List Int), DpAll K H (ns.map V.int) (dI ns)
  | [] => .nil
  | n :: r => .cons (.int n) (dp_ints r)
theorem dp_T {K : PySem.W.Frag} {H : Hp} {a : Addr} {ns : List Int} (h : SqT K H a (ns.map V.int)) : Dp K H (.ref a) (.tuple (dI ns)) := .tup h (dp_ints ns)
theorem dp_L {K : PySem.W.Frag} {H : Hp} {a : Addr} {ns : List Int} (h : SqL K H a (ns.map V.int)) : Dp K H (.ref a) (.list (dI ns)) := .lst h (dp_ints ns)
theorem Nice.shaped {n k : Nat} {d : PyData} (h : Nice n k d) (hk : k ≤ 64) : SeqAt.shaped d = true := by
  show (d.canLay0 && decide (d.depth ≤ 64)) = true
  rw [h.lay, decide_eq_true (Nat.le_trans h.depth hk)] <;> rfl

theorem lay_ints : ∀ ns : List Int, PyData.canLayAll0 (dI ns) = true ∧ PyData.depthAll (dI ns) = 0
  | [] => ⟨rfl, rfl⟩
  | n :: r => by
    obtain ⟨h1, h2⟩ := lay_ints r
    refine ⟨?_, ?_⟩
    · show (true && PyData.canLayAll0 (dI r)) = true
      rw [h1] <;> rfl
    · show max 0 (PyData.depthAll (dI r)) = 0
      rw [h2] <;> rfl
theorem shaped_ints (ns : List Int) : SeqAt.shaped (.list (dI ns)) = true := by
  obtain ⟨h1, h2⟩ := lay_ints ns
  show (PyData.canLayAll0 (dI ns) && decide (PyData.depthAll (dI ns) + 1 ≤ 64)) = true
  rw [h1, h2] <;> rfl
section
variable {K : PySem.W.Frag} {H : Hp} {Q : VK} {x y : V} {d e : PyData} {n k m j : Nat}
theorem rd_repr (hx : Dp K H x d) (h : Nice n k d) (hn : n ≤ 2 ^ 20) (hk : k ≤ 40) (hd : isDisplay d = true) (q : Q (.str d.shown) H) : rRepr K [x] H Q :=
  ⟨x, d, rfl, hx, h.show_, hd, h.dict, Nat.le_trans h.depth hk, PyData.shown_fits_bulk (by decide) (by decide) h.short (Nat.le_trans h.bulk hn), q⟩
theorem rd_eqD (hx : Dp K H x d) (hy : Dp K H y e) (h1 : Nice n k d) (h2 : Nice m j e) (hk : k ≤ 64) (hj : j ≤ 64) (q : Q (.bl (PyData.eqv d e)) H) : rEqD K x y H Q :=
  ⟨d, e, hx, hy, h1.shaped hk, h2.shaped hj, q⟩
theorem rd_neD (hx : Dp K H x d) (hy : Dp K H y e) (h1 : Nice n k d) (h2 : Nice m j e) (hk : k ≤ 64) (hj : j ≤ 64) (q : Q (.bl (!PyData.eqv d e)) H) : rNeD K x y H Q :=
  ⟨d, e, hx, hy, h1.shaped hk, h2.shaped hj, q⟩
/-- xs != [] -/
theorem rd_full {p : Addr} {a : Addr} {vs : List V} {ds : List PyData} (hx : SqL K H a vs) (hv : DpAll K H vs ds) (h : SeqAt.shaped (.list ds) = true) (hp : SqL K H p [])
    (q : Q (.bl (!vs.isEmpty)) H) : rNeD K (.ref a) (.ref p) H Q := by
  refine ⟨.list ds, .list [], .lst hx hv, .lst hp .nil, h, rfl, ?_⟩
  cases hv with
  | nil => exact q
  | cons a b => exact q
end
section
variable {K : PySem.W.Frag} {H : Hp} {Q : VK} {l : Addr} {xs : List V} {y : V} {A : Prop}
theorem rd_tyL (h : H l = some (.lst xs)) (q : A) : tyV K "list" (.ref l) H ∧ A := ⟨.inl ⟨rfl, _, SqL.of h⟩, q⟩
theorem rd_append (h : H l = some (.lst xs)) (hz : xs.length < 100000) (q : Q .non (upd H l (.lst (xs ++ [y])))) : rAppend (.ref l) [y] H Q :=
  ⟨l, xs, y, rfl, rfl, h, Evl.sz_lt hz, q⟩
theorem rd_pop (h : H l = some (.lst (xs ++ [y]))) (q : Q y (upd H l (.lst xs))) : rPop (.ref l) [] H Q :=
  ⟨l, xs ++ [y], y, rfl, rfl, h, by rw [List.length_append, List.length_singleton, Nat.add_sub_cancel, List.getElem?_append_right (Nat.le_refl _), Nat.sub_self] <;> rfl, by
    rw [List.dropLast_concat]
    exact q⟩
theorem rd_popAt {k : Nat} {i : Int} (h : H l = some (.lst xs)) (e : i = (k : Int)) (hk : xs[k]? = some y) (hz : xs.length ≤ 100000) (q : Q y (upd H l (.lst (xs.eraseIdx k)))) : rPopAt (.ref l) [.int i] H Q := by
  have hk' : k < xs.length := (List.getElem?_eq_some_iff.mp hk).1
  refine ⟨l, xs, i, k, y, rfl, rfl, h, by omega, by omega, ?_, hk, q⟩
  subst e
  have z := seqIndex_of (k := (k : Int)) (n := xs.length) (Int.natCast_nonneg k) (by exact_mod_cast hk')
  simpa using z
theorem at_nat {ys : List V} {i : Int} {k : Nat} (e : i = (k : Int)) (h : ys[k]? = some y) : atI ys i = some y := by
  rw [e]
  exact atI_nat h
end
/-! ### the draws' deck read -/
theorem kv_text {x : Str} : kV (Sum.inr x) = V.str x := rfl
theorem deck_deep {d l : Addr} {s : Int} {H : Hp} (h : H d = some (.dK [(.inr "deep", .ref l), (.inr "state", .int s)])) : DGet H d (.str "deep") (some (.ref l)) :=
  DGet.k (k := Sum.inr "deep") h
theorem deck_state {d l : Addr} {s : Int} {H : Hp} (h : H d = some (.dK [(.inr "deep", .ref l), (.inr "state", .int s)])) : DGet H d (.str "state") (some (.int s)) :=
  DGet.k (k := Sum.inr "state") h
theorem deck_put {d l : Addr} {s t : Int} {H : Hp} (h : H d = some (.dK [(.inr "deep", .ref l), (.inr "state", .int s)])) :
    DPut H d (.str "state") (.int t) (upd H d (.dK [(.inr "deep", .ref l), (.inr "state", .int t)])) :=
  DPut.k (k := Sum.inr "state") (v := .int t) h (by show 2 < sizeLine; rw [sizeLine_eq]; omega)
end Ea
set_option Elab.async false
set_option linter.all false
set_option maxRecDepth 100000
set_option maxHeartbeats 4000000
/-! Comprehensions and loops among draws; texts of owners. -/
namespace Ea
open PySem PySem.Spec PyProof.Rows L2

/-- what a comprehension's walk asks, by its iterator -/
def LcR (g : TG) (tt : TT) (te : TE) (vs : List Nat) (σ : L2.St) (Q : VK) (J : It) (H1 : Hp) : Prop :=
  ∀ D, H1 D = none → ∃ W : Nat → Nat → Hp → Prop, (∃ m, W 0 m (upd H1 D (.lst []))) ∧ ∀ i m H, W i m H →
    (J.stop i H ∧ Q (.ref D) H) ∨
    (J.go i H ∧ ∃ Nx : Hp → Prop, (∀ H', Nx H' → ∃ m', m' < m ∧ W (i + 1) m' H') ∧
      ∀ x H', J.yld i H x H' → g x (wipe σ vs) H' fun σ2 H2 => wipe σ2 vs = wipe σ vs ∧ tt σ2 H2 fun b H3 =>
        if b = true then te σ2 H3 fun y H4 => ∃ acc, H4 D = some (.lst acc) ∧ acc.length < sizeLine ∧ Nx (upd H4 D (.lst (acc ++ [y]))) else Nx H3)
section
variable {K : PySem.W.Frag} {σ : L2.St} {H : Hp} {Q : VK} {QB : Bool → Hp → Prop} {g : TG} {tt : TT} {te tl : TE} {ta : TA} {vs : List Nat} {wi : TI} {R : It → Hp → Prop} {a b : Int}
theorem rd_lc (h : wi σ H (LcR g tt te vs σ Q)) : tLc wi g tt te vs σ H Q := h
theorem rd_iTup (h : tl σ H fun x H1 => ∃ a, x = .ref a ∧ (∃ xs, SqT K H1 a xs) ∧ R (Itt K a) H1) : iTup K tl σ H R := h
theorem rd_iList (h : tl σ H fun x H1 => ∃ a, x = .ref a ∧ (∃ xs, SqL K H1 a xs) ∧ R (Itl K a) H1) : iList K tl σ H R := h
theorem rd_iRng1 (h : ta σ H fun vs H1 => ∃ j : Int, vs = [.int j] ∧ -(2 ^ 62) ≤ j ∧ j < 2 ^ 62 ∧ R (Itr 0 j.toNat) H1) : iRng1 ta σ H R := h
theorem rd_rng1 (h1 : -(2 ^ 62) ≤ a) (h2 : a < 2 ^ 62) (h : R (Itr 0 a.toNat) H) : ∃ j : Int, ([.int a] : List V) = [.int j] ∧ -(2 ^ 62) ≤ j ∧ j < 2 ^ 62 ∧ R (Itr 0 j.toNat) H := ⟨a, rfl, h1, h2, h⟩
theorem rd_ref {p : Addr} {xs : List V} {P : Addr → Prop} (s : SqT K H p xs) (h : P p) : ∃ a, V.ref p = .ref a ∧ (∃ xs, SqT K H a xs) ∧ P a := ⟨p, rfl, ⟨xs, s⟩, h⟩
theorem rd_refL {p : Addr} {xs : List V} {P : Addr → Prop} (s : SqL K H p xs) (h : P p) : ∃ a, V.ref p = .ref a ∧ (∃ xs, SqL K H a xs) ∧ P a := ⟨p, rfl, ⟨xs, s⟩, h⟩
theorem rd_yes (h : QB true H) : tYes σ H QB := h
theorem rd_true {A B : Prop} (h : A) : if true = true then A else B := by
  rw [if_pos rfl]
  exact h
theorem rd_false {A B : Prop} (h : B) : if false = true then A else B := h
end

section
variable {d l : Addr} {K : PySem.W.Frag} {σ : L2.St} {H : Hp} {Q : VK} {tt : TT} {te : TE} {vs : List Nat} {j : Nat} {σx : V → L2.St} {a : Addr} {xs : List V}
/-- a turn of a comprehension among draws -/
abbrev Turn (d l : Addr) (H : Hp) (tt : TT) (te : TE) (σx : V → L2.St) (Pv : Nat → List V → Prop) (i : Nat) (x : V) : Prop :=
  ∀ (acc : List V) (H' : Hp) (N : VK) (S : Hp → Prop), Go d l H H' → Pv i acc →
    (∀ y H3, Go d l H' H3 → Pv (i + 1) (acc ++ [y]) → N y H3) → (∀ H3, Go d l H' H3 → Pv (i + 1) acc → S H3) →
    tt (σx x) H' fun b H2 => if b = true then te (σx x) H2 N else S H2
def Cg (d l : Addr) (H : Hp) (Pv : Nat → List V → Prop) (D : Addr) (i : Nat) (H' : Hp) : Prop :=
  ∃ acc, H D = none ∧ Go d l H H' ∧ H' D = some (.lst acc) ∧ acc.length ≤ i ∧ Pv i acc
theorem cg_start {Pv : Nat → List V → Prop} (hD : DeckB d l H) (h0 : Pv 0 []) {D : Addr} (e : H D = none) : Cg d l H Pv D 0 (upd H D (.lst [])) :=
  ⟨[], e, Go.new hD e, upd_same, Nat.le_refl _, h0⟩
theorem cg_turn {Pv : Nat → List V → Prop} {D : Addr} {i : Nat} {x : V} {H' : Hp} (hD : DeckB d l H) (hi : i < 100000) (ht : Turn d l H tt te σx Pv i x) (p : Cg d l H Pv D i H') :
    tt (σx x) H' fun b H3 => if b = true then te (σx x) H3 fun y H4 => ∃ acc, H4 D = some (.lst acc) ∧ acc.length < sizeLine ∧ Cg d l H Pv D (i + 1) (upd H4 D (.lst (acc ++ [y]))) else Cg d l H Pv D (i + 1) H3 := by
  obtain ⟨acc, e, g, ea, hl, hp⟩ := p
  obtain ⟨n1, n2⟩ := hD.off e
  refine ht acc H' _ _ g hp (fun y H3 g3 hp3 => ?_) fun H3 g3 hp3 => ?_
  · refine ⟨acc, g3.kp D _ n1 n2 ea, Evl.sz_lt (by omega), acc ++ [y], e, Go.mut (g.trans g3) hD e, upd_same, ?_, hp3⟩
    rw [List.length_append, List.length_singleton]
    omega
  · exact ⟨acc, e, g.trans g3, g3.kp D _ n1 n2 ea, by omega, hp3⟩
theorem lc_goT (Pv : Nat → List V → Prop) (hD : DeckB d l H) (hx : SqT K H a xs) (hz : xs.length ≤ 40000) (hσ : ∀ x, (wipe σ vs).set j (some x) = σx x) (hw : ∀ x, wipe (σx x) vs = wipe σ vs)
    (h0 : Pv 0 []) (hs : ∀ i x, xs[i]? = some x → Turn d l H tt te σx Pv i x)
    (hd : ∀ D acc H', Go d l H H' → H D = none → H' D = some (.lst acc) → Pv xs.length acc → Q (.ref D) H') : LcR (gName j) tt te vs σ Q (Itt K a) H := fun D hn =>
  lc_tup (xs := xs) (Cg d l H Pv D) (cg_start hD h0 hn) (fun i H' _ ⟨_, _, g, _⟩ => g.tup hD hx) (fun i x H' hi p => by
    rw [show gName j x (wipe σ vs) H' = fun N => N (σx x) H' from funext fun N => by rw [← hσ x] <;> rfl]
    refine ⟨hw x, ?_⟩
    have := (List.getElem?_eq_some_iff.mp hi).1
    exact cg_turn hD (by omega) (hs i x hi) p) fun H' p => by
    obtain ⟨acc, e, g, ea, _, hp⟩ := p
    exact hd D acc H' g e ea hp
theorem lc_goL (Pv : Nat → List V → Prop) (hD : DeckB d l H) (hx : ∀ H', Go d l H H' → SqL K H' a xs) (hz : xs.length ≤ 40000) (hσ : ∀ x, (wipe σ vs).set j (some x) = σx x) (hw : ∀ x, wipe (σx x) vs = wipe σ vs)
    (h0 : Pv 0 []) (hs : ∀ i x, xs[i]? = some x → Turn d l H tt te σx Pv i x)
    (hd : ∀ D acc H', Go d l H H' → H D = none → H' D = some (.lst acc) → Pv xs.length acc → Q (.ref D) H') : LcR (gName j) tt te vs σ Q (Itl K a) H := fun D hn =>
  lc_list (xs := xs) (Cg d l H Pv D) (cg_start hD h0 hn) (fun i H' _ ⟨_, _, g, _⟩ => hx H' g) (fun i x H' hi p => by
    rw [show gName j x (wipe σ vs) H' = fun N => N (σx x) H' from funext fun N => by rw [← hσ x] <;> rfl]
    refine ⟨hw x, ?_⟩
    have := (List.getElem?_eq_some_iff.mp hi).1
    exact cg_turn hD (by omega) (hs i x hi) p) fun H' p => by
    obtain ⟨acc, e, g, ea, _, hp⟩ := p
    exact hd D acc H' g e ea hp
theorem lc_goR {lo : Int} {n : Nat} (Pv : Nat → List V → Prop) (hD : DeckB d l H) (hz : n ≤ 40000) (hσ : ∀ x, (wipe σ vs).set j (some x) = σx x) (hw : ∀ x, wipe (σx x) vs = wipe σ vs)
    (h0 : Pv 0 []) (hs : ∀ i, i < n → Turn d l H tt te σx Pv i (.int (lo + i)))
    (hd : ∀ D acc H', Go d l H H' → H D = none → H' D = some (.lst acc) → Pv n acc → Q (.ref D) H') : LcR (gName j) tt te vs σ Q (Itr lo n) H := fun D hn =>
  lc_range (Cg d l H Pv D) (cg_start hD h0 hn) (fun i H' hi p => by
    rw [show gName j (.int (lo + i)) (wipe σ vs) H' = fun N => N (σx (.int (lo + i))) H' from funext fun N => by rw [← hσ (.int (lo + i))] <;> rfl]
    exact ⟨hw _, cg_turn hD (by omega) (hs i hi) p⟩) fun H' p => by
    obtain ⟨acc, e, g, ea, _, hp⟩ := p
    exact hd D acc H' g e ea hp
end

/-! ### texts of "e" and "s" -/
def OwnS (n : Nat) (z : Str) : Prop := z.length = n ∧ ∀ c ∈ z.cps.toList, c = 101 ∨ c = 115
theorem folded_mem (z : Array Nat) : ∀ (n : Nat) (acc : Array Nat) (c : Nat), c ∈ ((List.replicate n z).foldl (· ++ ·) acc).toList → c ∈ acc.toList ∨ c ∈ z.toList
  | 0, acc, c, h => .inl h
  | n + 1, acc, c, h => by
    rw [List.replicate_succ, List.foldl_cons] at h
    rcases folded_mem z n _ c h with h | h
    · rw [Array.toList_append] at h
      exact List.mem_append.mp h
    · exact .inr h
theorem own_rep {z : Str} {k : Nat} {n : Int} (h : OwnS k z) (h0 : 0 ≤ n) : OwnS (n.toNat * k) (repS z n) := by
  refine ⟨by rw [repS_length, h.1], fun c hc => ?_⟩
  rcases folded_mem z.cps n.toNat #[] c hc with q | q
  · simp at q
  · exact h.2 c q
theorem own_add {y z : Str} {k m : Nat} (h1 : OwnS k y) (h2 : OwnS m z) : OwnS (k + m) (y ++ z) := by
  refine ⟨by rw [Str.length_append, h1.1, h2.1], fun c hc => ?_⟩
  have e : (y ++ z).cps.toList = y.cps.toList ++ z.cps.toList := by
    rw [Str.cps_append, Array.toList_append]
  rw [e] at hc
  exact (List.mem_append.mp hc).elim (h1.2 c) (h2.2 c)
theorem own_cut {z : Str} {k n : Nat} (h : OwnS k z) (hn : n ≤ k) : OwnS n (cutS z none (some (n : Int))) := by
  have e1 : HT.sIx z.length 0 none = 0 := HT.sIx_none _ _
  have e2 : HT.sIx z.length z.length (some (n : Int)) = min n z.length := HT.sIx_nat _ _ _
  refine ⟨?_, fun c hc => h.2 c ?_⟩
  · show (cutS z none (some (n : Int))).cps.size = n
    unfold cutS
    rw [e1, e2, List.drop_zero, List.size_toArray, List.length_take, Nat.sub_zero]
    have e3 : z.cps.toList.length = k := h.1
    have e4 : z.length = k := h.1
    rw [e3, e4]
    omega
  · unfold cutS at hc
    rw [List.toList_toArray] at hc
    exact List.mem_of_mem_drop (List.mem_of_mem_take hc)
theorem own_e : OwnS 1 "e" := ⟨rfl, by decide⟩
theorem own_s : OwnS 1 "s" := ⟨rfl, by decide⟩
theorem own_fold : ∀ (ys : List Str) (acc : Array Nat) (m : Nat), (∀ y ∈ ys, OwnS 1 y) → OwnS m ⟨acc⟩ →
    OwnS (m + ys.length) ⟨ys.foldl (fun acc p => acc ++ (Str.ofString "").cps ++ p.cps) acc⟩
  | [], acc, m, _, h => h
  | y :: r, acc, m, hy, h => by
    rw [List.foldl_cons, List.length_cons, show m + (r.length + 1) = (m + 1) + r.length by omega]
    refine own_fold r _ (m + 1) (fun z hz => hy z (List.mem_cons_of_mem _ hz)) ?_
    have e : (⟨acc ++ (Str.ofString "").cps ++ y.cps⟩ : Str) = (⟨acc⟩ : Str) ++ y := by
      show (⟨acc ++ #[] ++ y.cps⟩ : Str) = _
      rw [Array.append_empty]
      rfl
    rw [e]
    exact own_add h (hy y List.mem_cons_self)
theorem own_join {ys : List Str} (h : ∀ y ∈ ys, OwnS 1 y) : OwnS ys.length (Txt.join "" ys) := by
  cases ys with
  | nil => exact ⟨rfl, by decide⟩
  | cons y r =>
    have z := own_fold r y.cps 1 (fun z hz => h z (List.mem_cons_of_mem _ hz)) (h y List.mem_cons_self)
    rw [List.length_cons, Nat.add_comm]
    exact z
theorem own_sum {ys : List Str} (h : ∀ y ∈ ys, OwnS 1 y) : (ys.map (·.length)).sum = ys.length := by
  induction ys with
  | nil => rfl
  | cons y r ih =>
    rw [List.map_cons, List.sum_cons, ih fun z hz => h z (List.mem_cons_of_mem _ hz), (h y List.mem_cons_self).1, List.length_cons]
    omega
/-! ### + of texts, in -/
def rAddSt : R2 := fun x y H Q => ∃ i j, x = .str i ∧ y = .str j ∧ i.length + j.length ≤ sizeLine ∧ Q (.str (i ++ j)) H
theorem op_addSt {X : Cx} : OpR X (binaryOp .Add) rAddSt := op_add_str
section
variable {K : PySem.W.Frag} {H : Hp} {Q : VK} {a : Int} {p : Addr} {ns : List Int} {y z : Str}
theorem rd_addSt (hz : y.length + z.length ≤ sizeLine) (h : Q (.str (y ++ z)) H) : rAddSt (.str y) (.str z) H Q := ⟨y, z, rfl, rfl, hz, h⟩
theorem flat_ints : ∀ ns : List Int, (ns.map V.int).all flatV = true
  | [] => rfl
  | _ :: r => flat_ints r
theorem inV_ints (a : Int) : ∀ ns : List Int, inV (.int a) (ns.map V.int) = decide (a ∈ ns)
  | [] => rfl
  | n :: r => by
    show ((n == a) || inV (.int a) (r.map V.int)) = _
    rw [inV_ints a r]
    by_cases h : n = a
    · subst h
      simp
    · have h' : ¬ a = n := fun e => h e.symm
      have e1 : (n == a) = false := beq_eq_false_iff_ne.mpr h
      rw [e1, Bool.false_or]
      simp [h']
theorem rd_inT (s : SqT K H p (ns.map V.int)) (h : Q (.bl (decide (a ∈ ns))) H) : rIn K false (.int a) (.ref p) H Q :=
  ⟨p, ns.map V.int, rfl, .inr s, rfl, flat_ints ns, by rw [inV_ints]; exact h⟩
theorem rd_inL (s : SqL K H p (ns.map V.int)) (h : Q (.bl (decide (a ∈ ns))) H) : rIn K false (.int a) (.ref p) H Q :=
  ⟨p, ns.map V.int, rfl, .inl s, rfl, flat_ints ns, by rw [inV_ints]; exact h⟩
theorem rd_notInT (s : SqT K H p (ns.map V.int)) (h : Q (.bl (!decide (a ∈ ns))) H) : rIn K true (.int a) (.ref p) H Q :=
  ⟨p, ns.map V.int, rfl, .inr s, rfl, flat_ints ns, by rw [inV_ints]; exact h⟩
theorem rd_notInL (s : SqL K H p (ns.map V.int)) (h : Q (.bl (!decide (a ∈ ns))) H) : rIn K true (.int a) (.ref p) H Q :=
  ⟨p, ns.map V.int, rfl, .inl s, rfl, flat_ints ns, by rw [inV_ints]; exact h⟩
end
/-! ### join -/
def rJoin (K : PySem.W.Frag) : V → List V → Hp → VK → Prop := fun x xs H Q =>
  ∃ (a : Str) (p : Addr) (ys : List Str), x = .str a ∧ xs = [.ref p] ∧ (SqL K H p (ys.map V.str) ∨ SqT K H p (ys.map V.str)) ∧
    (ys.map (·.length)).sum + ys.length * a.length ≤ 16777216 ∧ Q (.str (Txt.join a ys)) H
section
variable {X : Cx} {o e : Expr} {to te : TE} {apos pos : Pos}
theorem pe_joinN (ho : PE X o to) (he : PE X e te) (hs : starEach [e] X.env = [(false, eval e X.env)] := by rfl)
    (hbase : attributeBase o "join" X.env (eval o X.env) = eval o X.env := by rfl) (hline : (apos.endLine == pos.line) = true := by rfl) :
    PE X (.Call (.Attribute o "join" apos) [e] [] pos) (tM1 (rJoin X.K) to te) := pe_join ho he hs hbase hline
end
section
variable {K : PySem.W.Frag} {σ : L2.St} {H : Hp} {Q : VK} {to te : TE} {r : V → List V → Hp → VK → Prop} {z : Str} {P : Prop}
theorem rd_m1 (h : to σ H fun x H1 => (∃ a, x = .str a) ∧ te σ H1 fun y H2 => r x [y] H2 Q) : tM1 r to te σ H Q := h
theorem rd_isS (h : P) : (∃ a, V.str z = .str a) ∧ P := ⟨⟨z, rfl⟩, h⟩
theorem rd_join {p : Addr} {ys : List Str} (s : SqL K H p (ys.map V.str)) (hz : (ys.map (·.length)).sum + ys.length * z.length ≤ 16777216) (h : Q (.str (Txt.join z ys)) H) : rJoin K (.str z) [.ref p] H Q :=
  ⟨z, p, ys, rfl, rfl, .inl s, hz, h⟩
theorem rd_mulS {n : Int} (h0 : 0 ≤ n) (h1 : n ≤ 1000) (h2 : z.length ≤ 1000) (h3 : 1 ≤ z.length) (h : Q (.str (repS z n)) H) : rMulS (.str z) (.int n) H Q := ⟨z, n, rfl, rfl, h0, h1, h2, h3, h⟩
theorem rd_addS {y : Str} (hz : y.length + z.length ≤ sizeLine) (h : Q (.str (y ++ z)) H) : (∃ i j, V.str y = .str i ∧ V.str z = .str j ∧ i.length + j.length ≤ sizeLine ∧ Q (.str (i ++ j)) H) := ⟨y, z, rfl, rfl, hz, h⟩
theorem rd_slS {lo hi : Option Int} (hz : z.length ≤ sizeLine) (h : Q (.str (cutS z lo hi)) H) : rSlS (.str z) lo hi H Q := ⟨z, rfl, hz, h⟩
end
end Ea
set_option Elab.async false
set_option linter.all false
set_option maxRecDepth 100000
set_option maxHeartbeats 4000000
/-! Slices, sums of tuples, sorted lists of ints, ranges as lists; rows of literals. -/
namespace Ea
open PySem PySem.Spec PyProof.Rows L2

/-! ### slices -/
theorem take_min {α : Type} (xs : List α) (k : Nat) : xs.take (min k xs.length) = xs.take k := by
  by_cases h : k ≤ xs.length
  · rw [Nat.min_eq_left h]
  · rw [Nat.min_eq_right (by omega), List.take_of_length_le (Nat.le_refl _), List.take_of_length_le (by omega)]
theorem drop_min {α : Type} (xs : List α) (k : Nat) : xs.drop (min k xs.length) = xs.drop k := by
  by_cases h : k ≤ xs.length
  · rw [Nat.min_eq_left h]
  · rw [Nat.min_eq_right (by omega), List.drop_of_length_le (Nat.le_refl _), List.drop_of_length_le (by omega)]
section
variable {ns : List Int} {xs : List V} {a b : Int}
theorem sIx_int (n e : Nat) (h : 0 ≤ a) : HT.sIx n e (some a) = min a.toNat n := by
  have z := HT.sIx_nat n e a.toNat
  rw [Int.toNat_of_nonneg h] at z
  exact z
theorem cut_take (h : 0 ≤ b) : cutV xs none (some b) = xs.take b.toNat := by
  unfold cutV
  rw [HT.sIx_none, sIx_int _ _ h, List.drop_zero, Nat.sub_zero, take_min]
theorem cut_drop (h : 0 ≤ a) : cutV xs (some a) none = xs.drop a.toNat := by
  unfold cutV
  rw [HT.sIx_none, sIx_int _ _ h, drop_min]
  exact List.take_of_length_le (by rw [List.length_drop]; omega)
theorem cut_mid (h : 0 ≤ a) (h2 : 0 ≤ b) : cutV xs (some a) (some b) = (xs.drop a.toNat).take (b.toNat - a.toNat) := by
  unfold cutV
  rw [sIx_int _ _ h, sIx_int _ _ h2, drop_min]
  by_cases c : b.toNat ≤ xs.length
  · rw [Nat.min_eq_left c]
    by_cases c2 : a.toNat ≤ xs.length
    · rw [Nat.min_eq_left c2]
    · rw [List.drop_of_length_le (by omega), List.take_nil, List.take_nil]
  · rw [Nat.min_eq_right (by omega)]
    by_cases c2 : a.toNat ≤ xs.length
    · rw [Nat.min_eq_left c2, List.take_of_length_le (by rw [List.length_drop]; omega), List.take_of_length_le (by rw [List.length_drop]; omega)]
    · rw [List.drop_of_length_le (by omega), List.take_nil, List.take_nil]
theorem cut_whole {lo hi : Option Int} (h : HT.sIx xs.length 0 lo = 0 ∧ HT.sIx xs.length xs.length hi = xs.length) : cutV xs lo hi = xs := by
  unfold cutV
  rw [h.1, h.2, List.drop_zero, Nat.sub_zero]
  exact List.take_of_length_le (Nat.le_refl _)
end
section
variable {d l : Addr} {K : PySem.W.Frag} {σ : L2.St} {H H' : Hp} {Q : VK} {p p2 : Addr} {xs ys : List V} {lo hi : Option Int} {ns : List Int} {a b : Int}
theorem Go.ex (e : Evl.Ex H H') (h : DeckB d l H) : Go d l H H' := by
  obtain ⟨ns, s, e1, e2, r⟩ := h
  exact ⟨⟨ns, s, e _ _ e1, e _ _ e2, r⟩, fun a o _ _ q => e a o q⟩
theorem rd_slT (s : SqT K H p xs) (h : ∀ (q : Addr) (H' : Hp), Evl.Ex H H' → SqT K H' q (cutV xs lo hi) → Q (.ref q) H') : rSlA K (.ref p) lo hi H Q :=
  ⟨p, xs, rfl, s, fun e => h p H (Evl.Ex.refl H) (by rw [cut_whole e]; exact s), fun _ q hq => h q _ (Evl.Ex.new hq) (SqT.of upd_same)⟩
theorem rd_slL (s : SqL K H p xs) (h : ∀ q, H q = none → Q (.ref q) (upd H q (.lst (cutV xs lo hi)))) : rSlL K (.ref p) lo hi H Q := ⟨p, xs, rfl, s, h⟩
theorem rd_catT (s : SqT K H p xs) (s2 : SqT K H p2 ys) (hz : xs.length + ys.length ≤ sizeLine)
    (h : ∀ (q : Addr) (H' : Hp), Evl.Ex H H' → SqT K H' q (xs ++ ys) → Q (.ref q) H') : rCatA K (.ref p) (.ref p2) H Q := by
  refine ⟨p, p2, xs, ys, rfl, rfl, s, s2, hz, fun e => ?_, fun _ e => ?_, fun _ _ q hq => h q _ (Evl.Ex.new hq) (SqT.of upd_same)⟩
  · subst e
    exact h p2 H (Evl.Ex.refl H) s2
  · subst e
    exact h p H (Evl.Ex.refl H) (by rw [List.append_nil]; exact s)
theorem rd_catL (s : H p = some (.lst xs)) (s2 : H p2 = some (.lst ys)) (hz : xs.length + ys.length ≤ sizeLine) (h : ∀ q, H q = none → Q (.ref q) (upd H q (.lst (xs ++ ys)))) : rCat (.ref p) (.ref p2) H Q :=
  ⟨p, p2, xs, ys, rfl, rfl, s, s2, hz, h⟩
theorem rd_sorted (s : SqL K H p (ns.map V.int)) (h : ∀ (ms : List Int) (q : Addr), ms.Perm ns → ms.Pairwise (· ≤ ·) → H q = none → Q (.ref q) (upd H q (.lst (ms.map V.int)))) : rSortedI K [.ref p] H Q :=
  ⟨p, ns, rfl, s, h⟩
def rgI (a b : Int) : List Int := (List.range (b - a).toNat).map fun i => a + (i : Nat)
theorem rgV_ints (a b : Int) : rgV a b = (rgI a b).map V.int := by
  unfold rgV rgI
  rw [List.map_map]
  rfl
theorem rd_listRg {te : L2.St → Hp → (Int → Int → Hp → Prop) → Prop} (h : te σ H fun a b H1 => RgOk a b ∧ ∀ q, H1 q = none → Q (.ref q) (upd H1 q (.lst (rgV a b)))) : tLstRg te σ H Q := h
theorem rd_rg2 {ta tb : TE} {R : Int → Int → Hp → Prop} (h : ta σ H fun x H1 => tb σ H1 fun y H2 => ∃ i j, x = .int i ∧ y = .int j ∧ R i j H2) : tRg2 ta tb σ H R := h
theorem rd_rgk {R : Int → Int → Prop} (h : R a b) : ∃ i j, V.int a = .int i ∧ V.int b = .int j ∧ R i j := ⟨a, b, rfl, rfl, h⟩
theorem rgI_mem {a b x : Int} : x ∈ rgI a b ↔ a ≤ x ∧ x < b := by
  unfold rgI
  rw [List.mem_map]
  constructor
  · rintro ⟨i, hi, rfl⟩
    have := List.mem_range.mp hi
    omega
  · rintro ⟨h1, h2⟩
    exact ⟨(x - a).toNat, List.mem_range.mpr (by omega), by omega⟩
theorem rgI_lt (a b : Int) : (rgI a b).Pairwise (· < ·) := by
  unfold rgI
  rw [List.pairwise_map]
  exact List.pairwise_lt_range.imp fun {i j} h => by omega
theorem rgI_length (a b : Int) : (rgI a b).length = (b - a).toNat := by
  unfold rgI
  rw [List.length_map, List.length_range]
end
theorem nodup_of_lt {ns : List Int} (h : ns.Pairwise (· < ·)) : ns.Nodup := h.imp fun {a b} q => by omega
theorem lt_of_sorted {ns : List Int} (h : ns.Pairwise (· ≤ ·)) (hn : ns.Nodup) : ns.Pairwise (· < ·) := by
  refine (h.and hn).imp fun {a b} q => ?_
  obtain ⟨q1, q2⟩ := q
  have q2 : a ≠ b := q2
  omega

/-! ### rows -/
/-- a clause of n letters -/
def Row (n : Nat) (ns : List Int) : Prop := ns.Pairwise (fun x y => x.natAbs < y.natAbs) ∧ ∀ x ∈ ns, 1 ≤ x.natAbs ∧ x.natAbs ≤ n
theorem Row.nil {n : Nat} : Row n [] := ⟨List.Pairwise.nil, nofun⟩
theorem Row.sub {n : Nat} {xs ys : List Int} (h : Row n ys) (s : xs.Sublist ys) : Row n xs := ⟨h.1.sublist s, fun x hx => h.2 x (s.subset hx)⟩
theorem Row.abs {n : Nat} {xs ys : List Int} (h : Row n ys) (e : xs.map Int.natAbs = ys.map Int.natAbs) : Row n xs := by
  have h1 : (ys.map Int.natAbs).Pairwise (· < ·) := by
    rw [List.pairwise_map]
    exact h.1
  rw [← e, List.pairwise_map] at h1
  refine ⟨h1, fun x hx => ?_⟩
  have : x.natAbs ∈ ys.map Int.natAbs := by
    rw [← e]
    exact List.mem_map_of_mem hx
  obtain ⟨y, hy, e2⟩ := List.mem_map.mp this
  rw [← e2]
  exact h.2 y hy
theorem Row.of_letters {n : Nat} {ns : List Int} (h : ns.Pairwise (· < ·)) (hm : ∀ x ∈ ns, 1 ≤ x ∧ x ≤ (n : Int)) : Row n ns := by
  refine ⟨?_, fun x hx => ?_⟩
  · refine List.Pairwise.imp_of_mem (fun {a b} ha hb q => ?_) h
    have := hm a ha
    have := hm b hb
    omega
  · have := hm x hx
    omega
theorem Row.length {n : Nat} : ∀ {ns : List Int}, Row n ns → ns.length ≤ n := by
  have key : ∀ (ns : List Int) (k : Nat), ns.Pairwise (fun x y => x.natAbs < y.natAbs) → (∀ x ∈ ns, k < x.natAbs ∧ x.natAbs ≤ n) → k ≤ n → ns.length + k ≤ n := by
    intro ns
    induction ns with
    | nil => intro k _ _ h; simpa using h
    | cons x r ih =>
      intro k hp hm hk
      obtain ⟨h1, h2⟩ := List.pairwise_cons.mp hp
      have hx := hm x List.mem_cons_self
      have z := ih x.natAbs h2 (fun y hy => ⟨h1 y hy, (hm y (List.mem_cons_of_mem _ hy)).2⟩) hx.2
      rw [List.length_cons]
      omega
  intro ns h
  have z := key ns 0 h.1 (fun x hx => ⟨by have := (h.2 x hx).1; omega, (h.2 x hx).2⟩) (Nat.zero_le _)
  omega
end Ea
set_option Elab.async false
set_option linter.all false
set_option maxHeartbeats 4000000
/-! Rows dropped, clashing and met: plain lists. -/
namespace Ea
/-- without what holds at the end -/
def dropTail (f : Int → Bool) (ns : List Int) : List Int := (ns.reverse.dropWhile f).reverse
theorem dropTail_nil (f : Int → Bool) : dropTail f [] = [] := rfl
theorem dropTail_snoc_pos {f : Int → Bool} {ns : List Int} {x : Int} (h : f x = true) : dropTail f (ns ++ [x]) = dropTail f ns := by
  unfold dropTail
  rw [List.reverse_append, List.reverse_singleton, List.singleton_append, List.dropWhile_cons, if_pos h]
theorem dropTail_snoc_neg {f : Int → Bool} {ns : List Int} {x : Int} (h : f x = false) : dropTail f (ns ++ [x]) = ns ++ [x] := by
  unfold dropTail
  rw [List.reverse_append, List.reverse_singleton, List.singleton_append, List.dropWhile_cons, if_neg (by rw [h]; decide), List.reverse_cons, List.reverse_reverse]
theorem take_snoc {ns : List Int} {k : Nat} (h : k < ns.length) : ns.take (k + 1) = ns.take k ++ [ns[k]] := by
  rw [List.take_add_one, List.getElem?_eq_getElem h]
  rfl
theorem dropTail_idem (f : Int → Bool) (ns : List Int) : dropTail f (dropTail f ns) = dropTail f ns := by
  rcases List.eq_nil_or_concat (dropTail f ns) with e | ⟨m, z, e⟩
  · rw [e]
    rfl
  · have e : dropTail f ns = m ++ [z] := by simpa using e
    rw [e]
    refine dropTail_snoc_neg ?_
    have h : ns.reverse.dropWhile f = z :: m.reverse := by
      have h2 := congrArg List.reverse e
      unfold dropTail at h2
      rw [List.reverse_reverse, List.reverse_append] at h2
      simpa using h2
    have h3 := List.head?_dropWhile_not f ns.reverse
    rw [h] at h3
    simpa using h3
theorem dropTail_sub (f : Int → Bool) (ns : List Int) : (dropTail f ns).Sublist ns := by
  have h : (ns.reverse.dropWhile f).Sublist ns.reverse := List.dropWhile_sublist f
  have h2 := h.reverse
  rw [List.reverse_reverse] at h2
  exact h2
/-- the greatest letter of the other party's -/
def lastOf (f : Int → Bool) (ns : List Int) : List Int := (ns.filter fun x => !f x).map fun x => (x.natAbs : Int)
theorem short_eq {n : Nat} {f : Int → Bool} {m : Int} : ∀ {ns : List Int}, Row n ns → (m ∈ lastOf f ns ++ [0]) → (∀ y ∈ lastOf f ns ++ [0], y ≤ m) →
    (ns.filter fun x => !f x || decide ((x.natAbs : Int) < m)) = dropTail f ns := by
  intro ns
  generalize hk : ns.length = k
  induction k generalizing ns with
  | zero =>
    intro _ _ _
    rw [List.length_eq_zero_iff.mp hk]
    rfl
  | succ k ih =>
    intro hr hm hb
    obtain ⟨r, x, e⟩ : ∃ r x, ns = r ++ [x] := by
      rcases List.eq_nil_or_concat ns with e | ⟨r, x, e⟩
      · rw [e] at hk
        cases hk
      · exact ⟨r, x, by simpa using e⟩
    subst e
    have hlt : ∀ y ∈ r, y.natAbs < x.natAbs := fun y hy => (List.pairwise_append.mp hr.1).2.2 y hy x List.mem_cons_self
    have hx1 := (hr.2 x (List.mem_append_right _ List.mem_cons_self)).1
    have hr' : Row n r := hr.sub (List.sublist_append_left _ _)
    rw [List.filter_append]
    cases hf : f x with
    | false =>
      rw [dropTail_snoc_neg hf]
      have e2 : ([x].filter fun x => !f x || decide ((x.natAbs : Int) < m)) = [x] := by simp [hf]
      rw [e2]
      have hxm : (x.natAbs : Int) ≤ m := hb _ (List.mem_append_left _ (by
        unfold lastOf
        exact List.mem_map.mpr ⟨x, List.mem_filter.mpr ⟨List.mem_append_right _ List.mem_cons_self, by rw [hf]; rfl⟩, rfl⟩))
      congr 1
      refine List.filter_eq_self.mpr fun y hy => ?_
      have := hlt y hy
      rw [Bool.or_eq_true]
      exact .inr (decide_eq_true (by omega))
    | true =>
      rw [dropTail_snoc_pos hf]
      have el : lastOf f (r ++ [x]) = lastOf f r := by
        unfold lastOf
        rw [List.filter_append]
        have : ([x].filter fun x => !f x) = [] := by simp [hf]
        rw [this, List.append_nil]
      rw [el] at hm hb
      have hxm : ¬ (x.natAbs : Int) < m := by
        rcases List.mem_append.mp hm with h | h
        · obtain ⟨y, hy, e⟩ := List.mem_map.mp h
          have := hlt y (List.mem_filter.mp hy).1
          omega
        · rw [List.mem_singleton.mp h]
          omega
      have e2 : ([x].filter fun x => !f x || decide ((x.natAbs : Int) < m)) = [] := by simp [hf, hxm]
      rw [e2, List.append_nil]
      refine ih (ns := r) ?_ hr' hm hb
      rw [List.length_append, List.length_singleton] at hk
      omega

/-! ### letters in which rows clash -/
def against (one other : List Int) : List Int := (one.filter fun x => decide (-x ∈ other)).map fun x => (x.natAbs : Int)
theorem against_mem {one other : List Int} {k : Int} : k ∈ against one other ↔ ∃ x ∈ one, -x ∈ other ∧ (x.natAbs : Int) = k := by
  unfold against
  rw [List.mem_map]
  constructor
  · rintro ⟨x, hx, e⟩
    have h := List.mem_filter.mp hx
    exact ⟨x, h.1, of_decide_eq_true h.2, e⟩
  · rintro ⟨x, hx, h, e⟩
    exact ⟨x, List.mem_filter.mpr ⟨hx, decide_eq_true h⟩, e⟩
theorem against_lt {n : Nat} {one other : List Int} (h : Row n one) : (against one other).Pairwise (· < ·) := by
  unfold against
  rw [List.pairwise_map]
  exact (h.1.sublist List.filter_sublist).imp fun {a b} q => by omega
theorem eq_of_lt : ∀ {xs ys : List Int}, xs.Pairwise (· < ·) → ys.Pairwise (· < ·) → (∀ x, x ∈ xs ↔ x ∈ ys) → xs = ys
  | [], [], _, _, _ => rfl
  | [], y :: r, _, _, h => absurd ((h y).mpr List.mem_cons_self) nofun
  | x :: r, [], _, _, h => absurd ((h x).mp List.mem_cons_self) nofun
  | x :: r, y :: t, h1, h2, h => by
    obtain ⟨a1, a2⟩ := List.pairwise_cons.mp h1
    obtain ⟨b1, b2⟩ := List.pairwise_cons.mp h2
    have e : x = y := by
      rcases List.mem_cons.mp ((h x).mp List.mem_cons_self) with e | e
      · exact e
      · rcases List.mem_cons.mp ((h y).mpr List.mem_cons_self) with e2 | e2
        · exact e2.symm
        · have := a1 y e2
          have := b1 x e
          omega
    subst e
    congr 1
    refine eq_of_lt a2 b2 fun z => ⟨fun hz => ?_, fun hz => ?_⟩
    · rcases List.mem_cons.mp ((h z).mp (List.mem_cons_of_mem _ hz)) with e | e
      · have := a1 z hz
        omega
      · exact e
    · rcases List.mem_cons.mp ((h z).mpr (List.mem_cons_of_mem _ hz)) with e | e
      · have := b1 z hz
        omega
      · exact e
theorem against_comm {n m : Nat} {one other : List Int} (h1 : Row n one) (h2 : Row m other) : against other one = against one other := by
  refine eq_of_lt (against_lt h2) (against_lt h1) fun k => ?_
  rw [against_mem, against_mem]
  constructor
  · rintro ⟨x, hx, hn, e⟩
    exact ⟨-x, hn, by rw [Int.neg_neg]; exact hx, by omega⟩
  · rintro ⟨x, hx, hn, e⟩
    exact ⟨-x, hn, by rw [Int.neg_neg]; exact hx, by omega⟩
theorem against_pos {n : Nat} {one other : List Int} (h : Row n one) {k : Int} (hk : k ∈ against one other) : 1 ≤ k ∧ k ≤ n := by
  obtain ⟨x, hx, _, e⟩ := against_mem.mp hk
  have := h.2 x hx
  omega

/-! ### rows that meet -/
def IsJoin (one other r : List Int) : Prop := r.Pairwise (fun x y => x.natAbs < y.natAbs) ∧ ∀ x, x ∈ r ↔ (x ∈ one ∨ x ∈ other) ∧ (x.natAbs : Int) ∉ against one other
theorem eq_of_asc : ∀ {xs ys : List Int}, xs.Pairwise (fun x y => x.natAbs < y.natAbs) → ys.Pairwise (fun x y => x.natAbs < y.natAbs) → (∀ x, x ∈ xs ↔ x ∈ ys) → xs = ys
  | [], [], _, _, _ => rfl
  | [], y :: r, _, _, h => absurd ((h y).mpr List.mem_cons_self) nofun
  | x :: r, [], _, _, h => absurd ((h x).mp List.mem_cons_self) nofun
  | x :: r, y :: t, h1, h2, h => by
    obtain ⟨a1, a2⟩ := List.pairwise_cons.mp h1
    obtain ⟨b1, b2⟩ := List.pairwise_cons.mp h2
    have e : x = y := by
      rcases List.mem_cons.mp ((h x).mp List.mem_cons_self) with e | e
      · exact e
      · rcases List.mem_cons.mp ((h y).mpr List.mem_cons_self) with e2 | e2
        · exact e2.symm
        · have := a1 y e2
          have := b1 x e
          omega
    subst e
    congr 1
    refine eq_of_asc a2 b2 fun z => ⟨fun hz => ?_, fun hz => ?_⟩
    · rcases List.mem_cons.mp ((h z).mp (List.mem_cons_of_mem _ hz)) with e | e
      · have := a1 z hz
        rw [e] at this
        omega
      · exact e
    · rcases List.mem_cons.mp ((h z).mpr (List.mem_cons_of_mem _ hz)) with e | e
      · have := b1 z hz
        rw [e] at this
        omega
      · exact e
theorem IsJoin.eq {one other r t : List Int} (h1 : IsJoin one other r) (h2 : IsJoin one other t) : r = t :=
  eq_of_asc h1.1 h2.1 fun x => (h1.2 x).trans (h2.2 x).symm
theorem IsJoin.comm {n m : Nat} {one other r : List Int} (a : Row n one) (b : Row m other) (h : IsJoin other one r) : IsJoin one other r :=
  ⟨h.1, fun x => by rw [h.2 x, against_comm a b, or_comm]⟩
theorem IsJoin.row {n : Nat} {one other r : List Int} (a : Row n one) (b : Row n other) (h : IsJoin one other r) : Row n r :=
  ⟨h.1, fun x hx => ((h.2 x).mp hx).1.elim (a.2 x) (b.2 x)⟩
/-- literals of one letter in both are the same, where they do not clash in it -/
theorem same_of {n : Nat} {one other : List Int} (a : Row n one) (b : Row n other) {x y : Int} (hx : x ∈ one ∨ x ∈ other) (hy : y ∈ one ∨ y ∈ other) (e : x.natAbs = y.natAbs)
    (hn : (x.natAbs : Int) ∉ against one other) : x = y := by
  have key : ∀ {xs : List Int}, Row n xs → x ∈ xs → y ∈ xs → x = y := fun {xs} h h1 h2 => by
    obtain ⟨i, hi, e1⟩ := List.mem_iff_getElem.mp h1
    obtain ⟨j, hj, e2⟩ := List.mem_iff_getElem.mp h2
    have hp := List.pairwise_iff_getElem.mp h.1
    rcases Nat.lt_trichotomy i j with q | q | q
    · have := hp i j hi hj q
      rw [e1, e2] at this
      omega
    · subst q
      rw [← e1, ← e2]
    · have := hp j i hj hi q
      rw [e1, e2] at this
      omega
  have opp : x = y ∨ y = -x := by omega
  rcases opp with q | q
  · exact q
  · subst q
    rcases hx with hx | hx <;> rcases hy with hy | hy
    · exact key a hx hy
    · exact absurd (against_mem.mpr ⟨x, hx, hy, rfl⟩) hn
    · exact absurd (against_mem.mpr ⟨-x, hy, by rw [Int.neg_neg]; exact hx, by omega⟩) hn
    · exact key b hx hy
end Ea
set_option Elab.async false
set_option linter.all false
set_option maxRecDepth 100000
set_option maxHeartbeats 4000000
/-! Comprehensions over ints where nothing is changed; greatest, texts' places. -/
namespace Ea
open PySem PySem.Spec PyProof.Rows L2
section
variable {K : PySem.W.Frag} {σ : L2.St} {H : Hp} {Q : VK} {tt : TT} {te : TE} {vs : List Nat} {j : Nat} {σx : V → L2.St} {a : Addr} {ns : List Int} {f : Int → Bool} {g : Int → V}
/-- a turn: f tells whether x gives, g what -/
abbrev TurnF (H : Hp) (tt : TT) (te : TE) (σx : V → L2.St) (f : Int → Bool) (g : Int → V) (x : Int) : Prop :=
  ∀ (H' : Hp) (N : VK) (S : Hp → Prop), Evl.Ex H H' → (f x = true → ∀ H3, Evl.Ex H' H3 → N (g x) H3) → (f x = false → ∀ H3, Evl.Ex H' H3 → S H3) →
    tt (σx (.int x)) H' fun b H2 => if b = true then te (σx (.int x)) H2 N else S H2
def Cf (H : Hp) (ns : List Int) (f : Int → Bool) (g : Int → V) (D : Addr) (i : Nat) (H' : Hp) : Prop :=
  H D = none ∧ Evl.Ex H H' ∧ H' D = some (.lst (((ns.take i).filter f).map g))
theorem cf_turn {D : Addr} {i : Nat} {x : Int} {H' : Hp} (hi : ns[i]? = some x) (hz : ns.length ≤ 40000) (ht : TurnF H tt te σx f g x) (p : Cf H ns f g D i H') :
    tt (σx (.int x)) H' fun b H3 => if b = true then te (σx (.int x)) H3 fun y H4 => ∃ acc, H4 D = some (.lst acc) ∧ acc.length < sizeLine ∧ Cf H ns f g D (i + 1) (upd H4 D (.lst (acc ++ [y]))) else Cf H ns f g D (i + 1) H3 := by
  obtain ⟨e, ex, ea⟩ := p
  have hl : ((((ns.take i).filter f).map g)).length < 100000 := by
    rw [List.length_map]
    have h1 := List.length_filter_le f (ns.take i)
    have h2 := List.length_take_le i ns
    have h3 := List.length_take (i := i) (l := ns)
    omega
  refine ht H' _ _ ex (fun hf H3 e3 => ?_) fun hf H3 e3 => ?_
  · refine ⟨_, e3 D _ ea, Evl.sz_lt hl, e, Evl.Ex.mut (ex.trans e3) e, ?_⟩
    rw [upd_same, List.take_add_one, hi, List.filter_append, List.map_append]
    have : ((some x).toList.filter f) = [x] := by simp [hf]
    rw [this] <;> rfl
  · refine ⟨e, ex.trans e3, ?_⟩
    rw [List.take_add_one, hi, List.filter_append]
    have : ((some x).toList.filter f) = [] := by simp [hf]
    rw [this, List.append_nil]
    exact e3 D _ ea
theorem lc_fmT (f : Int → Bool) (g : Int → V) (hx : SqT K H a (ns.map V.int)) (hz : ns.length ≤ 40000) (hσ : ∀ x, (wipe σ vs).set j (some x) = σx x) (hw : ∀ x, wipe (σx x) vs = wipe σ vs)
    (hs : ∀ x ∈ ns, TurnF H tt te σx f g x)
    (hd : ∀ D H', Evl.Ex H H' → H D = none → H' D = some (.lst ((ns.filter f).map g)) → Q (.ref D) H') : LcR (gName j) tt te vs σ Q (Itt K a) H := fun D hn =>
  lc_tup (xs := ns.map V.int) (Cf H ns f g D) ⟨hn, Evl.Ex.new hn, upd_same⟩ (fun i H' _ ⟨_, ex, _⟩ => Evl.ex_t ex hx) (fun i x H' hi p => by
    rw [List.getElem?_map] at hi
    obtain ⟨y, hy, rfl⟩ := Option.map_eq_some_iff.mp hi
    rw [show gName j (.int y) (wipe σ vs) H' = fun N => N (σx (.int y)) H' from funext fun N => by rw [← hσ (.int y)] <;> rfl]
    exact ⟨hw _, cf_turn hy hz (hs y (List.mem_of_getElem? hy)) p⟩) fun H' p => by
    obtain ⟨e, ex, ea⟩ := p
    rw [List.length_map, List.take_of_length_le (Nat.le_refl _)] at ea
    exact hd D H' ex e ea
theorem lc_fmL (f : Int → Bool) (g : Int → V) (hx : SqL K H a (ns.map V.int)) (hz : ns.length ≤ 40000) (hσ : ∀ x, (wipe σ vs).set j (some x) = σx x) (hw : ∀ x, wipe (σx x) vs = wipe σ vs)
    (hs : ∀ x ∈ ns, TurnF H tt te σx f g x)
    (hd : ∀ D H', Evl.Ex H H' → H D = none → H' D = some (.lst ((ns.filter f).map g)) → Q (.ref D) H') : LcR (gName j) tt te vs σ Q (Itl K a) H := fun D hn =>
  lc_list (xs := ns.map V.int) (Cf H ns f g D) ⟨hn, Evl.Ex.new hn, upd_same⟩ (fun i H' _ ⟨_, ex, _⟩ => Evl.ex_l ex hx) (fun i x H' hi p => by
    rw [List.getElem?_map] at hi
    obtain ⟨y, hy, rfl⟩ := Option.map_eq_some_iff.mp hi
    rw [show gName j (.int y) (wipe σ vs) H' = fun N => N (σx (.int y)) H' from funext fun N => by rw [← hσ (.int y)] <;> rfl]
    exact ⟨hw _, cf_turn hy hz (hs y (List.mem_of_getElem? hy)) p⟩) fun H' p => by
    obtain ⟨e, ex, ea⟩ := p
    rw [List.length_map, List.take_of_length_le (Nat.le_refl _)] at ea
    exact hd D H' ex e ea
theorem rd_maxL {m : List Int} (s : SqL K H a (m.map V.int)) (h0 : 0 < m.length) (h : ∀ x, x ∈ m → (∀ y, y ∈ m → y ≤ x) → Q (.int x) H) : rMax K [.ref a] H Q := ⟨a, m, rfl, s, h0, h⟩
end
theorem rd_iteC {p : Prop} {_ : Decidable p} {σ : L2.St} {H : Hp} {Q : VK} {u v x : V} (e1 : p → u = x) (e2 : ¬ p → v = x) (h : Q x H) : if decide p = true then tC u σ H Q else tC v σ H Q := by
  by_cases c : p
  · rw [if_pos (decide_eq_true c), e1 c]
    exact h
  · rw [if_neg (by rw [decide_eq_true_eq]; exact c), e2 c]
    exact h
theorem bor_l {a b : Bool} (h : a = true) : (a || b) = true := by rw [h, Bool.true_or]
theorem bor_r {a b : Bool} (h : b = true) : (a || b) = true := by rw [h, Bool.or_true]
theorem bor_f {a b : Bool} (h : a = false) (h2 : b = false) : (a || b) = false := by rw [h, h2, Bool.or_false]
/-- the sign of a literal's letter -/
def sgn (z : Str) (x : Int) : Nat := z.cps.toList.getD (x.natAbs - 1) 0
def heldBy (z h : Str) (x : Int) : Bool := decide (V.str ⟨#[sgn z x]⟩ = V.str h)
theorem at_sgn {n : Nat} {z : Str} {x : Int} (h : OwnS n z) (h1 : 1 ≤ x.natAbs) (h2 : x.natAbs ≤ n) : atI z.cps.toList ((x.natAbs : Int) - 1) = some (sgn z x) := by
  have e : (x.natAbs : Int) - 1 = ((x.natAbs - 1 : Nat) : Int) := by omega
  have hl : x.natAbs - 1 < z.cps.toList.length := by
    have : z.cps.toList.length = n := h.1
    omega
  rw [e]
  refine atI_nat ?_
  unfold sgn
  rw [List.getElem?_eq_getElem hl, List.getD_eq_getElem?_getD, List.getElem?_eq_getElem hl]
  rfl
end Ea
set_option Elab.async false
set_option linter.all false
set_option maxRecDepth 100000
set_option maxHeartbeats 4000000
/-! Loops over tuples; dicts of literals by their letters. -/
namespace Ea
open PySem PySem.Spec PyProof.Rows L2

/-! ### a for, by its iterator -/
def ForR (g : TG) (tb : TS) (D : Ends) (σ : L2.St) (J : It) (H1 : Hp) : Prop :=
  ∃ W : Nat → Nat → L2.St → Hp → Prop, (∃ m, W 0 m σ H1) ∧ ∀ i m σ H, W i m σ H →
    (J.stop i H ∧ D.nx σ H) ∨
    (J.go i H ∧ ∃ N : L2.St → Hp → Prop, (∀ σ' H', N σ' H' → ∃ m', m' < m ∧ W (i + 1) m' σ' H') ∧
      ∀ x H', J.yld i H x H' → g x σ H' fun σ2 H2 => tb { D with nx := N, ct := N, bk := D.nx } σ2 H2)
section
variable {K : PySem.W.Frag} {σ : L2.St} {H : Hp} {g : TG} {tb : TS} {D : Ends} {wi : TI} {a : Addr} {xs : List V} {j : Nat}
theorem rd_for (h : wi σ H (ForR g tb D σ)) : tFor wi g tb D σ H := h
theorem fr_tup (Pv : Nat → L2.St → Hp → Prop) (h0 : Pv 0 σ H) (hl : ∀ i σ H, i ≤ xs.length → Pv i σ H → SqT K H a xs)
    (hs : ∀ i x σ H, xs[i]? = some x → Pv i σ H → tb { D with nx := Pv (i + 1), ct := Pv (i + 1), bk := D.nx } (σ.set j (some x)) H) (hd : ∀ σ H, Pv xs.length σ H → D.nx σ H) :
    ForR (gName j) tb D σ (Itt K a) H := for_tup Pv h0 hl (fun i x σ H hi p => hs i x σ H hi p) hd
theorem fr_list (Pv : Nat → L2.St → Hp → Prop) (h0 : Pv 0 σ H) (hl : ∀ i σ H, i ≤ xs.length → Pv i σ H → SqL K H a xs)
    (hs : ∀ i x σ H, xs[i]? = some x → Pv i σ H → tb { D with nx := Pv (i + 1), ct := Pv (i + 1), bk := D.nx } (σ.set j (some x)) H) (hd : ∀ σ H, Pv xs.length σ H → D.nx σ H) :
    ForR (gName j) tb D σ (Itl K a) H := for_list Pv h0 hl (fun i x σ H hi p => hs i x σ H hi p) hd
theorem fr_range {lo : Int} {n : Nat} (Pv : Nat → L2.St → Hp → Prop) (h0 : Pv 0 σ H)
    (hs : ∀ i σ H, i < n → Pv i σ H → tb { D with nx := Pv (i + 1), ct := Pv (i + 1), bk := D.nx } (σ.set j (some (.int (lo + i)))) H) (hd : ∀ σ H, Pv n σ H → D.nx σ H) :
    ForR (gName j) tb D σ (Itr lo n) H := for_range Pv h0 (fun i σ H hi p => hs i σ H hi p) hd
end

theorem rd_dnew {σ : L2.St} {H : Hp} {Q : VK} (h : ∀ p, H p = none → Q (.ref p) (upd H p (.dK []))) : tDNewK σ H Q := h
theorem rd_gtup2 {K : PySem.W.Frag} {σ σ' : L2.St} {H : Hp} {p : Addr} {x y : V} {n i j : Nat} {N : L2.St → Hp → Prop} (s : SqT K H p [x, y]) (hn : n = 2) (hs : (σ.set i (some x)).set j (some y) = σ') (h : N σ' H) :
    gTup K n (gCons (gName i) (gCons (gName j) gNil)) (.ref p) σ H N := ⟨p, [x, y], rfl, s, hn.symm, x, [y], rfl, y, [], rfl, rfl, by subst hs; exact h⟩
/-! ### sorted of a dict by its keys -/
def rSortD : List V → Hp → VK → Prop := fun xs H Q => ∃ (a : Addr) (kvs : List (Key × V)) (ks : List Int), xs = [.ref a] ∧ Rd H a (.dK kvs) ∧ kvs.map (·.1) = ks.map Sum.inl ∧ ks.length < 64 ∧
  ∀ (ys : List Int) (p : Addr), ys.Perm ks → ys.Pairwise (· ≤ ·) → H p = none → Q (.ref p) (upd H p (.lst (ys.map V.int)))
theorem c_sortedD {X : Cx} (h : X.calm = true) : CallR X (.builtin "sorted") rSortD := call_sortedDI h
theorem rd_sortD {H : Hp} {Q : VK} {a : Addr} {kvs : List (Key × V)} {ks : List Int} (h : H a = some (.dK kvs)) (e : kvs.map (·.1) = ks.map Sum.inl) (hl : ks.length < 64)
    (q : ∀ (ys : List Int) (p : Addr), ys.Perm ks → ys.Pairwise (· ≤ ·) → H p = none → Q (.ref p) (upd H p (.lst (ys.map V.int)))) : rSortD [.ref a] H Q := ⟨a, kvs, ks, rfl, .inl h, e, hl, q⟩

/-! ### a dict of literals by letters -/
abbrev lk (x : Int) : Key := Sum.inl (x.natAbs : Int)
structure Dic (ws : List Int) (kvs : List (Key × V)) : Prop where
  ks : ∃ ks : List Int, kvs.map (·.1) = ks.map Sum.inl ∧ ks.Nodup ∧ ∀ k, k ∈ ks ↔ ∃ x ∈ ws, (x.natAbs : Int) = k
  val : ∀ k : Int, (∃ x ∈ ws, (x.natAbs : Int) = k) → ∃ x ∈ ws, (x.natAbs : Int) = k ∧ valV kvs (.inl k) = some (.int x)
  len : kvs.length ≤ ws.length
theorem Dic.nil : Dic [] [] := by
  refine ⟨⟨[], rfl, List.nodup_nil, fun k => ⟨fun h => (nomatch h), ?_⟩⟩, ?_, Nat.le_refl _⟩
  · rintro ⟨x, h, _⟩
    cases h
  · rintro k ⟨x, h, _⟩
    cases h
theorem keys_put {kvs : List (Key × V)} {k : Key} {v : V} : (putK kvs k v).map (·.1) = if (kvs.any fun kv => decide (kv.1 = k)) = true then kvs.map (·.1) else kvs.map (·.1) ++ [k] := by
  unfold putK
  split
  · rw [List.map_map]
    refine List.map_congr_left fun p _ => ?_
    show (if p.1 = k then (p.1, v) else p).1 = p.1
    split <;> rfl
  · rw [List.map_append]
    rfl
theorem any_key {kvs : List (Key × V)} {k : Key} : (kvs.any fun kv => decide (kv.1 = k)) = true ↔ k ∈ kvs.map (·.1) := by
  rw [List.any_eq_true, List.mem_map]
  constructor
  · rintro ⟨p, hp, e⟩
    exact ⟨p, hp, of_decide_eq_true e⟩
  · rintro ⟨p, hp, e⟩
    exact ⟨p, hp, decide_eq_true e⟩
theorem Dic.put {ws : List Int} {kvs : List (Key × V)} (h : Dic ws kvs) (x : Int) : Dic (ws ++ [x]) (putK kvs (lk x) (.int x)) := by
  obtain ⟨⟨ks, e, nd, hm⟩, hv, hl⟩ := h
  refine ⟨?_, fun k hk => ?_, ?_⟩
  · rw [keys_put]
    by_cases c : (kvs.any fun kv => decide (kv.1 = lk x)) = true
    · rw [if_pos c]
      have hx : (x.natAbs : Int) ∈ ks := by
        have z := any_key.mp c
        rw [e] at z
        obtain ⟨k, hk, e2⟩ := List.mem_map.mp z
        cases e2
        exact hk
      refine ⟨ks, e, nd, fun k => ⟨fun hk => ?_, fun ⟨y, hy, e2⟩ => ?_⟩⟩
      · obtain ⟨y, hy, e2⟩ := (hm k).mp hk
        exact ⟨y, List.mem_append_left _ hy, e2⟩
      · rcases List.mem_append.mp hy with hy | hy
        · exact (hm k).mpr ⟨y, hy, e2⟩
        · rw [List.mem_singleton.mp hy] at e2
          rw [← e2]
          exact hx
    · rw [if_neg c]
      have hx : (x.natAbs : Int) ∉ ks := fun hx => c (any_key.mpr (by rw [e]; exact List.mem_map_of_mem hx))
      refine ⟨ks ++ [(x.natAbs : Int)], by rw [e, List.map_append] <;> rfl, ?_, fun k => ⟨fun hk => ?_, fun ⟨y, hy, e2⟩ => ?_⟩⟩
      · rw [List.nodup_append]
        exact ⟨nd, by simp, fun a ha b hb => by rw [List.mem_singleton.mp hb]; exact fun q => hx (q ▸ ha)⟩
      · rcases List.mem_append.mp hk with hk | hk
        · obtain ⟨y, hy, e2⟩ := (hm k).mp hk
          exact ⟨y, List.mem_append_left _ hy, e2⟩
        · exact ⟨x, List.mem_append_right _ List.mem_cons_self, (List.mem_singleton.mp hk).symm⟩
      · rcases List.mem_append.mp hy with hy | hy
        · exact List.mem_append_left _ ((hm k).mpr ⟨y, hy, e2⟩)
        · rw [List.mem_singleton.mp hy] at e2
          exact List.mem_append_right _ (by rw [← e2]; exact List.mem_cons_self)
  · rw [valV_put]
    by_cases c : (Sum.inl k : Key) = lk x
    · rw [if_pos c]
      have c2 : k = (x.natAbs : Int) := Sum.inl.inj c
      exact ⟨x, List.mem_append_right _ List.mem_cons_self, c2.symm, rfl⟩
    · rw [if_neg c]
      obtain ⟨y, hy, e2⟩ := hk
      have hy' : y ∈ ws := by
        rcases List.mem_append.mp hy with hy | hy
        · exact hy
        · rw [List.mem_singleton.mp hy] at e2
          exact absurd (congrArg Sum.inl e2.symm) c
      obtain ⟨z, hz, e3, e4⟩ := hv k ⟨y, hy', e2⟩
      exact ⟨z, List.mem_append_left _ hz, e3, e4⟩
  · have h1 := congrArg List.length (keys_put (kvs := kvs) (k := lk x) (v := .int x))
    rw [List.length_map] at h1
    rw [h1, List.length_append, List.length_singleton]
    split
    · rw [List.length_map]
      omega
    · rw [List.length_append, List.length_map, List.length_singleton]
      omega
/-- the literal that a dict has for a letter -/
def litOf (kvs : List (Key × V)) (k : Int) : Int := match valV kvs (.inl k) with
  | some (.int x) => x
  | _ => 0
theorem Dic.lit {ws : List Int} {kvs : List (Key × V)} (h : Dic ws kvs) {k : Int} (hk : ∃ x ∈ ws, (x.natAbs : Int) = k) :
    valV kvs (.inl k) = some (.int (litOf kvs k)) ∧ litOf kvs k ∈ ws ∧ ((litOf kvs k).natAbs : Int) = k := by
  obtain ⟨x, hx, e, hv⟩ := h.val k hk
  have : litOf kvs k = x := by
    unfold litOf
    rw [hv]
  rw [this]
  exact ⟨hv, hx, e⟩
theorem Dic.join {n : Nat} {one other : List Int} {kvs : List (Key × V)} (h : Dic (one ++ other) kvs) (a : Row n one) (b : Row n other) {ys : List Int} (so : ys.Pairwise (· < ·))
    (hy : ∀ k, k ∈ ys ↔ (∃ x ∈ one ++ other, (x.natAbs : Int) = k) ∧ k ∉ against one other) : IsJoin one other (ys.map (litOf kvs)) := by
  have hl : ∀ k ∈ ys, litOf kvs k ∈ one ++ other ∧ ((litOf kvs k).natAbs : Int) = k := fun k hk => (h.lit ((hy k).mp hk).1).2
  refine ⟨?_, fun x => ⟨fun hx => ?_, fun ⟨hx, hn⟩ => ?_⟩⟩
  · rw [List.pairwise_map]
    refine List.Pairwise.imp_of_mem (fun {p q} hp hq hlt => ?_) so
    have h1 := (hl p hp).2
    have h2 := (hl q hq).2
    omega
  · obtain ⟨k, hk, rfl⟩ := List.mem_map.mp hx
    obtain ⟨h1, h2⟩ := hl k hk
    exact ⟨List.mem_append.mp h1, by rw [h2]; exact ((hy k).mp hk).2⟩
  · have hk : (x.natAbs : Int) ∈ ys := (hy _).mpr ⟨⟨x, List.mem_append.mpr hx, rfl⟩, hn⟩
    obtain ⟨h1, h2⟩ := hl _ hk
    refine List.mem_map.mpr ⟨_, hk, ?_⟩
    exact (same_of a b hx (List.mem_append.mp h1) (by omega) hn).symm
theorem valV_drop {kvs : List (Key × V)} {k j : Key} (h : j ≠ k) : valV (dropK kvs k) j = valV kvs j := by
  induction kvs with
  | nil => rfl
  | cons p r ih =>
    by_cases e : p.1 = k
    · rw [dropK_pos e, ih, valV_neg (fun z => h (z.symm.trans e))]
    · rw [dropK_neg e]
      by_cases e2 : p.1 = j
      · rw [valV_pos e2, valV_pos e2]
      · rw [valV_neg e2, valV_neg e2, ih]
theorem keys_drop {kvs : List (Key × V)} {ks : List Int} {c : Int} (h : kvs.map (·.1) = ks.map Sum.inl) : (dropK kvs (.inl c)).map (·.1) = (ks.filter fun k => decide (k ≠ c)).map Sum.inl := by
  induction kvs generalizing ks with
  | nil =>
    cases ks with
    | nil => rfl
    | cons k r => cases h
  | cons p r ih =>
    cases ks with
    | nil => cases h
    | cons k t =>
      have h1 : p.1 = Sum.inl k := (List.cons.inj h).1
      have h2 := ih (List.cons.inj h).2
      by_cases e : k = c
      · subst e
        rw [dropK_pos h1, h2]
        simp
      · have e1 : ¬ p.1 = Sum.inl c := fun z => e (Sum.inl.inj (h1.symm.trans z))
        rw [dropK_neg e1, List.map_cons, h2, h1]
        simp [e]
theorem dK_not {kvs : List (Key × V)} : ∀ zs : List V, HO.dK kvs ≠ .tup zs ∧ ∀ f, HO.dK kvs ≠ .frz f (.tup zs) := fun zs => ⟨fun h => (by cases h), fun f h => (by cases h)⟩
theorem lst_not {ys : List V} : ∀ zs : List V, HO.lst ys ≠ .tup zs ∧ ∀ f, HO.lst ys ≠ .frz f (.tup zs) := fun zs => ⟨fun h => (by cases h), fun f h => (by cases h)⟩
theorem tup_upd {K : PySem.W.Frag} {H : Hp} {p a : Addr} {o u : HO} {xs : List V} (h : H p = some o) (hn : ∀ zs, o ≠ .tup zs ∧ ∀ f, o ≠ .frz f (.tup zs)) (s : SqT K H a xs) : SqT K (upd H p u) a xs := by
  rcases s with (s | ⟨f, s⟩) | s
  · refine .inl (.inl ?_)
    rw [upd_ne (ne_of s h fun e => (hn xs).1 e.symm)]
    exact s
  · refine .inl (.inr ⟨f, ?_⟩)
    rw [upd_ne (ne_of s h fun e => (hn xs).2 f e.symm)]
    exact s
  · exact .inr s
theorem nodup_le : ∀ {n : Nat} {ks : List Int}, ks.Nodup → (∀ k ∈ ks, 1 ≤ k ∧ k ≤ (n : Int)) → ks.length ≤ n
  | 0, ks, _, hm => by
    cases ks with
    | nil => exact Nat.le_refl _
    | cons k r =>
      have := hm k List.mem_cons_self
      omega
  | n + 1, ks, h, hm => by
    have h1 : (ks.erase ((n + 1 : Nat) : Int)).length ≤ n := nodup_le (h.erase _) fun k hk => by
      obtain ⟨a, b⟩ := (List.Nodup.mem_erase_iff h).mp hk
      have := hm k b
      omega
    have h2 := List.length_erase (a := ((n + 1 : Nat) : Int)) (l := ks)
    split at h2 <;> omega
section
variable {X : Cx} {st : List Stmt} {t : TS} {p : Prop}
theorem pss_guard (h : p → PSs X st t) : PSs X st (fun D σ H => p ∧ t D σ H) := ⟨fun pins s σ H D I hq => (h hq.1).run pins s σ H D I hq.2⟩
end
end Ea
set_option Elab.async false
set_option linter.all false
set_option maxRecDepth 100000
set_option maxHeartbeats 400000
/-! Dict comprehensions of literals; own errors' facts; data that stays. -/
namespace Ea
open PySem PySem.Spec PyProof.Rows L2

def DcR (g : TG) (tt : TT) (tk tv : TE) (vs : List Nat) (σ : L2.St) (Q : VK) (J : It) (H1 : Hp) : Prop :=
  ∀ D, H1 D = none → ∃ W : Nat → Nat → Hp → Prop, (∃ m, W 0 m (upd H1 D (.dK []))) ∧ ∀ i m H, W i m H →
    (J.stop i H ∧ Q (.ref D) H) ∨
    (J.go i H ∧ ∃ Nx : Hp → Prop, (∀ H', Nx H' → ∃ m', m' < m ∧ W (i + 1) m' H') ∧
      ∀ x H', J.yld i H x H' → g x (wipe σ vs) H' fun σ2 H2 => wipe σ2 vs = wipe σ vs ∧ tt σ2 H2 fun b H3 =>
        if b = true then tk σ2 H3 fun y H4 => tv σ2 H4 fun z H5 => ∃ kvs k, y = kV k ∧ H5 D = some (.dK kvs) ∧ kvs.length < sizeLine ∧ Nx (upd H5 D (.dK (putK kvs k z))) else Nx H3)
section
variable {K : PySem.W.Frag} {σ : L2.St} {H : Hp} {Q : VK} {g : TG} {tt : TT} {tk tv : TE} {vs : List Nat} {wi : TI} {j : Nat} {σx : V → L2.St} {a : Addr} {ws : List Int}
theorem rd_dc (h : wi σ H (DcR g tt tk tv vs σ Q)) : tDc wi g tt tk tv vs σ H Q := h
theorem dc_dicT (hx : SqT K H a (ws.map V.int)) (hz : ws.length ≤ 1000) (hσ : ∀ x, (wipe σ vs).set j (some x) = σx x) (hw : ∀ x, wipe (σx x) vs = wipe σ vs)
    (hk : ∀ (x : Int) (H' : Hp) (R : VK), R (.int (x.natAbs : Int)) H' → tk (σx (.int x)) H' R) (hv : ∀ (x : Int) (H' : Hp) (R : VK), R (.int x) H' → tv (σx (.int x)) H' R)
    (hd : ∀ D kvs H', Evl.Ex H H' → H D = none → H' D = some (.dK kvs) → Dic ws kvs → Q (.ref D) H') : DcR (gName j) tYes tk tv vs σ Q (Itt K a) H := fun D hn =>
  dc_tup (xs := ws.map V.int) (fun i H' => Evl.Ex H H' ∧ ∃ kvs, H' D = some (.dK kvs) ∧ Dic (ws.take i) kvs) ⟨Evl.Ex.new hn, [], upd_same, Dic.nil⟩ (fun i H' _ p => Evl.ex_t p.1 hx) (fun i x H' hi p => by
    rw [List.getElem?_map] at hi
    obtain ⟨y, hy, rfl⟩ := Option.map_eq_some_iff.mp hi
    rw [show gName j (.int y) (wipe σ vs) H' = fun N => N (σx (.int y)) H' from funext fun N => by rw [← hσ (.int y)] <;> rfl]
    refine ⟨hw _, rd_yes (rd_true (hk y H' _ (hv y H' _ ?_)))⟩
    obtain ⟨ex, kvs, e, dd⟩ := p
    have hl := dd.len
    rw [List.length_take] at hl
    refine ⟨kvs, lk y, rfl, e, by rw [sizeLine_eq]; omega, Evl.Ex.mut ex hn, _, upd_same, ?_⟩
    rw [List.take_add_one, hy]
    exact dd.put y) fun H' p => by
    obtain ⟨ex, kvs, e, dd⟩ := p
    rw [List.length_map, List.take_of_length_le (Nat.le_refl _)] at dd
    exact hd D kvs H' ex hn e dd
end
theorem rd_ddel {td ty : TE} {D : Ends} {σ : L2.St} {H : Hp} (h : td σ H fun x H1 => ty σ H1 fun y H2 => ∃ a kvs k, x = .ref a ∧ H2 a = some (.dK kvs) ∧ y = kV k ∧ (valV kvs k).isSome = true ∧ D.nx σ (upd H2 a (.dK (dropK kvs k)))) : sDDel td ty D σ H := h
theorem rd_kw {m : Nat} {sp : Sp} {gV : List V → List V} {E : L2.St → XK} {tk : TA} {σ : L2.St} {H : Hp} {Q : VK} (h : tk σ H fun zs H2 => zs.length = m ∧ sp (gV zs) H2 Q (E σ)) : tKw m sp gV E tk σ H Q := h
theorem rd_callS {sp : Sp} {E : L2.St → XK} {t : TA} {σ : L2.St} {H : Hp} {Q : VK} (h : t σ H fun vs H1 => sp vs H1 Q (E σ)) : tCallS sp E t σ H Q := h
theorem rd_ite2 {b : Bool} {te1 te2 : TE} {σ : L2.St} {H : Hp} {Q : VK} (P : V → Hp → Prop) (h1 : ∀ Q : VK, (∀ v H', P v H' → Q v H') → te1 σ H Q) (h2 : ∀ Q : VK, (∀ v H', P v H' → Q v H') → te2 σ H Q)
    (h : ∀ v H', P v H' → Q v H') : if b = true then te1 σ H Q else te2 σ H Q := by
  cases b with
  | true => exact h1 Q h
  | false => exact h2 Q h
theorem nice_row {n : Nat} {ns : List Int} (h : Row n ns) (hn : n ≤ 60) : Nice 60 1 (.tuple (dI ns)) :=
  (Nice.tup (NiceAll.ints fun x hx => by
    have := h.2 x hx
    have : (10 : Nat) ^ 12 = 1000000000000 := by decide
    omega)).mono (by have := h.length; omega) (Nat.le_refl _)
theorem rel_rev : ∀ {zs : List V} {ws : List Value}, Vals zs ws → Vals zs.reverse ws.reverse
  | _, _, .nil => .nil
  | _, _, .cons h t => by
    rw [List.reverse_cons, List.reverse_cons]
    exact (rel_rev t).append (.cons h .nil)
/-- what stands behind a body of the text -/
theorem passAt0 {X : Cx} {σ : L2.St} {E : XK} : PassesAt CX0 X σ E := fun _ _ _ _ _ _ h => h.elim
/-- what stands of an own error class behind the top -/
structure ExcF (K : PySem.W.Frag) (mg : Str → Option Value) (x : Str) (C : Addr) : Prop where
  g : mg x = some (.ref C)
  x : PySem.W.excIn K C [.type "ValueError", .type "Exception", .type "BaseException", .type "object"] "ValueError.__new__" = true
  k : PySem.W.keepIn K (.ref C) = true
  b : PySem.W.subIn K (.ref C) (.type "BaseException") = some true
  t : PySem.W.typeIn K (.ref C) = some (.type "type")
mutual
theorem dp_ex {K : PySem.W.Frag} {H H' : Hp} (e : Evl.Ex H H') : ∀ (d : PyData) (v : V), Dp K H v d → Dp K H' v d
  | .none, _, h => by cases h; exact .non
  | .bool b, _, h => by cases h; exact .bl b
  | .int i, _, h => by cases h; exact .int i
  | .str x, _, h => by cases h; exact .str x
  | .list ds, _, h => by
    cases h with
    | lst hs ha => exact .lst (Evl.ex_l e hs) (dpAll_ex e ds _ ha)
  | .tuple ds, _, h => by
    cases h with
    | tup hs ha => exact .tup (Evl.ex_t e hs) (dpAll_ex e ds _ ha)
  | .dict _, _, h => by cases h
theorem dpAll_ex {K : PySem.W.Frag} {H H' : Hp} (e : Evl.Ex H H') : ∀ (ds : List PyData) (vs : List V), DpAll K H vs ds → DpAll K H' vs ds
  | [], _, h => by cases h; exact .nil
  | d :: ds, _, h => by
    cases h with
    | cons h1 h2 => exact .cons (dp_ex e d _ h1) (dpAll_ex e ds _ h2)
end
end Ea
set_option Elab.async false
set_option linter.all false
set_option maxRecDepth 100000
set_option maxHeartbeats 400000
/-! sorted of a tuple of ints. -/
namespace Ea
open PySem PySem.Spec PyProof.Rows L2
def rSortedT (K : PySem.W.Frag) : List V → Hp → VK → Prop := fun xs H Q => ∃ (a : Addr) (ns : List Int), xs = [.ref a] ∧ SqT K H a (ns.map V.int) ∧ ns.length < 64 ∧
  ∀ (ys : List Int) (p : Addr), ys.Perm ns → ys.Pairwise (· ≤ ·) → H p = none → Q (.ref p) (upd H p (.lst (ys.map V.int)))
theorem cr_sortedT {X : Cx} {K : PySem.W.Frag} (hK : X.K = K) : CallR X (.builtin "sorted") (rSortedT K) := by
  subst hK
  intro pins s σ H xs us Q I r q
  obtain ⟨a, ns, ex, hd, h64, q⟩ := q
  subst ex
  obtain ⟨u, eu, rx⟩ := vals1 r
  subst eu
  cases rx
  obtain ⟨its, rv, ⟨o, ho, hc, n, hds⟩, hz⟩ := I.tuple hd
  have hal : its.length = ns.length := by rw [← rv.length, List.length_map]
  have hS : IntsAre its ns := rv.ints
  refine Calls.call_function_entry PyProof.Rows.kind_sorted PyProof.Rows.plain_sorted PyProof.Rows.entry_sorted (PyProof.Rows.args_sorted1 _) ?_
  unfold Builtin.«sorted»
  refine wpAny_bind (m := checkCount "sorted" 1 1 _) (wpAny_pure ?_)
  refine wpAny_bind (wpAny_collect_seq a (.inr rfl) ho hc hds (fun h' hk => ?_) (by rw [List.size_toArray, hal, sizeLine_eq]; omega))
  have I1 : Inv X pins σ H { s with heap := h' } := I.kept hk
  refine wpAny_bind (wpAny_newList ?_ (by rw [List.toList_toArray, hal, sizeLine_eq]; omega))
  have hoL : (h'.push (seqObj "list" its.toArray.toList.toArray 0)).get? h'.objs.size = some (seqObj "list" its.toArray.toList.toArray 0) := Heap.get?_push_size _ rfl
  show wpAny _ _ _ _ _ { s with heap := h'.push (seqObj "list" its.toArray.toList.toArray 0) }
  refine wpAny_bind (wpAny_holding (wpAny_call_entry PyProof.Rows.slot_list_sort ⟨_, hoL, rfl⟩ PyProof.Rows.entry_list_sort
    (PyProof.Rows.list_sort_tree (s := { s with heap := h'.push (seqObj "list" its.toArray.toList.toArray 0) }) hoL (by rw [List.toList_toArray]; exact hS) (by rw [List.toList_toArray, hal]; exact h64) fun out ys g1 g2 g3 => ⟨_, rfl, ?_⟩) (PyProof.Rows.args_list_sort _)))
  obtain ⟨e', he'⟩ := PyProof.Rows.sortedHeap_at (vs := its.toArray.toList) (out := out) hoL
  have hlen : (ys.map V.int).length ≤ sizeLine := by
    rw [List.length_map, g2.length_eq]
    exact Nat.le_trans (Nat.le_of_lt h64) (by decide)
  refine wpAny_pure ⟨_, rfl, .ref h'.objs.size, upd H h'.objs.size (.lst (ys.map V.int)), I1.laid (t' := s.toks) (fun b u e => ?_) (Nat.le_refl _)
    (show ObjOk X.prog X.w _ _ _ (.lst (ys.map V.int)) from ⟨hlen, out.toList, e', vals_of_ints g1, by rw [Array.toArray_toList]; exact he'⟩), rfl, q ys _ g2 g3 (I1.hok.fresh (Nat.le_refl _))⟩
  have hb : b < h'.objs.size := Heap.lt_size e
  rw [PyProof.Rows.sortedHeap_old (Nat.ne_of_lt hb) (by rw [size_push']; exact Nat.lt_succ_of_lt hb)]
  exact Heap.get?_push_of_some _ e
theorem rd_sortT {K : PySem.W.Frag} {H : Hp} {Q : VK} {a : Addr} {ns : List Int} (s : SqT K H a (ns.map V.int)) (hz : ns.length < 64)
    (h : ∀ (ms : List Int) (q : Addr), ms.Perm ns → ms.Pairwise (· ≤ ·) → H q = none → Q (.ref q) (upd H q (.lst (ms.map V.int)))) : rSortedT K [.ref a] H Q :=
  ⟨a, ns, rfl, s, hz, h⟩
/-- sorted of what ascends -/
theorem sorted_same {ms ns : List Int} (p : ms.Perm ns) (s : ms.Pairwise (· ≤ ·)) (h : ns.Pairwise (· < ·)) : ms = ns := by
  refine List.Perm.eq_of_pairwise (fun a b _ _ h1 h2 => by omega) s (h.imp fun {a b} q => by omega) p
theorem rd_ite2p {p : Prop} {_ : Decidable p} {te1 te2 : TE} {σ : L2.St} {H : Hp} {Q : VK} (P : V → Hp → Prop) (h1 : p → ∀ Q : VK, (∀ v H', P v H' → Q v H') → te1 σ H Q) (h2 : ¬ p → ∀ Q : VK, (∀ v H', P v H' → Q v H') → te2 σ H Q)
    (h : ∀ v H', P v H' → Q v H') : if decide p = true then te1 σ H Q else te2 σ H Q := by
  by_cases c : p
  · rw [if_pos (decide_eq_true c)]
    exact h1 c Q h
  · rw [if_neg (by rw [decide_eq_true_eq]; exact c)]
    exact h2 c Q h
theorem rd_mulL {H : Hp} {Q : VK} {l : Addr} {k : Int} {xs : List V} (h : H l = some (.lst xs)) (h1 : 0 ≤ k ∧ k < 2 ^ 63) (hz : xs.length * k.toNat ≤ sizeLine) (q : ∀ p, H p = none → Q (.ref p) (upd H p (.lst (List.replicate k.toNat xs).flatten))) : rRep (.ref l) (.int k) H Q :=
  ⟨l, k, xs, rfl, rfl, h, by omega, h1.2, hz, q⟩
theorem rd_andV {ta tb : TE} {σ : L2.St} {H : Hp} {Q : VK} (h : ta σ H fun x H1 => ∃ c, x = .bl c ∧ if c = true then tb σ H1 Q else Q (.bl false) H1) : tAndV ta tb σ H Q := h
theorem rd_orV {ta tb : TE} {σ : L2.St} {H : Hp} {Q : VK} (h : ta σ H fun x H1 => ∃ c, x = .bl c ∧ if c = true then Q (.bl true) H1 else tb σ H1 Q) : tOrV ta tb σ H Q := h
theorem rd_notV {ta : TE} {σ : L2.St} {H : Hp} {Q : VK} (h : ta σ H fun x H1 => ∃ c, x = .bl c ∧ Q (.bl (!c)) H1) : tNotV ta σ H Q := h
theorem rd_bc {b : Bool} {P : Bool → Prop} (h : P b) : ∃ c, V.bl b = V.bl c ∧ P c := ⟨b, rfl, h⟩
/-- if, its ends brought together -/
theorem rd_meet {p : Prop} {_ : Decidable p} {t1 t2 : TS} {D : Ends} {σ : L2.St} {H : Hp} (I : L2.St → Hp → Prop) (h1 : p → ∀ N : L2.St → Hp → Prop, (∀ σ' H', I σ' H' → N σ' H') → t1 { D with nx := N } σ H)
    (h2 : ¬ p → ∀ N : L2.St → Hp → Prop, (∀ σ' H', I σ' H' → N σ' H') → t2 { D with nx := N } σ H) (h : ∀ σ' H', I σ' H' → D.nx σ' H') : if decide p = true then t1 D σ H else t2 D σ H := by
  by_cases c : p
  · rw [if_pos (decide_eq_true c)]
    exact h1 c D.nx h
  · rw [if_neg (by rw [decide_eq_true_eq]; exact c)]
    exact h2 c D.nx h
end Ea
set_option Elab.async false
set_option linter.all false
set_option maxRecDepth 100000
set_option maxHeartbeats 400000
/-! A deck of draws that is a list: what draws leave as it was; comprehensions among them. -/
namespace Ea
open PySem PySem.Spec PyProof.Rows L2
/-- a deck: a list of what is left to be drawn, a number, how often it was drawn from that -/
def DeckL (d l : Addr) (H : Hp) : Prop := ∃ (ns : List Int) (m c : Int),
  H d = some (.lst [.ref l, .int m, .int c]) ∧ H l = some (.lst (ns.map V.int)) ∧ ns.length ≤ 63 ∧ (∀ n ∈ ns, 0 ≤ n) ∧ 0 ≤ m ∧ m < 4294967291
theorem deck_ne {l : Addr} {m c : Int} {ns : List Int} {d : Addr} {H : Hp} (e1 : H d = some (.lst [.ref l, .int m, .int c])) (e2 : H l = some (.lst (ns.map V.int))) : d ≠ l := by
  intro e
  rw [e, e2] at e1
  cases ns with
  | nil => cases e1
  | cons x r => cases e1
structure Gl (d l : Addr) (H H' : Hp) : Prop where
  dk : DeckL d l H'
  kp : ∀ a o, a ≠ d → a ≠ l → H a = some o → H' a = some o
section
variable {d l : Addr} {H H1 H2 : Hp}
theorem DeckL.ne (h : DeckL d l H) : d ≠ l := by
  obtain ⟨ns, m, c, e1, e2, _⟩ := h
  exact deck_ne e1 e2
theorem Gl.refl (h : DeckL d l H) : Gl d l H H := ⟨h, fun _ _ _ _ e => e⟩
theorem Gl.trans (a : Gl d l H H1) (b : Gl d l H1 H2) : Gl d l H H2 := ⟨b.dk, fun p o n1 n2 e => b.kp p o n1 n2 (a.kp p o n1 n2 e)⟩
theorem DeckL.off (h : DeckL d l H) {p : Addr} (e : H p = none) : p ≠ d ∧ p ≠ l := by
  obtain ⟨ns, m, c, e1, e2, _⟩ := h
  exact ⟨fun z => (by rw [z, e1] at e; cases e), fun z => (by rw [z, e2] at e; cases e)⟩
theorem DeckL.upd (h : DeckL d l H) {p : Addr} {o : HO} (n1 : p ≠ d) (n2 : p ≠ l) : DeckL d l (upd H p o) := by
  obtain ⟨ns, m, c, e1, e2, r⟩ := h
  exact ⟨ns, m, c, by rw [upd_ne n1.symm]; exact e1, by rw [upd_ne n2.symm]; exact e2, r⟩
theorem Gl.new (h : DeckL d l H) {p : Addr} {o : HO} (e : H p = none) : Gl d l H (upd H p o) := by
  obtain ⟨n1, n2⟩ := h.off e
  exact ⟨h.upd n1 n2, fun q u _ _ eq => by rw [upd_ne (ne_of_none eq e)]; exact eq⟩
/-- an object that H does not know may change -/
theorem Gl.mut (g : Gl d l H H1) (h : DeckL d l H) {p : Addr} {o : HO} (e : H p = none) : Gl d l H (upd H1 p o) := by
  obtain ⟨n1, n2⟩ := h.off e
  exact ⟨g.dk.upd n1 n2, fun q u m1 m2 eq => by rw [upd_ne (ne_of_none eq e)]; exact g.kp q u m1 m2 eq⟩
theorem Gl.back (g : Gl d l H H1) (h : DeckL d l H) {p : Addr} (e : H1 p = none) : H p = none := by
  obtain ⟨n1, n2⟩ := g.dk.off e
  cases q : H p with
  | none => rfl
  | some o =>
    rw [g.kp p o n1 n2 q] at e
    cases e
/-- a tuple stays -/
theorem Gl.tup {K : PySem.W.Frag} (g : Gl d l H H1) (h : DeckL d l H) {a : Addr} {xs : List V} (t : SqT K H a xs) : SqT K H1 a xs := by
  obtain ⟨ns, m, c, e1, e2, _⟩ := h
  have hn : ∀ {o : HO}, H a = some o → (∀ kv, o ≠ .dK kv) → (∀ ys, o ≠ .lst ys) → H1 a = some o := fun e c1 c2 =>
    g.kp a _ (fun z => (by rw [z, e1] at e; cases e; exact c2 _ rfl)) (fun z => (by rw [z, e2] at e; cases e; exact c2 _ rfl)) e
  rcases t with (t | ⟨o, t⟩) | t
  · exact .inl (.inl (hn t nofun nofun))
  · exact .inl (.inr ⟨o, hn t nofun nofun⟩)
  · exact .inr t
end
section
variable {d l : Addr} {K : PySem.W.Frag} {σ : L2.St} {H : Hp} {Q : VK} {tt : TT} {te : TE} {vs : List Nat} {j : Nat} {σx : V → L2.St} {a : Addr} {xs : List V}
/-- a turn of a comprehension among draws -/
abbrev TurnL (d l : Addr) (H : Hp) (tt : TT) (te : TE) (σx : V → L2.St) (Pv : Nat → List V → Prop) (i : Nat) (x : V) : Prop :=
  ∀ (acc : List V) (H' : Hp) (N : VK) (S : Hp → Prop), Gl d l H H' → Pv i acc →
    (∀ y H3, Gl d l H' H3 → Pv (i + 1) (acc ++ [y]) → N y H3) → (∀ H3, Gl d l H' H3 → Pv (i + 1) acc → S H3) →
    tt (σx x) H' fun b H2 => if b = true then te (σx x) H2 N else S H2
def Cl (d l : Addr) (H : Hp) (Pv : Nat → List V → Prop) (D : Addr) (i : Nat) (H' : Hp) : Prop :=
  ∃ acc, H D = none ∧ Gl d l H H' ∧ H' D = some (.lst acc) ∧ acc.length ≤ i ∧ Pv i acc
theorem cl_start {Pv : Nat → List V → Prop} (hD : DeckL d l H) (h0 : Pv 0 []) {D : Addr} (e : H D = none) : Cl d l H Pv D 0 (upd H D (.lst [])) :=
  ⟨[], e, Gl.new hD e, upd_same, Nat.le_refl _, h0⟩
theorem cl_turn {Pv : Nat → List V → Prop} {D : Addr} {i : Nat} {x : V} {H' : Hp} (hD : DeckL d l H) (hi : i < 100000) (ht : TurnL d l H tt te σx Pv i x) (p : Cl d l H Pv D i H') :
    tt (σx x) H' fun b H3 => if b = true then te (σx x) H3 fun y H4 => ∃ acc, H4 D = some (.lst acc) ∧ acc.length < sizeLine ∧ Cl d l H Pv D (i + 1) (upd H4 D (.lst (acc ++ [y]))) else Cl d l H Pv D (i + 1) H3 := by
  obtain ⟨acc, e, g, ea, hl, hp⟩ := p
  obtain ⟨n1, n2⟩ := hD.off e
  refine ht acc H' _ _ g hp (fun y H3 g3 hp3 => ?_) fun H3 g3 hp3 => ?_
  · refine ⟨acc, g3.kp D _ n1 n2 ea, Evl.sz_lt (by omega), acc ++ [y], e, Gl.mut (g.trans g3) hD e, upd_same, ?_, hp3⟩
    rw [List.length_append, List.length_singleton]
    omega
  · exact ⟨acc, e, g.trans g3, g3.kp D _ n1 n2 ea, by omega, hp3⟩
theorem lc_glT (Pv : Nat → List V → Prop) (hD : DeckL d l H) (hx : SqT K H a xs) (hz : xs.length ≤ 40000) (hσ : ∀ x, (wipe σ vs).set j (some x) = σx x) (hw : ∀ x, wipe (σx x) vs = wipe σ vs)
    (h0 : Pv 0 []) (hs : ∀ i x, xs[i]? = some x → TurnL d l H tt te σx Pv i x)
    (hd : ∀ D acc H', Gl d l H H' → H D = none → H' D = some (.lst acc) → Pv xs.length acc → Q (.ref D) H') : LcR (gName j) tt te vs σ Q (Itt K a) H := fun D hn =>
  lc_tup (xs := xs) (Cl d l H Pv D) (cl_start hD h0 hn) (fun i H' _ ⟨_, _, g, _⟩ => g.tup hD hx) (fun i x H' hi p => by
    rw [show gName j x (wipe σ vs) H' = fun N => N (σx x) H' from funext fun N => by rw [← hσ x] <;> rfl]
    refine ⟨hw x, ?_⟩
    have := (List.getElem?_eq_some_iff.mp hi).1
    exact cl_turn hD (by omega) (hs i x hi) p) fun H' p => by
    obtain ⟨acc, e, g, ea, _, hp⟩ := p
    exact hd D acc H' g e ea hp
theorem lc_glL (Pv : Nat → List V → Prop) (hD : DeckL d l H) (hx : ∀ H', Gl d l H H' → SqL K H' a xs) (hz : xs.length ≤ 40000) (hσ : ∀ x, (wipe σ vs).set j (some x) = σx x) (hw : ∀ x, wipe (σx x) vs = wipe σ vs)
    (h0 : Pv 0 []) (hs : ∀ i x, xs[i]? = some x → TurnL d l H tt te σx Pv i x)
    (hd : ∀ D acc H', Gl d l H H' → H D = none → H' D = some (.lst acc) → Pv xs.length acc → Q (.ref D) H') : LcR (gName j) tt te vs σ Q (Itl K a) H := fun D hn =>
  lc_list (xs := xs) (Cl d l H Pv D) (cl_start hD h0 hn) (fun i H' _ ⟨_, _, g, _⟩ => hx H' g) (fun i x H' hi p => by
    rw [show gName j x (wipe σ vs) H' = fun N => N (σx x) H' from funext fun N => by rw [← hσ x] <;> rfl]
    refine ⟨hw x, ?_⟩
    have := (List.getElem?_eq_some_iff.mp hi).1
    exact cl_turn hD (by omega) (hs i x hi) p) fun H' p => by
    obtain ⟨acc, e, g, ea, _, hp⟩ := p
    exact hd D acc H' g e ea hp
theorem lc_glR {lo : Int} {n : Nat} (Pv : Nat → List V → Prop) (hD : DeckL d l H) (hz : n ≤ 40000) (hσ : ∀ x, (wipe σ vs).set j (some x) = σx x) (hw : ∀ x, wipe (σx x) vs = wipe σ vs)
    (h0 : Pv 0 []) (hs : ∀ i, i < n → TurnL d l H tt te σx Pv i (.int (lo + i)))
    (hd : ∀ D acc H', Gl d l H H' → H D = none → H' D = some (.lst acc) → Pv n acc → Q (.ref D) H') : LcR (gName j) tt te vs σ Q (Itr lo n) H := fun D hn =>
  lc_range (Cl d l H Pv D) (cl_start hD h0 hn) (fun i H' hi p => by
    rw [show gName j (.int (lo + i)) (wipe σ vs) H' = fun N => N (σx (.int (lo + i))) H' from funext fun N => by rw [← hσ (.int (lo + i))] <;> rfl]
    exact ⟨hw _, cl_turn hD (by omega) (hs i hi) p⟩) fun H' p => by
    obtain ⟨acc, e, g, ea, _, hp⟩ := p
    exact hd D acc H' g e ea hp
end

section
variable {d l : Addr} {H H' : Hp}
theorem Gl.ex (e : Evl.Ex H H') (h : DeckL d l H) : Gl d l H H' := by
  obtain ⟨ns, m, c, e1, e2, r⟩ := h
  exact ⟨⟨ns, m, c, e _ _ e1, e _ _ e2, r⟩, fun a o _ _ q => e a o q⟩
end
theorem rd_gsub {to ti : TE} {t : TSet} {v : V} {σ : L2.St} {H : Hp} {N : L2.St → Hp → Prop} (h : to σ H fun o H1 => ti σ H1 fun i H2 => t o i v H2 fun H3 => N σ H3) : gSub to ti t v σ H N := h
end Ea
set_option Elab.async false
set_option linter.all false
set_option maxRecDepth 100000
set_option maxHeartbeats 400000
namespace KA
open PySem PySem.Spec PyProof.Rows L2 Ea
def topS (i : Nat) : Stmt := PySem.Challenge.pw_eachsome_k62_whole_first_worlds_that_par.main.body.getD i (.Pass ⟨0, 0, 0, 0⟩)
/-- the names of the built-ins that the text does not bind -/
structure Bl (mg : Str → Option Value) : Prop where
  len : mg "len" = none
  abs : mg "abs" = none
  min : mg "min" = none
  max : mg "max" = none
  sorted : mg "sorted" = none
  tuple : mg "tuple" = none
  list : mg "list" = none
  set : mg "set" = none
  int : mg "int" = none
  range : mg "range" = none
  repr : mg "repr" = none
  isinstance : mg "isinstance" = none
  enumerate : mg "enumerate" = none
  zip : mg "zip" = none
  sum : mg "sum" = none
  all : mg "all" = none
  any : mg "any" = none
  str : mg "str" = none
  bool : mg "bool" = none
  dict : mg "dict" = none
  reversed : mg "reversed" = none
/-- how a def stands among the module's names -/
structure Callee (K : PySem.W.Frag) (mg : Str → Option Value) (x : Str) (f : Addr) (fd : FuncData) (ps : List Str) : Prop where
  m : mg x = some (.ref f)
  k : PySem.W.keepIn K (.ref f) = true
  b : Binds K fd ps []
/-! ### a deck that is a dict of three: what is left, a number, how often it was drawn from -/
abbrev dk3 (l : Addr) (s c : Int) : HO := .dK [(.inr "great", .ref l), (.inr "seed", .int s), (.inr "turn", .int c)]
def DeckT (d l : Addr) (H : Hp) : Prop := ∃ (ns : List Int) (s c : Int), H d = some (dk3 l s c) ∧ H l = some (.lst (ns.map V.int)) ∧ ns.length ≤ 63 ∧ (∀ n ∈ ns, 0 ≤ n)
structure Gt (d l : Addr) (H H' : Hp) : Prop where
  dk : DeckT d l H'
  kp : ∀ a o, a ≠ d → a ≠ l → H a = some o → H' a = some o
section
variable {d l : Addr} {H H1 H2 : Hp}
theorem DeckT.ne (h : DeckT d l H) : d ≠ l := by
  obtain ⟨ns, s, c, e1, e2, _⟩ := h
  intro e
  rw [e, e2] at e1
  cases e1
theorem Gt.refl (h : DeckT d l H) : Gt d l H H := ⟨h, fun _ _ _ _ e => e⟩
theorem Gt.trans (a : Gt d l H H1) (b : Gt d l H1 H2) : Gt d l H H2 := ⟨b.dk, fun p o n1 n2 e => b.kp p o n1 n2 (a.kp p o n1 n2 e)⟩
theorem DeckT.off (h : DeckT d l H) {p : Addr} (e : H p = none) : p ≠ d ∧ p ≠ l := by
  obtain ⟨ns, m, c, e1, e2, _⟩ := h
  exact ⟨fun z => (by rw [z, e1] at e; cases e), fun z => (by rw [z, e2] at e; cases e)⟩
theorem DeckT.upd (h : DeckT d l H) {p : Addr} {o : HO} (n1 : p ≠ d) (n2 : p ≠ l) : DeckT d l (upd H p o) := by
  obtain ⟨ns, m, c, e1, e2, r⟩ := h
  exact ⟨ns, m, c, by rw [upd_ne n1.symm]; exact e1, by rw [upd_ne n2.symm]; exact e2, r⟩
theorem Gt.new (h : DeckT d l H) {p : Addr} {o : HO} (e : H p = none) : Gt d l H (upd H p o) := by
  obtain ⟨n1, n2⟩ := h.off e
  exact ⟨h.upd n1 n2, fun q u _ _ eq => by rw [upd_ne (ne_of_none eq e)]; exact eq⟩
theorem Gt.mut (g : Gt d l H H1) (h : DeckT d l H) {p : Addr} {o : HO} (e : H p = none) : Gt d l H (upd H1 p o) := by
  obtain ⟨n1, n2⟩ := h.off e
  exact ⟨g.dk.upd n1 n2, fun q u m1 m2 eq => by rw [upd_ne (ne_of_none eq e)]; exact g.kp q u m1 m2 eq⟩
theorem Gt.tup {K : PySem.W.Frag} (g : Gt d l H H1) (h : DeckT d l H) {a : Addr} {xs : List V} (t : SqT K H a xs) : SqT K H1 a xs := by
  obtain ⟨ns, m, c, e1, e2, _⟩ := h
  have hn : ∀ {o : HO}, H a = some o → (∀ kv, o ≠ .dK kv) → (∀ ys, o ≠ .lst ys) → H1 a = some o := fun e c1 c2 =>
    g.kp a _ (fun z => (by rw [z, e1] at e; cases e; exact c1 _ rfl)) (fun z => (by rw [z, e2] at e; cases e; exact c2 _ rfl)) e
  rcases t with (t | ⟨o, t⟩) | t
  · exact .inl (.inl (hn t nofun nofun))
  · exact .inl (.inr ⟨o, hn t nofun nofun⟩)
  · exact .inr t
theorem Gt.ex (e : Evl.Ex H H1) (h : DeckT d l H) : Gt d l H H1 := by
  obtain ⟨ns, m, c, e1, e2, r⟩ := h
  exact ⟨⟨ns, m, c, e _ _ e1, e _ _ e2, r⟩, fun a o _ _ q => e a o q⟩
theorem dk3_great {l : Addr} {s c : Int} (h : H d = some (dk3 l s c)) : DGet H d (.str "great") (some (.ref l)) := DGet.k (k := Sum.inr "great") h
theorem dk3_seed {l : Addr} {s c : Int} (h : H d = some (dk3 l s c)) : DGet H d (.str "seed") (some (.int s)) := DGet.k (k := Sum.inr "seed") h
theorem dk3_turn {l : Addr} {s c : Int} (h : H d = some (dk3 l s c)) : DGet H d (.str "turn") (some (.int c)) := DGet.k (k := Sum.inr "turn") h
theorem dk3_putG {l m : Addr} {s c : Int} (h : H d = some (dk3 l s c)) : DPut H d (.str "great") (.ref m) (upd H d (dk3 m s c)) := DPut.k (k := Sum.inr "great") (v := .ref m) h (by show 3 < sizeLine; rw [sizeLine_eq]; omega)
theorem dk3_putS {l : Addr} {s c t : Int} (h : H d = some (dk3 l s c)) : DPut H d (.str "seed") (.int t) (upd H d (dk3 l t c)) := DPut.k (k := Sum.inr "seed") (v := .int t) h (by show 3 < sizeLine; rw [sizeLine_eq]; omega)
theorem dk3_putT {l : Addr} {s c t : Int} (h : H d = some (dk3 l s c)) : DPut H d (.str "turn") (.int t) (upd H d (dk3 l s t)) := DPut.k (k := Sum.inr "turn") (v := .int t) h (by show 3 < sizeLine; rw [sizeLine_eq]; omega)
end
end KA
set_option Elab.async false
set_option linter.all false
set_option maxRecDepth 100000
set_option maxHeartbeats 1000000
/-! enumerate of a tuple; zip of a tuple and a list. -/
namespace Ea
open PySem PySem.Spec PyProof.Rows L2
/-- enumerate(v), v told by how its iterator begins -/
theorem meets_enum1 {v : Value} {o : Obj} {Hh : Heap → Prop} (B : Begins v o Hh) :
    Meets (Builtin.«enumerate.__new__» ⟨[.type "enumerate", v], []⟩) (fun _ R s => Hh s.heap ∧
      R (.ok (.ret (.ref (s.heap.push o).objs.size))) { s with heap := (s.heap.push o).push { cls := .type "enumerate", data := .fields #[.none, .bool false, .ref s.heap.objs.size, rawInt 0, .none, .none] } }) :=
  .of_wp fun prog w A R s h => by
    obtain ⟨hp, g, d, tk, os⟩ := s
    obtain ⟨h1, h⟩ := h
    have hsub := sub_enumerate
    have q1 : ∀ {A' : Around} {E : Value → Shared → Prop} {Q : Value → Shared → Prop}, Q (.ref hp.objs.size) ⟨hp.push o, g, d, tk, os⟩ → wpAny (model prog w) A' (pyIter v) Q E ⟨hp, g, d, tk, os⟩ :=
      fun q => B.iter prog w _ _ ⟨hp, g, d, tk, os⟩ _ h1 q
    wp_walk using q1
    refine wpAny_stack_any fun st => wpAny_pure ?_
    split
    · rename_i c _ _ _ _ _
      cases (c == Value.type "enumerate") <;> (wp_walk using q1; exact ⟨_, rfl, h⟩)
    · wp_walk using q1
      exact ⟨_, rfl, h⟩
theorem call_enum1 {prog : Program} {w : World} {A : Around} {E : Value → Shared → Prop} {s : Shared} {v : Value} {o : Obj} {Hh : Heap → Prop} {Q : Value → Shared → Prop} (B : Begins v o Hh) (h1 : Hh s.heap)
    (h : ∀ h', IsEnum h' (s.heap.objs.size + 1) s.heap.objs.size 0 .none → h'.get? s.heap.objs.size = some o → (∀ b o, s.heap.get? b = some o → h'.get? b = some o) → Q (.ref (s.heap.objs.size + 1)) { s with heap := h' }) :
    wpAny (model prog w) A (call (.type "enumerate") [v]) Q E s := by
  refine callType_new F.called_enumerate (by decide) (F.typeCall_enumerate_1 _) (F.newCall_enumerate_1 _) (fun obj => F.args_object_init_2 obj _) F.entry_enumerate_new (meets_enum1 B) ⟨h1, ?_⟩
  have hz : (s.heap.push o).objs.size = s.heap.objs.size + 1 := Heap.size_push ..
  show _ ∧ _
  rw [hz]
  have he : IsEnum ((s.heap.push o).push { cls := .type "enumerate", data := .fields #[.none, .bool false, .ref s.heap.objs.size, rawInt 0, .none, .none] }) (s.heap.objs.size + 1) s.heap.objs.size 0 .none := by
    have z := Heap.get?_push_size (s.heap.push o) (o := { cls := .type "enumerate", data := .fields #[.none, .bool false, .ref s.heap.objs.size, rawInt 0, .none, .none] }) rfl
    rw [hz] at z
    exact z
  exact ⟨⟨_, he, rfl⟩, h _ he (Heap.get?_push_of_some _ (Heap.get?_push_size _ B.free)) fun b o x => Heap.get?_push_of_some _ (Heap.get?_push_of_some _ x)⟩
/-- the tuple at a, each item in a new pair -/
def IteT (K : PySem.W.Frag) (a : Addr) : It :=
  ⟨fun i H => ∃ (xs : List V) (x : V), SqT K H a xs ∧ xs[i]? = some x, fun i H v H' => ∃ T x, v = .ref T ∧ H T = none ∧ H' = upd H T (.tup [.int (i : Nat), x]) ∧ ∀ xs, SqT K H a xs → xs[i]? = some x, fun i H => ∃ xs : List V, SqT K H a xs ∧ xs.length = i⟩
theorem apart {h : Heap} {a b : Addr} {o u : Obj} (e1 : h.get? a = some o) (e2 : h.get? b = some u) (hc : o.cls ≠ u.cls) : a ≠ b := fun e => by
  rw [e, e2] at e1
  cases e1
  exact hc rfl
theorem turn_enumT {P : Program} {w : World} {K : PySem.W.Frag} {elts : List Expr} {kk : Nat} {tpos : Pos} (a e it : Addr) :
    L2.Turn P w K (.Tuple elts kk tpos) (IteT K a) [e, it] e (fun i h => (∃ old, IsEnum h e it ((i : Nat) : Int) old) ∧ h.IsTupleIter it a i ∧ e ≠ it) where
  mem := by simp
  obj := fun i h st b hb => by
    obtain ⟨⟨old, he⟩, ⟨o, ho, hc, hd⟩, _⟩ := st
    have e' : b = e ∨ b = it := by simpa using hb
    rcases e' with rfl | rfl
    · exact ⟨_, he, fun v q => nomatch q⟩
    · exact ⟨o, ho, fun v q => by rw [hd] at q; cases q⟩
  keep := fun i h h' st k => let ⟨⟨old, he⟩, hi, hne⟩ := st; ⟨⟨old, k e (by simp) _ he⟩, hi.at fun o q => k it (by simp) o q, hne⟩
  item := by
    intro X hP hw hK hc i pins s σ H E I hf st hg
    subst hP hw hK
    obtain ⟨⟨old, he⟩, hit, hne⟩ := st
    obtain ⟨xs, x, hq, hx⟩ := hg
    obtain ⟨its, rv, p, hz⟩ := I.tuple hq
    obtain ⟨u, hu, ru⟩ := rv.get hx
    obtain ⟨oi, hoi, hci, _⟩ := id hit
    obtain ⟨ot, hot, hct, _⟩ := id p
    have hai : a ≠ it := apart hot hoi (by rw [hct, hci]; decide)
    have hea : e ≠ a := apart he hot (by rw [hct]; show Value.type "enumerate" ≠ Value.type "tuple"; decide)
    have hel : e < s.heap.objs.size := Heap.lt_size he
    have hil : it < s.heap.objs.size := Heap.lt_size hoi
    have hlt : i < its.toArray.size := by
      have := (List.getElem?_eq_some_iff.mp hu).1
      simpa using this
    refine wpAny_pyNext_enum_itemD (Draws.tuple (prog := X.prog) (w := X.w) (A := X.A.in1) (I.ok.hd hc) it a hai its.toArray) he ⟨hit, p⟩ hlt hne (by simp [hne, hea]) fun x' h' tk hP ho st' hT hsz hk => ?_
    obtain rfl : u = x' := by
      have z : its[i]? = some x' := by simpa using hP
      rw [hu] at z
      exact Option.some.inj z
    refine ⟨_, rfl, wpAny_letOwnedTupleGo_enum (s := { s with heap := h', toks := tk + 1 }) ho fun h'' he' sb => ?_⟩
    have hT2 : h''.get? s.heap.objs.size = some { cls := .type "tuple", data := .seq #[.int i tk, u] } := (sb.2 _ (Nat.ne_of_gt hel)).trans hT
    have new : ObjOk X.prog X.w (upd H s.heap.objs.size (.tup [.int (i : Nat), x])) h'' s.heap.objs.size (.tup [.int (i : Nat), x]) :=
      ⟨by show 2 ≤ sizeLine; decide, [.int i tk, u], .cons ⟨_, rfl⟩ (.cons ru .nil), ⟨_, hT2, rfl, _, rfl⟩⟩
    have I1 : Inv X pins σ (upd H s.heap.objs.size (.tup [.int (i : Nat), x])) { s with heap := h'', toks := tk + 1 } :=
      I.turnedNew (ch := [e, it]) (fun b ob hb q => (sb.2 b (fun z => hb (by simp [z]))).trans (hk b ob (fun z => hb (by simp [z])) (fun z => hb (by simp [z])) q)) hf (Nat.le_refl _) new
    refine ⟨.ref s.heap.objs.size, _, I1, rfl, ⟨_, x, rfl, I.hok.fresh (Nat.le_refl _), rfl, fun ys hy => by rw [I.tuple_inj hy hq]; exact hx⟩, ⟨⟨u, ?_⟩, st'.1.at fun o q => (sb.2 it (Ne.symm hne)).trans q, hne⟩, fun b hb => ?_⟩
    · have e1 : ((i + 1 : Nat) : Int) = (i : Int) + 1 := by omega
      rw [e1]
      exact he'
    · have hb' : b < s.heap.objs.size := by
        have e' : b = e ∨ b = it := by simpa using hb
        rcases e' with rfl | rfl
        · exact hel
        · exact hil
      rw [upd_ne (Nat.ne_of_lt hb')]
      exact (hf b hb).1
  done := by
    intro X hP hw hK hc i pins s σ H E I hf st hg
    subst hP hw hK
    obtain ⟨⟨old, he⟩, hit, hne⟩ := st
    obtain ⟨xs, hq, hx⟩ := hg
    obtain ⟨its, rv, p, hz⟩ := I.tuple hq
    obtain ⟨oi, hoi, hci, _⟩ := id hit
    obtain ⟨ot, hot, hct, _⟩ := id p
    have hai : a ≠ it := apart hot hoi (by rw [hct, hci]; decide)
    obtain ⟨f0, f1, f2, f3, f4, f5⟩ := hf it (by simp)
    have hl : i = its.toArray.size := by
      have := rv.length
      rw [List.size_toArray]
      omega
    exact wpAny_pyNext_enum_endD (Draws.tuple (prog := X.prog) (w := X.w) (A := X.A.in1) (I.ok.hd hc) it a hai its.toArray) he ⟨hl ▸ hit, p⟩ fun h' eb => ⟨rfl, I.turned (t' := s.toks) (fun b o hb q => eb b o hb q) f0 f1 f3 f4 f5⟩
  self := fun A i s Q E st h => let ⟨⟨_, he⟩, _⟩ := st; wpAny_pyIter_enum he h
def iEnumT (K : PySem.W.Frag) (ta : TA) : TI := fun σ H R => ta σ H fun vs H1 => ∃ a xs, vs = [.ref a] ∧ SqT K H1 a xs ∧ R (IteT K a) H1
theorem pi_enumT {X : Cx} {K : PySem.W.Frag} (hKK : X.K = K) {e : Expr} {ta : TA} {p pos tpos : Pos} {elts : List Expr} {kk : Nat} (hg : L2.Gl X "enumerate") (hm : X.mg "enumerate" = none) (ha : PA X [e] ta) (hs : starEach [e] X.env = [(false, eval e X.env)] := by rfl) :
    PI X (.Tuple elts kk tpos) (.Call (.Name "enumerate" p) [e] [] pos) (iEnumT K ta) := by
  subst hKK
  refine ⟨fun pins s σ H R I h => ?_⟩
  refine Call_ (ld_blt I hg hm boot_enumerate (PyProof.Rows.callWith_type1 (thn (ha.run pos pins s σ H _ I h) fun us s1 ⟨vs, H1, I1, r1, q1⟩ => ?_) hs rfl))
  obtain ⟨a, xs, ex, hq, q⟩ := q1
  subst ex
  cases r1 with
  | cons r rr =>
    cases rr
    cases r
    obtain ⟨its, rv, p', hz⟩ := I1.tuple hq
    refine call_enum1 (begins_tuple a its.toArray) (show s1.heap.IsTuple a its.toArray from p') fun h' he hit hk => wpAny_pyIter_enum he ?_
    have I2 : Inv X pins σ H1 { s1 with heap := h' } := I1.kept (t' := s1.toks) hk
    refine ⟨s1.heap.objs.size + 1, [s1.heap.objs.size + 1, s1.heap.objs.size], _, _, H1, rfl, I2, turn_enumT a (s1.heap.objs.size + 1) s1.heap.objs.size, ⟨⟨.none, he⟩, ⟨_, hit, rfl, rfl⟩, Nat.succ_ne_self _⟩, fun b hb => ?_, q⟩
    have e' : b = s1.heap.objs.size + 1 ∨ b = s1.heap.objs.size := by simpa using hb
    have hle : s1.heap.objs.size ≤ b := by
      rcases e' with rfl | rfl
      · exact Nat.le_add_right _ _
      · exact Nat.le_refl _
    exact I1.fpOk hle (I1.hok.fresh hle)
end Ea
set_option Elab.async false
set_option linter.all false
set_option maxRecDepth 100000
set_option maxHeartbeats 1000000
/-! zip of a tuple and a list. -/
namespace Ea
open PySem PySem.Spec PyProof.Rows L2
/-- the tuple at a and the list at b, the items in new pairs -/
def ItzM (K : PySem.W.Frag) (a b : Addr) : It :=
  ⟨fun i H => ∃ (xs ys : List V) (x y : V), SqT K H a xs ∧ SqL K H b ys ∧ xs[i]? = some x ∧ ys[i]? = some y,
    fun i H v H' => ∃ T x y, v = .ref T ∧ H T = none ∧ H' = upd H T (.tup [x, y]) ∧ (∀ xs, SqT K H a xs → xs[i]? = some x) ∧ ∀ ys, SqL K H b ys → ys[i]? = some y,
    fun i H => ∃ xs ys : List V, SqT K H a xs ∧ SqL K H b ys ∧ i ≤ xs.length ∧ i ≤ ys.length ∧ (i = xs.length ∨ i = ys.length)⟩
structure Cells (z TI TO i1 i2 : Addr) : Prop where
  TIz : TI ≠ z
  TOz : TO ≠ z
  TITO : TI ≠ TO
  TIi1 : TI ≠ i1
  TIi2 : TI ≠ i2
  TOi1 : TO ≠ i1
  TOi2 : TO ≠ i2
  zi1 : z ≠ i1
  zi2 : z ≠ i2
  i12 : i1 ≠ i2
theorem cells_sep {h : Heap} {z TI TO i1 i2 a b : Addr} {k1 k2 : Nat} {xs ys : Array Value} {x y : Value} (C : Cells z TI TO i1 i2) (hz : IsZip h z TI TO .none) (hTO : IsTupOf2 h TO x y)
    (h1 : h.IsTupleIter i1 a k1) (h2 : h.IsListIter i2 b k2) (ha : h.IsTuple a xs) (hb : h.IsList b ys) (hTa : TO ≠ a) : ZipSep2 z TI TO i1 i2 [i1, a] [i2, b] ∧ a ≠ i1 ∧ b ≠ i2 := by
  obtain ⟨o1, e1, c1, _⟩ := h1
  obtain ⟨o2, e2, c2, _⟩ := h2
  obtain ⟨oa, ea, ca, _⟩ := ha
  obtain ⟨ob, eb, cb, _⟩ := hb
  have nza : z ≠ a := apart hz ea (by rw [ca]; show Value.type "zip" ≠ Value.type "tuple"; decide)
  have nzb : z ≠ b := apart hz eb (by rw [cb]; show Value.type "zip" ≠ Value.type "list"; decide)
  have nTb : TO ≠ b := apart hTO eb (by rw [cb]; show Value.type "tuple" ≠ Value.type "list"; decide)
  have n1b : i1 ≠ b := apart e1 eb (by rw [c1, cb]; decide)
  have n2a : i2 ≠ a := apart e2 ea (by rw [c2, ca]; decide)
  have na1 : a ≠ i1 := apart ea e1 (by rw [ca, c1]; decide)
  have nb2 : b ≠ i2 := apart eb e2 (by rw [cb, c2]; decide)
  refine ⟨{ TIz := C.TIz, TOz := C.TOz, TITO := C.TITO, TIi1 := C.TIi1, mem1 := by simp, zf1 := ?_, Tf1 := ?_, TIi2 := C.TIi2, mem2 := by simp, zf2 := ?_, Tf2 := ?_, sep1_2 := ?_, sep2_1 := ?_ }, na1, nb2⟩
  · simp [C.zi1, nza]
  · simp [C.TOi1, hTa]
  · simp [C.zi2, nzb]
  · simp [C.TOi2, nTb]
  · simp [C.i12, n1b]
  · simp [C.i12.symm, n2a]
theorem turn_zipM {P : Program} {w : World} {K : PySem.W.Frag} {elts : List Expr} {kk : Nat} {tpos : Pos} {a b z TI TO i1 i2 : Addr} (C : Cells z TI TO i1 i2) (hTa : TO ≠ a) :
    L2.Turn P w K (.Tuple elts kk tpos) (ItzM K a b) [z, TI, TO, i1, i2] z (fun i h => IsZip h z TI TO .none ∧ IsTupOf2 h TI (.ref i1) (.ref i2) ∧ (∃ x y, IsTupOf2 h TO x y) ∧ h.IsTupleIter i1 a i ∧ h.IsListIter i2 b i) where
  mem := by simp
  obj := fun i h st c hc => by
    obtain ⟨hz, hTI, ⟨x, y, hTO⟩, ⟨o1, e1, _, d1⟩, ⟨o2, e2, _, d2⟩⟩ := st
    have e' : c = z ∨ c = TI ∨ c = TO ∨ c = i1 ∨ c = i2 := by simpa using hc
    rcases e' with rfl | rfl | rfl | rfl | rfl
    · exact ⟨_, hz, fun v q => nomatch q⟩
    · exact ⟨_, hTI, fun v q => nomatch q⟩
    · exact ⟨_, hTO, fun v q => nomatch q⟩
    · exact ⟨o1, e1, fun v q => by rw [d1] at q; cases q⟩
    · exact ⟨o2, e2, fun v q => by rw [d2] at q; cases q⟩
  keep := fun i h h' st k => by
    obtain ⟨hz, hTI, ⟨x, y, hTO⟩, h1, h2⟩ := st
    exact ⟨k z (by simp) _ hz, k TI (by simp) _ hTI, ⟨x, y, k TO (by simp) _ hTO⟩, h1.at fun o q => k i1 (by simp) o q, h2.at fun o q => k i2 (by simp) o q⟩
  item := by
    intro X hP hw hK hc i pins s σ H E I hf st hg
    subst hP hw hK
    obtain ⟨hz, hTI, ⟨x0, y0, hTO⟩, h1, h2⟩ := st
    obtain ⟨xs, ys, x, y, hqx, hqy, hx, hy⟩ := hg
    obtain ⟨its, rv, p, _⟩ := I.tuple hqx
    obtain ⟨its2, rv2, p2, _⟩ := I.list hqy
    obtain ⟨u, hu, ru⟩ := rv.get hx
    obtain ⟨u2, hu2, ru2⟩ := rv2.get hy
    have pt : s.heap.IsTuple a its.toArray := p
    obtain ⟨S, na1, nb2⟩ := cells_sep C hz hTO h1 h2 pt p2.isList hTa
    have hzl : z < s.heap.objs.size := Heap.lt_size hz
    have hlt1 : i < its.toArray.size := by
      have := (List.getElem?_eq_some_iff.mp hu).1
      simpa using this
    have hlt2 : i < its2.toArray.size := by
      have := (List.getElem?_eq_some_iff.mp hu2).1
      simpa using this
    refine wpAny_pyNext_zipD2_item S (Draws.tuple (prog := X.prog) (w := X.w) (A := X.A.in1) (I.ok.hd hc) i1 a na1 its.toArray) (Draws.list (prog := X.prog) (w := X.w) (A := X.A.in1) (I.ok.hd hc) i2 b nb2 its2.toArray) hz hTI hTO ⟨h1, pt⟩ ⟨h2, p2.isList⟩ hlt1 hlt2 fun x1 x2 h' tk hP1 hP2 z' TO' st1 st2 hT hsz hk => ?_
    obtain rfl : u = x1 := by
      have q : its[i]? = some x1 := by simpa using hP1
      rw [hu] at q
      exact Option.some.inj q
    obtain rfl : u2 = x2 := by
      have q : its2[i]? = some x2 := by simpa using hP2
      rw [hu2] at q
      exact Option.some.inj q
    refine ⟨_, rfl, wpAny_letOwnedTupleGo_zip (s := { s with heap := h', toks := tk }) z' fun h'' z'' sb => ?_⟩
    have hT2 : h''.get? s.heap.objs.size = some { cls := .type "tuple", data := .seq #[u, u2] } := (sb.2 _ (Nat.ne_of_gt hzl)).trans hT
    have new : ObjOk X.prog X.w (upd H s.heap.objs.size (.tup [x, y])) h'' s.heap.objs.size (.tup [x, y]) :=
      ⟨by show 2 ≤ sizeLine; decide, [u, u2], .cons ru (.cons ru2 .nil), ⟨_, hT2, rfl, _, rfl⟩⟩
    have I1 : Inv X pins σ (upd H s.heap.objs.size (.tup [x, y])) { s with heap := h'', toks := tk } :=
      I.turnedNew (ch := [z, TI, TO, i1, i2]) (fun c o hb q => (sb.2 c (fun q' => hb (by simp [q']))).trans (hk c o (fun q' => hb (by simp [q'])) (fun q' => hb (by simp [q'])) (fun q' => hb (by simp [q'])) (fun q' => hb (by simp [q'])) q)) hf (Nat.le_refl _) new
    refine ⟨.ref s.heap.objs.size, _, I1, rfl, ⟨_, x, y, rfl, I.hok.fresh (Nat.le_refl _), rfl, fun l hl => by rw [I.tuple_inj hl hqx]; exact hx, fun l hl => by rw [I.list_inj hl hqy]; exact hy⟩, ⟨z'', ?_, ⟨u, u2, ?_⟩, ?_, ?_⟩, fun c hcm => ?_⟩
    · exact (sb.2 _ C.TIz).trans (hk _ _ C.TIz C.TITO C.TIi1 C.TIi2 hTI)
    · exact (sb.2 _ C.TOz).trans TO'
    · exact st1.1.at fun o q => (sb.2 _ C.zi1.symm).trans q
    · exact st2.1.at fun o q => (sb.2 _ C.zi2.symm).trans q
    · have hlt : c < s.heap.objs.size := by
        have e' : c = z ∨ c = TI ∨ c = TO ∨ c = i1 ∨ c = i2 := by simpa using hcm
        rcases e' with rfl | rfl | rfl | rfl | rfl
        · exact hzl
        · exact Heap.lt_size hTI
        · exact Heap.lt_size hTO
        · obtain ⟨_, e1, _⟩ := h1
          exact Heap.lt_size e1
        · obtain ⟨_, e2, _⟩ := h2
          exact Heap.lt_size e2
      rw [upd_ne (Nat.ne_of_lt hlt)]
      exact (hf c hcm).1
  done := by
    intro X hP hw hK hc i pins s σ H E I hf st hg
    subst hP hw hK
    obtain ⟨hz, hTI, ⟨x0, y0, hTO⟩, h1, h2⟩ := st
    obtain ⟨xs, ys, hqx, hqy, l1, l2, hend⟩ := hg
    obtain ⟨its, rv, p, _⟩ := I.tuple hqx
    obtain ⟨its2, rv2, p2, _⟩ := I.list hqy
    have pt : s.heap.IsTuple a its.toArray := p
    obtain ⟨S, na1, nb2⟩ := cells_sep C hz hTO h1 h2 pt p2.isList hTa
    have k1 := rv.length
    have k2 := rv2.length
    have m1 : i ≤ its.toArray.size := by rw [List.size_toArray]; omega
    have m2 : i ≤ its2.toArray.size := by rw [List.size_toArray]; omega
    have m3 : i = its.toArray.size ∨ i = its2.toArray.size := by rw [List.size_toArray, List.size_toArray]; omega
    exact wpAny_pyNext_zipD2_end S (Draws.tuple (prog := X.prog) (w := X.w) (A := X.A.in1) (I.ok.hd hc) i1 a na1 its.toArray) (Draws.list (prog := X.prog) (w := X.w) (A := X.A.in1) (I.ok.hd hc) i2 b nb2 its2.toArray) hz hTI hTO ⟨h1, pt⟩ ⟨h2, p2.isList⟩ m1 m2 m3 fun h' tk hk => ⟨rfl, I.turnedL (t' := tk) (ch := [z, TI, TO, i1, i2]) (fun c o hb q =>
      hk c o (fun q' => hb (by simp [q'])) (fun q' => hb (by simp [q'])) (fun q' => hb (by simp [q'])) (fun q' => hb (by simp [q'])) q) hf⟩
  self := fun A i s Q E st h => wpAny_pyIter_zip st.1 h
def iZipM (K : PySem.W.Frag) (ta : TA) : TI := fun σ H R => ta σ H fun vs H1 => ∃ a b xs ys, vs = [.ref a, .ref b] ∧ SqT K H1 a xs ∧ SqL K H1 b ys ∧ R (ItzM K a b) H1
theorem pi_zipM {X : Cx} {K : PySem.W.Frag} (hKK : X.K = K) {e e2 : Expr} {ta : TA} {p pos tpos : Pos} {elts : List Expr} {kk : Nat} (hg : L2.Gl X "zip") (hm : X.mg "zip" = none) (ha : PA X [e, e2] ta)
    (hs : starEach [e, e2] X.env = (false, eval e X.env) :: starEach [e2] X.env := by rfl) (hpl : (backTo pos (starEach [e2] X.env)).any (·.1) = false := by rfl) :
    PI X (.Tuple elts kk tpos) (.Call (.Name "zip" p) [e, e2] [] pos) (iZipM K ta) := by
  subst hKK
  refine ⟨fun pins s σ H R I h => ?_⟩
  refine Call_ (ld_blt I hg hm PyProof.Rows.boot_zip (PyProof.Rows.callWith_type1 (thn (ha.run pos pins s σ H _ I h) fun us s1 ⟨vs, H1, I1, r1, q1⟩ => ?_) hs hpl))
  obtain ⟨a, b, xs, ys, ex, hqx, hqy, q⟩ := q1
  subst ex
  cases r1 with
  | cons r rr =>
    cases rr with
    | cons r' rr =>
      cases rr
      cases r
      cases r'
      obtain ⟨its, rv, p1, _⟩ := I1.tuple hqx
      obtain ⟨its2, rv2, p2, _⟩ := I1.list hqy
      obtain ⟨o1, ho1, _⟩ := id p1
      refine zip_begins2 (begins_tuple a its.toArray) (begins_list b its2.toArray) (show s1.heap.IsTuple a its.toArray from p1) p2.isList fun h' hz hTI hTO h1 h2 hsz hk => wpAny_pyIter_zip hz ?_
      have I2 : Inv X pins σ H1 { s1 with heap := h' } := I1.kept (t' := s1.toks) hk
      have C : Cells (s1.heap.objs.size + 4) (s1.heap.objs.size + 2) (s1.heap.objs.size + 3) s1.heap.objs.size (s1.heap.objs.size + 1) := by
        constructor <;> (intro e; have e : (_ : Nat) = _ := e; omega)
      have hTa : (s1.heap.objs.size + 3 : Nat) ≠ a := Nat.ne_of_gt (Nat.lt_of_lt_of_le (Heap.lt_size ho1) (Nat.le_add_right _ _))
      refine ⟨s1.heap.objs.size + 4, [s1.heap.objs.size + 4, s1.heap.objs.size + 2, s1.heap.objs.size + 3, s1.heap.objs.size, s1.heap.objs.size + 1], _, _, H1, rfl, I2, turn_zipM C hTa, ⟨hz, hTI, ⟨_, _, hTO⟩, ⟨_, h1, rfl, rfl⟩, ⟨_, h2, rfl, rfl⟩⟩, fun c hcm => ?_, q⟩
      have e' : c = s1.heap.objs.size + 4 ∨ c = s1.heap.objs.size + 2 ∨ c = s1.heap.objs.size + 3 ∨ c = s1.heap.objs.size ∨ c = s1.heap.objs.size + 1 := by simpa using hcm
      have hle : s1.heap.objs.size ≤ c := by
        rcases e' with rfl | rfl | rfl | rfl | rfl
        · exact Nat.le_add_right _ _
        · exact Nat.le_add_right _ _
        · exact Nat.le_add_right _ _
        · exact Nat.le_refl _
        · exact Nat.le_add_right _ _
      exact I1.fpOk hle (I1.hok.fresh hle)
end Ea
set_option Elab.async false
set_option linter.all false
set_option maxRecDepth 100000
set_option maxHeartbeats 400000
/-! Comprehensions over pairs, where nothing else is changed. -/
namespace Ea
open PySem PySem.Spec PyProof.Rows L2
section
variable {K : PySem.W.Frag} {σ : L2.St} {H : Hp} {Q : VK} {tt : TT} {te : TE} {vs : List Nat} {j1 j2 k : Nat} {σx : V → V → L2.St} {a b : Addr} {n : Nat} {px py : Nat → V} {f : Nat → Bool} {g : Nat → V} {J : It}
theorem range_snoc (f : Nat → Bool) (g : Nat → V) (i : Nat) : ((List.range (i + 1)).filter f).map g = ((List.range i).filter f).map g ++ (if f i = true then [g i] else []) := by
  rw [List.range_succ, List.filter_append, List.map_append]
  congr 1
  by_cases h : f i = true
  · rw [if_pos h, List.filter_cons, if_pos h] <;> rfl
  · rw [if_neg h, List.filter_cons, if_neg h] <;> rfl
abbrev TurnP (H : Hp) (tt : TT) (te : TE) (σx : V → V → L2.St) (px py : Nat → V) (f : Nat → Bool) (g : Nat → V) (i : Nat) : Prop :=
  ∀ (H' : Hp) (N : VK) (S : Hp → Prop), Evl.Ex H H' → (f i = true → ∀ H3, Evl.Ex H' H3 → N (g i) H3) → (f i = false → ∀ H3, Evl.Ex H' H3 → S H3) →
    tt (σx (px i) (py i)) H' fun b H2 => if b = true then te (σx (px i) (py i)) H2 N else S H2
theorem lc_pairs (hk : k = 2) (hz : n ≤ 40000) (go : ∀ i H', Evl.Ex H H' → i < n → J.go i H') (stop : ∀ H', Evl.Ex H H' → J.stop n H')
    (yld : ∀ i H1 x H2, Evl.Ex H H1 → i < n → J.yld i H1 x H2 → ∃ T, x = .ref T ∧ H1 T = none ∧ H2 = upd H1 T (.tup [px i, py i]))
    (hσ : ∀ x y, ((wipe σ vs).set j1 (some x)).set j2 (some y) = σx x y) (hw : ∀ x y, wipe (σx x y) vs = wipe σ vs)
    (hs : ∀ i, i < n → TurnP H tt te σx px py f g i)
    (hd : ∀ D H', Evl.Ex H H' → H D = none → H' D = some (.lst (((List.range n).filter f).map g)) → Q (.ref D) H') : LcR (gTup K k (gCons (gName j1) (gCons (gName j2) gNil))) tt te vs σ Q J H := fun D hn => by
  refine ⟨fun i m H' => i + m = n ∧ Evl.Ex H H' ∧ H' D = some (.lst (((List.range i).filter f).map g)), ⟨n, by omega, Evl.Ex.new hn, upd_same⟩, fun i m H' hW => ?_⟩
  obtain ⟨em, e, ed⟩ := hW
  have hlen : (((List.range i).filter f).map g).length < 100000 := by
    rw [List.length_map]
    have h1 := List.length_filter_le f (List.range i)
    rw [List.length_range] at h1
    omega
  by_cases hi : i < n
  · refine .inr ⟨go i H' e hi, fun H3 => Evl.Ex H H3 ∧ H3 D = some (.lst (((List.range (i + 1)).filter f).map g)), fun H3 h3 => ⟨m - 1, by omega, by omega, h3⟩, fun x H2 hy => ?_⟩
    obtain ⟨T, rfl, hT, rfl⟩ := yld i H' x H2 e hi hy
    have eT := Evl.Ex.new (o := .tup [px i, py i]) hT
    refine rd_gtup2 (x := px i) (y := py i) (SqT.of upd_same) hk (hσ _ _) ⟨hw _ _, hs i hi _ _ _ (e.trans eT) (fun hf H3 e3 => ?_) fun hf H3 e3 => ?_⟩
    · refine ⟨_, e3 D _ (eT D _ ed), Evl.sz_lt hlen, Evl.Ex.mut ((e.trans eT).trans e3) hn, ?_⟩
      rw [upd_same, range_snoc, if_pos hf]
    · refine ⟨(e.trans eT).trans e3, ?_⟩
      rw [range_snoc, if_neg (by rw [hf]; decide), List.append_nil]
      exact e3 D _ (eT D _ ed)
  · have hin : i = n := by omega
    subst hin
    exact .inl ⟨stop H' e, hd D H' e hn ed⟩
theorem lc_enumT {xs : List V} (hk : k = 2) (hx : SqT K H a xs) (hz : xs.length ≤ 40000) (hσ : ∀ x y, ((wipe σ vs).set j1 (some x)).set j2 (some y) = σx x y) (hw : ∀ x y, wipe (σx x y) vs = wipe σ vs)
    (f : Nat → Bool) (g : Nat → V) (hs : ∀ i, i < xs.length → TurnP H tt te σx (fun i => .int (i : Nat)) (fun i => xs.getD i .non) f g i)
    (hd : ∀ D H', Evl.Ex H H' → H D = none → H' D = some (.lst (((List.range xs.length).filter f).map g)) → Q (.ref D) H') : LcR (gTup K k (gCons (gName j1) (gCons (gName j2) gNil))) tt te vs σ Q (IteT K a) H :=
  lc_pairs hk hz (fun i H' e hi => ⟨xs, xs[i], Evl.ex_t e hx, List.getElem?_eq_getElem hi⟩) (fun H' e => ⟨xs, Evl.ex_t e hx, rfl⟩)
    (fun i H1 x H2 e hi hy => by
      obtain ⟨T, y, rfl, hT, rfl, h⟩ := hy
      have := h xs (Evl.ex_t e hx)
      refine ⟨T, rfl, hT, ?_⟩
      show _ = upd H1 T (.tup [.int (i : Nat), xs.getD i .non])
      rw [List.getD_eq_getElem?_getD, this] <;> rfl) hσ hw hs hd
theorem lc_enumL {xs : List V} (hk : k = 2) (hx : SqL K H a xs) (hz : xs.length ≤ 40000) (hσ : ∀ x y, ((wipe σ vs).set j1 (some x)).set j2 (some y) = σx x y) (hw : ∀ x y, wipe (σx x y) vs = wipe σ vs)
    (f : Nat → Bool) (g : Nat → V) (hs : ∀ i, i < xs.length → TurnP H tt te σx (fun i => .int (i : Nat)) (fun i => xs.getD i .non) f g i)
    (hd : ∀ D H', Evl.Ex H H' → H D = none → H' D = some (.lst (((List.range xs.length).filter f).map g)) → Q (.ref D) H') : LcR (gTup K k (gCons (gName j1) (gCons (gName j2) gNil))) tt te vs σ Q (Ite K a) H :=
  lc_pairs hk hz (fun i H' e hi => ⟨xs, xs[i], Evl.ex_l e hx, List.getElem?_eq_getElem hi⟩) (fun H' e => ⟨xs, Evl.ex_l e hx, Nat.le_refl _⟩)
    (fun i H1 x H2 e hi hy => by
      obtain ⟨T, y, rfl, hT, rfl, h⟩ := hy
      have := h xs (Evl.ex_l e hx)
      refine ⟨T, rfl, hT, ?_⟩
      show _ = upd H1 T (.tup [.int (i : Nat), xs.getD i .non])
      rw [List.getD_eq_getElem?_getD, this] <;> rfl) hσ hw hs hd
theorem lc_zipM {xs ys : List V} (hk : k = 2) (hx : SqT K H a xs) (hy : SqL K H b ys) (hl : xs.length = ys.length) (hz : xs.length ≤ 40000) (hσ : ∀ x y, ((wipe σ vs).set j1 (some x)).set j2 (some y) = σx x y) (hw : ∀ x y, wipe (σx x y) vs = wipe σ vs)
    (f : Nat → Bool) (g : Nat → V) (hs : ∀ i, i < xs.length → TurnP H tt te σx (fun i => xs.getD i .non) (fun i => ys.getD i .non) f g i)
    (hd : ∀ D H', Evl.Ex H H' → H D = none → H' D = some (.lst (((List.range xs.length).filter f).map g)) → Q (.ref D) H') : LcR (gTup K k (gCons (gName j1) (gCons (gName j2) gNil))) tt te vs σ Q (ItzM K a b) H :=
  lc_pairs hk hz (fun i H' e hi => ⟨xs, ys, xs[i], ys[i]'(hl ▸ hi), Evl.ex_t e hx, Evl.ex_l e hy, List.getElem?_eq_getElem hi, List.getElem?_eq_getElem (hl ▸ hi)⟩)
    (fun H' e => ⟨xs, ys, Evl.ex_t e hx, Evl.ex_l e hy, Nat.le_refl _, by omega, .inl rfl⟩)
    (fun i H1 x H2 e hi hq => by
      obtain ⟨T, u, v, rfl, hT, rfl, h1, h2⟩ := hq
      have q1 := h1 xs (Evl.ex_t e hx)
      have q2 := h2 ys (Evl.ex_l e hy)
      refine ⟨T, rfl, hT, ?_⟩
      show _ = upd H1 T (.tup [xs.getD i .non, ys.getD i .non])
      rw [List.getD_eq_getElem?_getD, q1, List.getD_eq_getElem?_getD, q2] <;> rfl) hσ hw hs hd
variable {R : It → Hp → Prop} {ta : TA}
theorem rd_iRng2 (h : ta σ H fun vs H1 => ∃ i j : Int, vs = [.int i, .int j] ∧ (-(2 ^ 62) ≤ i ∧ i < 2 ^ 62 ∧ -(2 ^ 62) ≤ j ∧ j < 2 ^ 62) ∧ R (Itr i (j - i).toNat) H1) : iRng2 ta σ H R := h
theorem rd_iEnumT (h : ta σ H fun vs H1 => ∃ a xs, vs = [.ref a] ∧ SqT K H1 a xs ∧ R (IteT K a) H1) : iEnumT K ta σ H R := h
theorem rd_iEnum (h : ta σ H fun vs H1 => ∃ a xs, vs = [.ref a] ∧ SqL K H1 a xs ∧ R (Ite K a) H1) : iEnum K ta σ H R := h
theorem rd_iZipM (h : ta σ H fun vs H1 => ∃ a b xs ys, vs = [.ref a, .ref b] ∧ SqT K H1 a xs ∧ SqL K H1 b ys ∧ R (ItzM K a b) H1) : iZipM K ta σ H R := h
end
section
variable {X : Cx} {K : PySem.W.Frag}
theorem pi_enumL (hKK : X.K = K) {e : Expr} {ta : TA} {p pos tpos : Pos} {elts : List Expr} {kk : Nat} (hg : L2.Gl X "enumerate") (hm : X.mg "enumerate" = none) (ha : PA X [e] ta) (hs : starEach [e] X.env = [(false, eval e X.env)] := by rfl) :
    PI X (.Tuple elts kk tpos) (.Call (.Name "enumerate" p) [e] [] pos) (iEnum K ta) := hKK ▸ pi_enum hg hm ha hs
theorem pgk_tup (hKK : X.K = K) {pos : Pos} {es : List Expr} {k : Nat} {t : TGs} {n : Nat} (hc : X.calm = true) (h : PGs X es t)
    (hn : (assignEach es X.env).length = n := by rfl) (hst : (assignEach es X.env).findIdx? (·.1) = none := by rfl) : PG X (.Tuple es k pos) (gTup K n t) := hKK ▸ pg_tup hc h hn hst
end
end Ea
set_option Elab.async false
set_option linter.all false
set_option maxRecDepth 100000
set_option maxHeartbeats 400000
/-! sorted by key=abs, a tuple whose object is known, dict of it, all, comprehensions and loops over tuples of pairs. -/
namespace Ea
open PySem PySem.Spec PyProof.Rows L2

/-! ### sorted(xs, key=abs) of a list of ints -/
def rSortAbs (K : PySem.W.Frag) : List V → Hp → VK → Prop := fun xs H Q => ∃ (a : Addr) (ns : List Int), xs = [.ref a] ∧ SqL K H a (ns.map V.int) ∧
  ∀ (ms : List Int) (p : Addr), ms.Perm ns → ms.Pairwise (fun x y => x.natAbs ≤ y.natAbs) → H p = none → Q (.ref p) (upd H p (.lst (ms.map V.int)))
theorem each_of_ints : ∀ {its : List Value} {ns : List Int}, Vals (ns.map V.int) its → PySem.W.EachIs (fun v x => ∃ t, v = Value.int x t) its ns
  | _, [], r => by
    cases r
    exact .nil
  | _, n :: ns, r => by
    rw [List.map_cons] at r
    cases r with
    | cons h t => exact .cons h (each_of_ints t)
theorem vals_of_each : ∀ {its : List Value} {ns : List Int}, PySem.W.EachIs (fun v x => ∃ t, v = Value.int x t) its ns → Vals (ns.map V.int) its
  | _, _, .nil => .nil
  | _, _, .cons h t => .cons h (vals_of_each t)
theorem sort_absK {X : Cx} {K : PySem.W.Frag} (hK : X.K = K) (hu : X.A.units + 64 < cLine) {pins : List (Addr × Obj)} {s : Shared} {σ : L2.St} {H : Hp} {xs : List V} {us : List Value} {Q : VK}
    (I : Inv X pins σ H s) (r : Vals xs us) (h : rSortAbs K xs H Q) : wpAny (model X.prog X.w) X.A (call (.builtin "sorted") us [(Str.ofString "key", .builtin "abs")]) (EP X pins σ Q) X.xe s := by
  subst hK
  obtain ⟨a, ns, rfl, hs, q⟩ := h
  rw [Vals.ref1 r]
  obtain ⟨its, rv, hl, hz⟩ := I.list hs
  have hlen : ns.length ≤ sizeLine := by
    rw [List.length_map] at hz
    exact hz
  refine PySem.W.sorted_key_data (β := Int) (R := fun v x => ∃ t, v = Value.int x t) (bs := ns) (b := false) (f := .builtin "abs") (fun n => .int (n.natAbs : Int)) hl.isList (each_of_ints rv) ?_ ?_ hlen (fun x _ => ?_)
    (PyProof.Rows.ksk_s1 _ _) (fun _ => PyProof.Rows.ksk_l1 _ _) (fun x => PyProof.Rows.ksk_t4 "abs" x) (fun v x hv hx h tk kp => ?_) fun out c h' tk kp hf hD ho he => ?_
  · intro d hd d' hd'
    obtain ⟨x, _, rfl⟩ := List.mem_map.mp hd
    obtain ⟨y, _, rfl⟩ := List.mem_map.mp hd'
    rfl
  · refine .inr fun d hd => ?_
    obtain ⟨x, _, rfl⟩ := List.mem_map.mp hd
    exact ⟨nofun, nofun⟩
  · have e : (PyData.int (x.natAbs : Int)).depth = 0 := rfl
    omega
  · obtain ⟨t, rfl⟩ := hv
    refine call_abs_int fun u tk' => ⟨h, tk', rfl, fun _ _ e => e, ?_⟩
    have e : (if x < 0 then -x else x) = (x.natAbs : Int) := by split <;> omega
    rw [e]
    exact .int _ _
  · rw [PySem.W.dataLe_int (β := Int) fun n => (n.natAbs : Int)] at he
    generalize hm : ns.mergeSort (fun a b => decide ((a.natAbs : Int) ≤ (b.natAbs : Int))) = ms at he
    have pm : ms.Perm ns := hm ▸ List.mergeSort_perm _ _
    have so : ms.Pairwise fun x y => x.natAbs ≤ y.natAbs := by
      rw [← hm]
      refine (List.pairwise_mergeSort (le := fun a b : Int => decide ((a.natAbs : Int) ≤ (b.natAbs : Int))) (fun a b c h1 h2 => ?_) (fun a b => ?_) ns).imp fun {a b} h => ?_
      · have := of_decide_eq_true h1
        have := of_decide_eq_true h2
        exact decide_eq_true (by omega)
      · rw [Bool.or_eq_true, decide_eq_true_eq, decide_eq_true_eq]
        omega
      · have := of_decide_eq_true h
        omega
    have hl2 : (ms.map V.int).length ≤ sizeLine := by
      rw [List.length_map, pm.length_eq]
      exact hlen
    exact ⟨.ref _, upd H (s.heap.objs.size + 1) (.lst (ms.map V.int)), I.laid (t' := tk) kp (Nat.le_succ _) ⟨hl2, out, c, vals_of_each he, hD⟩, rfl, q _ _ pm so (I.hok.fresh (Nat.le_succ _))⟩
theorem pe_sortAbs {X : Cx} {K : PySem.W.Frag} {e : Expr} {ta : TA} {p pos kpos apos : Pos} (hK : X.K = K) (hu : X.A.units + 64 < cLine) (hg : L2.Gl X "sorted") (hm : X.mg "sorted" = none) (hga : L2.Gl X "abs") (hma : X.mg "abs" = none) (ha : PA X [e] ta)
    (he : backTo pos (starEach [e] X.env) = (false, eval e X.env) :: backTo pos (starEach [] X.env) := by rfl) (hpl : (backTo pos (starEach [e] X.env)).any (·.1) = false := by rfl)
    (hall : (backToKw pos (keywordEach [⟨some "key", .Name "abs" apos, kpos⟩] X.env)).all (·.1.isSome) = true := by rfl) (hnone : (backToKw pos (keywordEach [⟨some "key", .Name "abs" apos, kpos⟩] X.env)).any (·.1.isNone) = false := by rfl) (hks : (backToKw pos (keywordEach [⟨some "key", .Name "abs" apos, kpos⟩] X.env)).filterMap (·.1) = [Str.ofString "key"] := by rfl) :
    PE X (.Call (.Name "sorted" p) [e] [⟨some "key", .Name "abs" apos, kpos⟩] pos) (tCB (rSortAbs K) ta) := by
  refine ⟨fun pins s σ H Q I h => ?_⟩
  refine wpAny_Call_Name_kw (ld_blt (u := .builtin "sorted") I hg hm rfl ?_)
  refine PyProof.Rows.callWith_kw (thn (ha.run pos pins s σ H _ I h) fun us s1 ⟨vs, H1, I1, r1, q1⟩ => ?_) he hpl hall hnone
  rw [hks]
  show wpAny _ _ (evalAll [do let v ← eval (.Name "abs" apos) X.env; standAt pos; pure v]) _ _ s1
  refine wpAny_evalAll_cons (wpAny_bind (ld_blt (u := .builtin "abs") I1 hga hma rfl (wpAny_bind (wpAny_standAt (wpAny_pure ?_)))))
  exact wpAny_evalAll_nil (sort_absK hK hu I1 r1 q1)
theorem rd_sortAbs {K : PySem.W.Frag} {H : Hp} {Q : VK} {a : Addr} {ns : List Int} (s : SqL K H a (ns.map V.int))
    (h : ∀ (ms : List Int) (p : Addr), ms.Perm ns → ms.Pairwise (fun x y => x.natAbs ≤ y.natAbs) → H p = none → Q (.ref p) (upd H p (.lst (ms.map V.int)))) : rSortAbs K [.ref a] H Q := ⟨a, ns, rfl, s, h⟩

/-! ### a tuple whose object is known -/
def Fz (H : Hp) (a : Addr) (xs : List V) : Prop := ∃ o, H a = some (.frz o (.tup xs)) ∧ o.dict = none
theorem Fz.sq {K : PySem.W.Frag} {H : Hp} {a : Addr} {xs : List V} (h : Fz H a xs) : SqT K H a xs := by
  obtain ⟨o, h, _⟩ := h
  exact .inl (.inr ⟨o, h⟩)
def rTupFz (K : PySem.W.Frag) : List V → Hp → VK → Prop := fun xs H Q => ∃ p ys, xs = [.ref p] ∧ SqL K H p ys ∧ ∀ (l : Addr) (o : Obj), H l = none → o.dict = none → Q (.ref l) (upd H l (.frz o (.tup ys)))
theorem c_tupFz {X : Cx} {K : PySem.W.Frag} (hK : X.K = K) : CallR X (.type "tuple") (rTupFz K) := by
  subst hK
  intro pins s σ H xs us Q I r h
  obtain ⟨p, ys, rfl, hq, q⟩ := h
  obtain ⟨u, rfl, rx⟩ := vals1 r
  cases rx
  obtain ⟨its, r', pl, hz⟩ := I.list hq
  have hlen := r'.length
  refine call_tuple_list pl.isList (fun h' kp => ?_) (by simp only [List.size_toArray] <;> omega)
  have I1 : Inv X pins σ H { s with heap := h' } := I.kept (t' := s.toks) kp
  have I2 : Inv X pins σ (upd H h'.objs.size (.frz { cls := .type "tuple", data := .seq its.toArray } (.tup ys))) { s with heap := h'.push { cls := .type "tuple", data := .seq its.toArray } } :=
    I1.laid (t' := s.toks) (fun b o e => Heap.get?_push_of_some _ e) (Nat.le_refl _) (show ObjOk X.prog X.w _ _ _ (.frz _ (.tup ys)) from ⟨Heap.get?_push_size _ rfl, hz, its, r', IsTup.new _ _⟩)
  exact ⟨.ref h'.objs.size, _, I2, rfl, q _ _ (I1.hok.fresh (Nat.le_refl _)) rfl⟩
theorem rd_tupFz {K : PySem.W.Frag} {H : Hp} {Q : VK} {p : Addr} {ys : List V} (s : SqL K H p ys) (h : ∀ (l : Addr) (o : Obj), H l = none → o.dict = none → Q (.ref l) (upd H l (.frz o (.tup ys)))) : rTupFz K [.ref p] H Q := ⟨p, ys, rfl, s, h⟩

/-! ### dict of such a tuple of pairs -/
def rDictFz (K : PySem.W.Frag) : List V → Hp → VK → Prop := fun xs H Q => ∃ (a : Addr) (ps : List Addr) (kvs : List (Key × V)), xs = [.ref a] ∧ Fz H a (ps.map V.ref) ∧ Paired (fun p kv => SqT K H p [kV kv.1, kv.2]) ps kvs ∧
    ∀ p, H p = none → Q (.ref p) (upd H p (.dK (mergeK [] kvs)))
theorem c_dictFz {X : Cx} {K : PySem.W.Frag} (hK : X.K = K) (hcalm : X.calm = true) : CallR X (.type "dict") (rDictFz K) := by
  subst hK
  intro pins s σ H xs us Q I r q
  obtain ⟨a, ps, kvs, ex, ⟨o, ho, hod⟩, hp, q⟩ := q
  subst ex
  obtain ⟨u, eu, rx⟩ := vals1 r
  subst eu
  cases rx
  obtain ⟨hoa, hz, its, rv, pl⟩ := I.hok a _ ho
  have ei := refs_at rv
  subst ei
  rw [List.length_map] at hz
  obtain ⟨prs, rel, hl, hpr⟩ := pairs_of I hp
  obtain ⟨o2, ho2, hc, n, hdat⟩ := pl
  rw [hoa] at ho2
  cases ho2
  have hps : (prs.map fun q => ((default : Value), q.2)).length = prs.length := List.length_map _
  have hun : ∀ (j : Nat) (q : Key × Value), prs[j]? = some q → ∃ (b : Addr) (u : Value), ps[j]? = some b ∧ IsTup s.heap b #[u, q.2] ∧ keyIs q.1 u = true := hpr
  -- the pairs as values
  have hex : ∃ pv : List (Value × Value), pv.length = prs.length ∧ ∀ (j : Nat) (k v : Value), pv[j]? = some (k, v) → ∃ b q, prs[j]? = some q ∧ q.2 = v ∧ ps[j]? = some b ∧ IsTup s.heap b #[k, v] ∧ keyIs q.1 k = true := by
    clear rel hps
    have key : ∀ (m : Nat), m ≤ prs.length → ∃ pv : List (Value × Value), pv.length = m ∧ ∀ (j : Nat) (k v : Value), pv[j]? = some (k, v) → ∃ b q, prs[j]? = some q ∧ q.2 = v ∧ ps[j]? = some b ∧ IsTup s.heap b #[k, v] ∧ keyIs q.1 k = true := by
      intro m
      induction m with
      | zero => exact fun _ => ⟨[], rfl, fun j k v e => by simp at e⟩
      | succ m ih =>
        intro hm
        obtain ⟨pv, e1, e2⟩ := ih (by omega)
        have hj : prs[m]? = some prs[m] := List.getElem?_eq_getElem (by omega)
        obtain ⟨b, u, h1, h2, h3⟩ := hun m _ hj
        refine ⟨pv ++ [(u, prs[m].2)], by rw [List.length_append, e1] <;> rfl, fun j k v e => ?_⟩
        by_cases c : j < m
        · rw [List.getElem?_append_left (by omega)] at e
          exact e2 j k v e
        · rw [List.getElem?_append_right (by omega), e1] at e
          have : j = m := by
            have := (List.getElem?_eq_some_iff.mp e).1
            rw [List.length_singleton] at this
            omega
          subst this
          rw [Nat.sub_self] at e
          cases Option.some.inj e
          exact ⟨b, prs[j], hj, rfl, h1, h2, h3⟩
    exact key _ (Nat.le_refl _)
  obtain ⟨pv, hpv, hpv2⟩ := hex
  have P := PySem.PairArg.tuple (prog := X.prog) (w := X.w) a (ps.map Value.ref).toArray (fun j => ps.getD j 0) pv
  refine PySem.call_dict_pairs (knd := mixKind X.prog X.w) (kvs := prs) P (I.ok.hd hcalm) ⟨⟨o, n, hoa, hc, hod, hdat⟩, ?_, ?_⟩ ⟨hpv.symm, ?_⟩ (by rw [hpv, hl]; exact hz) fun h' tk hd' k => ?_
  · rw [List.size_toArray, List.length_map, hpv, hl]
  · intro j k v e
    obtain ⟨b, q2, h1, h2, h3, h4, h5⟩ := hpv2 j k v e
    have e3 : ps.getD j 0 = b := by rw [List.getD_eq_getElem?_getD, h3] <;> rfl
    refine ⟨by show (ps.map Value.ref).toArray[j]? = some (Value.ref (ps.getD j 0)); rw [e3]; simp [h3], .inl ?_⟩
    show s.heap.IsTuple (ps.getD j 0) #[k, v]
    rw [e3]
    exact h4
  · intro j k v e
    obtain ⟨b, q2, h1, h2, h3, h4, h5⟩ := hpv2 j k v e
    exact ⟨q2.1, by rw [h1, ← h2], h5⟩
  · have hm : (s.heap.objs.size == sysModules) = false := beq_eq_false_iff_ne.mpr (Nat.ne_of_gt I.big)
    have hlen : (mergeK [] kvs).length ≤ sizeLine := by
      refine Nat.le_trans (length_mergeK kvs []) ?_
      rw [List.length_nil, Nat.zero_add, rel.length, hl]
      exact hz
    exact ⟨.ref s.heap.objs.size, upd H s.heap.objs.size (.dK (mergeK [] kvs)), I.laid (t' := tk) (fun b o e => k b o (fun h => nomatch h) e) (Nat.le_refl _) (show ObjOk X.prog X.w _ _ _ (.dK (mergeK [] kvs)) from ⟨hlen, hm, merged [] prs, KV.merge rel .nil, hd'⟩), rfl, q _ (I.hok.fresh (Nat.le_refl _))⟩
theorem rd_dictFz {K : PySem.W.Frag} {H : Hp} {Q : VK} {a : Addr} {ps : List Addr} {kvs : List (Key × V)} (s : Fz H a (ps.map V.ref)) (hp : Paired (fun p kv => SqT K H p [kV kv.1, kv.2]) ps kvs)
    (h : ∀ p, H p = none → Q (.ref p) (upd H p (.dK (mergeK [] kvs)))) : rDictFz K [.ref a] H Q := ⟨a, ps, kvs, rfl, s, hp, h⟩

/-! ### all -/
theorem c_all {X : Cx} {K : PySem.W.Frag} (h : X.K = K) (hc : X.calm = true) : CallR X (.builtin "all") (rAll K) := h ▸ cr_all hc
theorem c_any {X : Cx} {K : PySem.W.Frag} (h : X.K = K) (hc : X.calm = true) : CallR X (.builtin "any") (rAny K) := h ▸ cr_any hc
theorem rd_all {K : PySem.W.Frag} {H : Hp} {Q : VK} {a : Addr} {bs : List Bool} (s : SqL K H a (bs.map V.bl)) (h : Q (.bl (bs.all id)) H) : rAll K [.ref a] H Q := ⟨a, bs, rfl, s, h⟩
theorem rd_any {K : PySem.W.Frag} {H : Hp} {Q : VK} {a : Addr} {bs : List Bool} (s : SqL K H a (bs.map V.bl)) (h : Q (.bl (bs.any id)) H) : rAny K [.ref a] H Q := ⟨a, bs, rfl, s, h⟩

/-! ### repr of an int -/
def rReprI : List V → Hp → VK → Prop := fun xs H Q => ∃ i : Int, xs = [.int i] ∧ i.natAbs.log2 < 1920 ∧ Q (.str (toString i)) H
theorem c_reprI {X : Cx} : CallR X (.builtin "repr") rReprI := SkE.call_repr_int
theorem rd_reprI {i : Int} {H : Hp} {Q : VK} (h1 : i.natAbs < 10 ^ 12) (h : Q (.str (toString i)) H) : rReprI [.int i] H Q := ⟨i, rfl, log2_small h1, h⟩

/-! ### data without lists stay where tuples stay -/
mutual
def noL : PyData → Bool
  | .list _ => false
  | .dict _ => false
  | .tuple ds => noLs ds
  | _ => true
def noLs : List PyData → Bool
  | [] => true
  | d :: ds => noL d && noLs ds
end
mutual
theorem dp_mono {K : PySem.W.Frag} {H H' : Hp} (e : ∀ a xs, SqT K H a xs → SqT K H' a xs) : ∀ (d : PyData) (v : V), noL d = true → Dp K H v d → Dp K H' v d
  | .none, _, _, h => by cases h; exact .non
  | .bool b, _, _, h => by cases h; exact .bl b
  | .int i, _, _, h => by cases h; exact .int i
  | .str x, _, _, h => by cases h; exact .str x
  | .list _, _, c, _ => nomatch c
  | .tuple ds, _, c, h => by
    cases h with
    | tup hs ha => exact .tup (e _ _ hs) (dps_mono e ds _ c ha)
  | .dict _, _, c, _ => nomatch c
theorem dps_mono {K : PySem.W.Frag} {H H' : Hp} (e : ∀ a xs, SqT K H a xs → SqT K H' a xs) : ∀ (ds : List PyData) (vs : List V), noLs ds = true → DpAll K H vs ds → DpAll K H' vs ds
  | [], _, _, h => by cases h; exact .nil
  | d :: ds, _, c, h => by
    have c2 : noL d = true ∧ noLs ds = true := Bool.and_eq_true _ _ ▸ c
    cases h with
    | cons h1 h2 => exact .cons (dp_mono e d _ c2.1 h1) (dps_mono e ds _ c2.2 h2)
end
theorem noLs_all : ∀ {ds : List PyData}, (∀ d ∈ ds, noL d = true) → noLs ds = true
  | [], _ => rfl
  | d :: ds, h => by
    show (noL d && noLs ds) = true
    rw [h d List.mem_cons_self, noLs_all fun x hx => h x (List.mem_cons_of_mem _ hx)] <;> rfl

/-! ### walks over tuples of pairs -/
section
variable {K : PySem.W.Frag} {σ : L2.St} {H : Hp} {Q : VK} {tt : TT} {te : TE} {tb : TS} {D : Ends} {vs : List Nat} {j1 j2 k : Nat} {σx : V → V → L2.St} {a : Addr} {px py : Nat → V} {f : Nat → Bool} {g : Nat → V}
theorem lc_prT {xs : List V} (hk : k = 2) (hx : SqT K H a xs) (hz : xs.length ≤ 40000) (hp : ∀ i, i < xs.length → ∃ T, xs[i]? = some (.ref T) ∧ SqT K H T [px i, py i])
    (hσ : ∀ x y, ((wipe σ vs).set j1 (some x)).set j2 (some y) = σx x y) (hw : ∀ x y, wipe (σx x y) vs = wipe σ vs) (hs : ∀ i, i < xs.length → TurnP H tt te σx px py f g i)
    (hd : ∀ D H', Evl.Ex H H' → H D = none → H' D = some (.lst (((List.range xs.length).filter f).map g)) → Q (.ref D) H') : LcR (gTup K k (gCons (gName j1) (gCons (gName j2) gNil))) tt te vs σ Q (Itt K a) H := fun D hn =>
  lc_tup (xs := xs) (fun i H' => Evl.Ex H H' ∧ H' D = some (.lst (((List.range i).filter f).map g))) ⟨Evl.Ex.new hn, upd_same⟩ (fun i H' _ ⟨ex, _⟩ => Evl.ex_t ex hx) (fun i x H' hi p => by
    obtain ⟨e, ed⟩ := p
    have hil := (List.getElem?_eq_some_iff.mp hi).1
    obtain ⟨T, hT, sT⟩ := hp i hil
    rw [hT] at hi
    cases hi
    have hlen : (((List.range i).filter f).map g).length < 100000 := by
      rw [List.length_map]
      have h1 := List.length_filter_le f (List.range i)
      rw [List.length_range] at h1
      omega
    refine rd_gtup2 (x := px i) (y := py i) (Evl.ex_t e sT) hk (hσ _ _) ⟨hw _ _, hs i hil _ _ _ e (fun hf H3 e3 => ?_) fun hf H3 e3 => ?_⟩
    · refine ⟨_, e3 D _ ed, Evl.sz_lt hlen, Evl.Ex.mut (e.trans e3) hn, ?_⟩
      rw [upd_same, range_snoc, if_pos hf]
    · refine ⟨e.trans e3, ?_⟩
      rw [range_snoc, if_neg (by rw [hf]; decide), List.append_nil]
      exact e3 D _ ed) fun H' p => hd D H' p.1 hn p.2
theorem fr_tupP {xs : List V} {px py : Nat → V} (hk : k = 2) (Pv : Nat → L2.St → Hp → Prop) (h0 : Pv 0 σ H) (hl : ∀ i σ H, i ≤ xs.length → Pv i σ H → SqT K H a xs)
    (hs : ∀ i σ H, i < xs.length → Pv i σ H → ∃ T, xs[i]? = some (.ref T) ∧ SqT K H T [px i, py i] ∧ tb { D with nx := Pv (i + 1), ct := Pv (i + 1), bk := D.nx } ((σ.set j1 (some (px i))).set j2 (some (py i))) H) (hd : ∀ σ H, Pv xs.length σ H → D.nx σ H) :
    ForR (gTup K k (gCons (gName j1) (gCons (gName j2) gNil))) tb D σ (Itt K a) H := for_tup Pv h0 hl (fun i x σ H hi p => by
      obtain ⟨T, hT, sT, q⟩ := hs i σ H (List.getElem?_eq_some_iff.mp hi).1 p
      rw [hT] at hi
      cases hi
      exact rd_gtup2 sT hk rfl q) hd
/-- a comprehension over a range, nothing else being changed -/
theorem lc_fmR {lo : Int} {n j : Nat} {σx : V → L2.St} (f : Nat → Bool) (g : Nat → V) (hz : n ≤ 40000) (hσ : ∀ x, (wipe σ vs).set j (some x) = σx x) (hw : ∀ x, wipe (σx x) vs = wipe σ vs)
    (hs : ∀ i, i < n → ∀ (H' : Hp) (N : VK) (S : Hp → Prop), Evl.Ex H H' → (f i = true → ∀ H3, Evl.Ex H' H3 → N (g i) H3) → (f i = false → ∀ H3, Evl.Ex H' H3 → S H3) →
      tt (σx (.int (lo + i))) H' fun b H2 => if b = true then te (σx (.int (lo + i))) H2 N else S H2)
    (hd : ∀ D H', Evl.Ex H H' → H D = none → H' D = some (.lst (((List.range n).filter f).map g)) → Q (.ref D) H') : LcR (gName j) tt te vs σ Q (Itr lo n) H := fun D hn =>
  lc_range (fun i H' => Evl.Ex H H' ∧ H' D = some (.lst (((List.range i).filter f).map g))) ⟨Evl.Ex.new hn, upd_same⟩ (fun i H' hi p => by
    obtain ⟨e, ed⟩ := p
    have hlen : (((List.range i).filter f).map g).length < 100000 := by
      rw [List.length_map]
      have h1 := List.length_filter_le f (List.range i)
      rw [List.length_range] at h1
      omega
    rw [show gName j (.int (lo + i)) (wipe σ vs) H' = fun N => N (σx (.int (lo + i))) H' from funext fun N => by rw [← hσ (.int (lo + i))] <;> rfl]
    refine ⟨hw _, hs i hi _ _ _ e (fun hf H3 e3 => ?_) fun hf H3 e3 => ?_⟩
    · refine ⟨_, e3 D _ ed, Evl.sz_lt hlen, Evl.Ex.mut (e.trans e3) hn, ?_⟩
      rw [upd_same, range_snoc, if_pos hf]
    · refine ⟨e.trans e3, ?_⟩
      rw [range_snoc, if_neg (by rw [hf]; decide), List.append_nil]
      exact e3 D _ ed) fun H' p => hd D H' p.1 hn p.2
end
end Ea
set_option Elab.async false
set_option linter.all false
set_option maxRecDepth 100000
set_option maxHeartbeats 1000000
/-! enumerate of a text; list of a dict; walks over a locked dict's keys; triples. -/
namespace Ea
open PySem PySem.Spec PyProof.Rows L2
/-- the text z, each sign in a new pair -/
def IteS (z : Str) : It :=
  ⟨fun i _ => i < z.cps.size, fun i H v H' => ∃ T c, v = .ref T ∧ H T = none ∧ H' = upd H T (.tup [.int (i : Nat), .str ⟨#[c]⟩]) ∧ z.cps[i]? = some c, fun i _ => i = z.cps.size⟩
theorem turn_enumS {P : Program} {w : World} {K : PySem.W.Frag} {elts : List Expr} {kk : Nat} {tpos : Pos} (z : Str) (tz : Tok) (e it : Addr) :
    L2.Turn P w K (.Tuple elts kk tpos) (IteS z) [e, it] e (fun i h => (∃ old, IsEnum h e it ((i : Nat) : Int) old) ∧ h.IsStrIter it (strIterType z) z tz i ∧ e ≠ it) where
  mem := by simp
  obj := fun i h st b hb => by
    obtain ⟨⟨old, he⟩, ⟨o, ho, hc, hd⟩, _⟩ := st
    have e' : b = e ∨ b = it := by simpa using hb
    rcases e' with rfl | rfl
    · exact ⟨_, he, fun v q => nomatch q⟩
    · exact ⟨o, ho, fun v q => by rw [hd] at q; cases q⟩
  keep := fun i h h' st k => let ⟨⟨old, he⟩, hi, hne⟩ := st; ⟨⟨old, k e (by simp) _ he⟩, let ⟨o, ho, r⟩ := hi; ⟨o, k it (by simp) o ho, r⟩, hne⟩
  item := by
    intro X hP hw hK hc i pins s σ H E I hf st hg
    subst hP hw hK
    obtain ⟨⟨old, he⟩, hit, hne⟩ := st
    have hg : i < z.cps.size := hg
    obtain ⟨oi, hoi, hci, _⟩ := id hit
    have hel : e < s.heap.objs.size := Heap.lt_size he
    have hil : it < s.heap.objs.size := Heap.lt_size hoi
    refine wpAny_pyNext_enum_itemD (Draws.text (prog := X.prog) (w := X.w) (A := X.A.in1) (I.ok.hd hc) it z tz) he hit hg hne (by simp [hne]) fun x' h' tk hP ho st' hT hsz hk => ?_
    obtain ⟨c, u, hcx, rfl⟩ := hP
    refine ⟨_, rfl, wpAny_letOwnedTupleGo_enum (s := { s with heap := h', toks := tk + 1 }) ho fun h'' he' sb => ?_⟩
    have hT2 : h''.get? s.heap.objs.size = some { cls := .type "tuple", data := .seq #[.int i tk, .str ⟨#[c]⟩ u] } := (sb.2 _ (Nat.ne_of_gt hel)).trans hT
    have new : ObjOk X.prog X.w (upd H s.heap.objs.size (.tup [.int (i : Nat), .str ⟨#[c]⟩])) h'' s.heap.objs.size (.tup [.int (i : Nat), .str ⟨#[c]⟩]) :=
      ⟨by show 2 ≤ sizeLine; decide, [.int i tk, .str ⟨#[c]⟩ u], .cons ⟨_, rfl⟩ (.cons ⟨_, rfl⟩ .nil), ⟨_, hT2, rfl, _, rfl⟩⟩
    have I1 : Inv X pins σ (upd H s.heap.objs.size (.tup [.int (i : Nat), .str ⟨#[c]⟩])) { s with heap := h'', toks := tk + 1 } :=
      I.turnedNew (ch := [e, it]) (fun b ob hb q => (sb.2 b (fun z => hb (by simp [z]))).trans (hk b ob (fun z => hb (by simp [z])) (fun z => hb (by simp [z])) q)) hf (Nat.le_refl _) new
    refine ⟨.ref s.heap.objs.size, _, I1, rfl, ⟨_, c, rfl, I.hok.fresh (Nat.le_refl _), rfl, hcx⟩, ⟨⟨.str ⟨#[c]⟩ u, ?_⟩, (let ⟨o, ho, r⟩ := st'; ⟨o, (sb.2 it (Ne.symm hne)).trans ho, r⟩), hne⟩, fun b hb => ?_⟩
    · have e1 : ((i + 1 : Nat) : Int) = (i : Int) + 1 := by omega
      rw [e1]
      exact he'
    · have hb' : b < s.heap.objs.size := by
        have e' : b = e ∨ b = it := by simpa using hb
        rcases e' with rfl | rfl
        · exact hel
        · exact hil
      rw [upd_ne (Nat.ne_of_lt hb')]
      exact (hf b hb).1
  done := by
    intro X hP hw hK hc i pins s σ H E I hf st hg
    subst hP hw hK
    obtain ⟨⟨old, he⟩, hit, hne⟩ := st
    have hg : i = z.cps.size := hg
    obtain ⟨f0, f1, f2, f3, f4, f5⟩ := hf it (by simp)
    exact wpAny_pyNext_enum_endD (Draws.text (prog := X.prog) (w := X.w) (A := X.A.in1) (I.ok.hd hc) it z tz) he (hg ▸ hit) fun h' eb => ⟨rfl, I.turned (t' := s.toks) (fun b o hb q => eb b o hb q) f0 f1 f3 f4 f5⟩
  self := fun A i s Q E st h => let ⟨⟨_, he⟩, _⟩ := st; wpAny_pyIter_enum he h
def iEnumS (ta : TA) : TI := fun σ H R => ta σ H fun vs H1 => ∃ z, vs = [.str z] ∧ R (IteS z) H1
theorem pi_enumS {X : Cx} {e : Expr} {ta : TA} {p pos tpos : Pos} {elts : List Expr} {kk : Nat} (hg : L2.Gl X "enumerate") (hm : X.mg "enumerate" = none) (ha : PA X [e] ta) (hs : starEach [e] X.env = [(false, eval e X.env)] := by rfl) :
    PI X (.Tuple elts kk tpos) (.Call (.Name "enumerate" p) [e] [] pos) (iEnumS ta) := by
  refine ⟨fun pins s σ H R I h => ?_⟩
  refine Call_ (ld_blt I hg hm boot_enumerate (PyProof.Rows.callWith_type1 (thn (ha.run pos pins s σ H _ I h) fun us s1 ⟨vs, H1, I1, r1, q1⟩ => ?_) hs rfl))
  obtain ⟨z, ex, q⟩ := q1
  subst ex
  cases r1 with
  | cons r rr =>
    cases rr
    obtain ⟨tz, rfl⟩ := r
    refine call_enum1 (begins_text z tz) True.intro fun h' he hit hk => wpAny_pyIter_enum he ?_
    have I2 : Inv X pins σ H1 { s1 with heap := h' } := I1.kept (t' := s1.toks) hk
    refine ⟨s1.heap.objs.size + 1, [s1.heap.objs.size + 1, s1.heap.objs.size], _, _, H1, rfl, I2, turn_enumS z tz (s1.heap.objs.size + 1) s1.heap.objs.size, ⟨⟨.none, he⟩, ⟨_, hit, rfl, rfl⟩, Nat.succ_ne_self _⟩, fun b hb => ?_, q⟩
    have e' : b = s1.heap.objs.size + 1 ∨ b = s1.heap.objs.size := by simpa using hb
    have hle : s1.heap.objs.size ≤ b := by
      rcases e' with rfl | rfl
      · exact Nat.le_add_right _ _
      · exact Nat.le_refl _
    exact I1.fpOk hle (I1.hok.fresh hle)
theorem rd_iEnumS {ta : TA} {R : It → Hp → Prop} {σ : L2.St} {H : Hp} (h : ta σ H fun vs H1 => ∃ z, vs = [.str z] ∧ R (IteS z) H1) : iEnumS ta σ H R := h
section
variable {K : PySem.W.Frag} {σ : L2.St} {H : Hp} {Q : VK} {tt : TT} {te : TE} {vs : List Nat} {j1 j2 k : Nat} {σx : V → V → L2.St} {a b : Addr} {n : Nat} {px py : Nat → V} {f : Nat → Bool} {g : Nat → V} {J : It}
theorem lc_enumS {z : Str} (hk : k = 2) (hz : z.cps.size ≤ 40000) (hσ : ∀ x y, ((wipe σ vs).set j1 (some x)).set j2 (some y) = σx x y) (hw : ∀ x y, wipe (σx x y) vs = wipe σ vs)
    (f : Nat → Bool) (g : Nat → V) (hs : ∀ i, i < z.cps.size → TurnP H tt te σx (fun i => .int (i : Nat)) (fun i => .str ⟨#[z.cps.toList.getD i 0]⟩) f g i)
    (hd : ∀ D H', Evl.Ex H H' → H D = none → H' D = some (.lst (((List.range z.cps.size).filter f).map g)) → Q (.ref D) H') : LcR (gTup K k (gCons (gName j1) (gCons (gName j2) gNil))) tt te vs σ Q (IteS z) H :=
  lc_pairs hk hz (fun i H' e hi => hi) (fun H' e => rfl)
    (fun i H1 x H2 e hi hy => by
      obtain ⟨T, c, rfl, hT, rfl, h⟩ := hy
      refine ⟨T, rfl, hT, ?_⟩
      show _ = upd H1 T (.tup [.int (i : Nat), .str ⟨#[z.cps.toList.getD i 0]⟩])
      have e : z.cps.toList.getD i 0 = c := by
        rw [List.getD_eq_getElem?_getD, Array.getElem?_toList, h] <;> rfl
      rw [e]) hσ hw hs hd
end

/-! ### list of a dict with ints for keys -/
def KeysI (kvs : List (Key × V)) (ks : List Int) : Prop := kvs.map (·.1) = ks.map Sum.inl
def rListD : List V → Hp → VK → Prop := fun xs H Q => ∃ (a : Addr) (kvs : List (Key × V)) (ks : List Int), xs = [.ref a] ∧ Rd H a (.dK kvs) ∧ KeysI kvs ks ∧ ∀ p : Addr, H p = none → Q (.ref p) (upd H p (.lst (ks.map V.int)))
theorem c_listD {X : Cx} (hcalm : X.calm = true) : CallR X (.type "list") rListD := by
  intro pins s σ H xs us Q I r q
  obtain ⟨a, kvs, ks, ex, hd, hks, q⟩ := q
  subst ex
  obtain ⟨u, eu, rx⟩ := vals1 r
  subst eu
  cases rx
  obtain ⟨z, lo, vs, rel, dd⟩ := dk_rd I.hok hd
  obtain ⟨ep, hat⟩ := dd.dictAt
  have hkeys : vs.map (·.1) = ks.map Sum.inl := rel.keys.symm.trans hks
  have hl : vs.length = ks.length := by
    have e := congrArg List.length hkeys
    rw [List.length_map, List.length_map] at e
    exact e
  have h16 : vs.length ≤ sizeLine := by
    rw [← rel.length]
    exact z
  refine PySem.W.kdl_call (PySem.W.kdl_dict (knd := mixKind X.prog X.w) (kvs := vs) (ep := ep) lo) (I.ok.hd hcalm) hat h16 fun h' tk acc c' hk hS hacc => ?_
  have hal : acc.toList.length = ks.length := by rw [Array.length_toList, hacc.1, hl]
  have hI : IntsAre acc.toList ks := ints_each hal fun j v e => by
    obtain ⟨k, x, e1, e2⟩ := hacc.2 j v (by rw [← Array.getElem?_toList]; exact e)
    have e3 : (vs.map (·.1))[j]? = some k := by rw [List.getElem?_map, e1]; rfl
    rw [hkeys, List.getElem?_map] at e3
    cases e4 : ks[j]? with
    | none => rw [e4] at e3; cases e3
    | some y =>
      rw [e4] at e3
      have e5 : Sum.inl y = k := Option.some.inj e3
      subst e5
      rcases keyIs_shape (show keyIs (Sum.inl y) v = true from e2) with ⟨i, t, ek, ev⟩ | ⟨z, t, ek, ev⟩
      · cases ek
        exact ⟨y, t, rfl, ev⟩
      · cases ek
  refine ⟨.ref s.heap.objs.size, upd H s.heap.objs.size (.lst (ks.map V.int)), I.laid (t' := tk) hk (Nat.le_refl _)
    (show ObjOk X.prog X.w _ _ _ (.lst (ks.map V.int)) from ⟨by rw [List.length_map, ← hl]; exact h16, acc.toList, c', vals_of_ints hI, by rw [Array.toArray_toList]; exact hS⟩), rfl, q _ (I.hok.fresh (Nat.le_refl _))⟩
theorem rd_listD {H : Hp} {Q : VK} {a : Addr} {kvs : List (Key × V)} {ks : List Int} (h : H a = some (.dK kvs)) (hk : KeysI kvs ks) (q : ∀ p : Addr, H p = none → Q (.ref p) (upd H p (.lst (ks.map V.int)))) : rListD [.ref a] H Q := ⟨a, kvs, ks, rfl, .inl h, hk, q⟩

/-! ### keys of a dict -/
theorem rd_din {ty td : TE} {σ : L2.St} {H : Hp} {Q : VK} (h : ty σ H fun y H1 => td σ H1 fun x H2 => ∃ a o, x = .ref a ∧ DGet H2 a y o ∧ Q (.bl o.isSome) H2) : tDIn ty td σ H Q := h
theorem rd_dnotin {ty td : TE} {σ : L2.St} {H : Hp} {Q : VK} (h : ty σ H fun y H1 => td σ H1 fun x H2 => ∃ a o, x = .ref a ∧ DGet H2 a y o ∧ Q (.bl (!o.isSome)) H2) : tDNotIn ty td σ H Q := h
theorem val_some {kvs : List (Key × V)} {ks : List Int} {x : Int} (h : KeysI kvs ks) : (valV kvs (Sum.inl x)).isSome = decide (x ∈ ks) := by
  unfold valV
  rw [Option.isSome_map]
  have key : (kvs.find? fun kv => decide (kv.1 = Sum.inl x)).isSome = true ↔ x ∈ ks := by
    rw [List.find?_isSome]
    constructor
    · rintro ⟨kv, hm, e⟩
      have e2 : kv.1 = Sum.inl x := of_decide_eq_true e
      have h1 : kv.1 ∈ ks.map Sum.inl := h ▸ List.mem_map_of_mem hm
      obtain ⟨y, hy, e3⟩ := List.mem_map.mp h1
      rw [e2] at e3
      cases e3
      exact hy
    · intro hx
      have h1 : (Sum.inl x : Key) ∈ kvs.map (·.1) := h ▸ List.mem_map_of_mem hx
      obtain ⟨kv, hm, e⟩ := List.mem_map.mp h1
      exact ⟨kv, hm, decide_eq_true e⟩
  by_cases c : x ∈ ks
  · rw [decide_eq_true c]
    exact key.mpr c
  · rw [decide_eq_false c]
    cases e : (kvs.find? fun kv => decide (kv.1 = Sum.inl x)).isSome with
    | false => rfl
    | true => exact absurd (key.mp e) c
theorem KeysI.nil : KeysI [] [] := rfl
theorem KeysI.len {kvs : List (Key × V)} {ks : List Int} (h : KeysI kvs ks) : kvs.length = ks.length := by
  have e := congrArg List.length h
  rw [List.length_map, List.length_map] at e
  exact e
/-- what stands among the keys when x is put -/
def putI (ks : List Int) (x : Int) : List Int := if x ∈ ks then ks else ks ++ [x]
theorem putI_mem {ks : List Int} {x y : Int} : y ∈ putI ks x ↔ y ∈ ks ∨ y = x := by
  unfold putI
  by_cases c : x ∈ ks
  · rw [if_pos c]
    exact ⟨.inl, fun h => h.elim id fun e => e ▸ c⟩
  · rw [if_neg c, List.mem_append, List.mem_singleton]
theorem putI_nodup {ks : List Int} {x : Int} (h : ks.Nodup) : (putI ks x).Nodup := by
  unfold putI
  by_cases c : x ∈ ks
  · rw [if_pos c]
    exact h
  · rw [if_neg c, List.nodup_append]
    exact ⟨h, by simp, fun a ha b hb => by rw [List.mem_singleton.mp hb]; exact fun q => c (q ▸ ha)⟩
theorem KeysI.put {kvs : List (Key × V)} {ks : List Int} (h : KeysI kvs ks) (x : Int) (v : V) : KeysI (putK kvs (Sum.inl x) v) (putI ks x) := by
  unfold KeysI
  rw [keys_put]
  have e : ((kvs.any fun kv => decide (kv.1 = Sum.inl x)) = true) ↔ x ∈ ks := by
    rw [any_key, h]
    constructor
    · intro hm
      obtain ⟨y, hy, e⟩ := List.mem_map.mp hm
      cases e
      exact hy
    · exact fun hx => List.mem_map_of_mem hx
  unfold putI
  by_cases c : x ∈ ks
  · rw [if_pos (e.mpr c), if_pos c]
    exact h
  · rw [if_neg fun q => c (e.mp q), if_neg c, List.map_append, h] <;> rfl
theorem KeysI.get {kvs : List (Key × V)} {ks : List Int} {i : Nat} {k : Key} {v : V} (h : KeysI kvs ks) (e : kvs[i]? = some (k, v)) : ∃ x, k = Sum.inl x ∧ ks[i]? = some x := by
  have e1 : (kvs.map (·.1))[i]? = some k := by rw [List.getElem?_map, e] <;> rfl
  rw [h, List.getElem?_map] at e1
  obtain ⟨x, hx, e2⟩ := Option.map_eq_some_iff.mp e1
  exact ⟨x, e2.symm, hx⟩

/-! ### a dict made of another one's keys -/
theorem rd_lockE {t : TE} {σ : L2.St} {H : Hp} {Q : VK} (h : ∃ d u, H d = some u ∧ Mut (some u) ∧ ∀ od, t σ (upd H d (.frz od u)) fun v H' => H' d = some (.frz od u) ∧ Q v (upd H' d u)) : tLockE t σ H Q := h
theorem rd_iKeys {td : TE} {σ : L2.St} {H : Hp} {R : It → Hp → Prop} (h : td σ H fun x H1 => ∃ d o, x = .ref d ∧ ((∃ kvs, H1 d = some (.frz o (.dK kvs)) ∧ R (Itk d o kvs) H1) ∨ ∃ kvs, H1 d = some (.frz o (.dT kvs)) ∧ R (Itkt d o kvs) H1)) : iKeys td σ H R := h
section
variable {σ : L2.St} {H : Hp} {Q : VK} {tt : TT} {tk tv : TE} {vs : List Nat} {j : Nat} {σx : V → L2.St} {d : Addr} {od : Obj} {kvs : List (Key × V)} {ks : List Int}
abbrev TurnK (H : Hp) (tt : TT) (tk tv : TE) (σx : V → L2.St) (f : Int → Bool) (x : Int) : Prop :=
  ∀ (H' : Hp) (N : V → V → Hp → Prop) (S : Hp → Prop), Evl.Ex H H' → (f x = true → ∀ v H3, Evl.Ex H' H3 → N (.int x) v H3) → (f x = false → ∀ H3, Evl.Ex H' H3 → S H3) →
    tt (σx (.int x)) H' fun b H2 => if b = true then tk (σx (.int x)) H2 fun y H4 => tv (σx (.int x)) H4 fun z H5 => N y z H5 else S H2
/-- {k: .. for k in d if f k}: the new dict has the keys that f lets -/
theorem dc_keys (f : Int → Bool) (hd : H d = some (.frz od (.dK kvs))) (hk : KeysI kvs ks) (hz : ks.length ≤ 1000) (hn : ks.Nodup) (hσ : ∀ x, (wipe σ vs).set j (some x) = σx x) (hw : ∀ x, wipe (σx x) vs = wipe σ vs)
    (hs : ∀ x ∈ ks, TurnK H tt tk tv σx f x)
    (hq : ∀ D kvs' H', Evl.Ex H H' → H D = none → H' D = some (.dK kvs') → KeysI kvs' (ks.filter f) → Q (.ref D) H') : DcR (gName j) tt tk tv vs σ Q (Itk d od kvs) H := fun D hD => by
  have hl := hk.len
  refine ⟨fun i m H' => i + m = kvs.length ∧ Evl.Ex H H' ∧ ∃ kvs', H' D = some (.dK kvs') ∧ KeysI kvs' ((ks.take i).filter f), ⟨kvs.length, by omega, Evl.Ex.new hD, [], upd_same, rfl⟩, fun i m H' hW => ?_⟩
  obtain ⟨em, e, kvs', ed, hk'⟩ := hW
  by_cases hi : i < kvs.length
  · refine .inr ⟨⟨e _ _ hd, hi⟩, fun H3 => Evl.Ex H H3 ∧ ∃ kvs', H3 D = some (.dK kvs') ∧ KeysI kvs' ((ks.take (i + 1)).filter f), fun H3 h3 => ⟨m - 1, by omega, by omega, h3⟩, fun x H2 hy => ?_⟩
    obtain ⟨rfl, k, v, hkv, rfl⟩ := hy
    obtain ⟨y, rfl, hy⟩ := hk.get hkv
    show gName j (.int y) (wipe σ vs) H2 _
    rw [show gName j (.int y) (wipe σ vs) H2 = fun N => N (σx (.int y)) H2 from funext fun N => by rw [← hσ (.int y)] <;> rfl]
    have hm : y ∈ ks := List.mem_of_getElem? hy
    have ht : ks.take (i + 1) = ks.take i ++ [y] := by rw [List.take_add_one, hy] <;> rfl
    have hny : y ∉ (ks.take i).filter f := fun q => by
      have h1 := (List.mem_filter.mp q).1
      have h2 : (ks.take (i + 1)).Nodup := hn.sublist (List.take_sublist _ _)
      rw [ht, List.nodup_append] at h2
      exact h2.2.2 y h1 y (List.mem_singleton.mpr rfl) rfl
    have hlen : kvs'.length ≤ 1000 := by
      rw [hk'.len]
      have h1 := List.length_filter_le f (ks.take i)
      have h2 := List.length_take_le i ks
      have h3 : (ks.take i).length ≤ ks.length := by rw [List.length_take]; omega
      omega
    refine ⟨hw _, hs y hm H2 (fun yv z H5 => ∃ kvs k, yv = kV k ∧ H5 D = some (.dK kvs) ∧ kvs.length < sizeLine ∧ (Evl.Ex H (upd H5 D (.dK (putK kvs k z))) ∧ ∃ kvs', (upd H5 D (.dK (putK kvs k z))) D = some (.dK kvs') ∧ KeysI kvs' ((ks.take (i + 1)).filter f)))
      (fun H3 => Evl.Ex H H3 ∧ ∃ kvs', H3 D = some (.dK kvs') ∧ KeysI kvs' ((ks.take (i + 1)).filter f)) e (fun hf v H3 e3 => ?_) fun hf H3 e3 => ?_⟩
    · refine ⟨kvs', Sum.inl y, rfl, e3 _ _ ed, by rw [sizeLine_eq]; omega, Evl.Ex.mut (e.trans e3) hD, _, upd_same, ?_⟩
      have h1 := hk'.put y v
      unfold putI at h1
      rw [if_neg hny] at h1
      rw [ht, List.filter_append, List.filter_cons_of_pos hf, List.filter_nil]
      exact h1
    · refine ⟨e.trans e3, kvs', e3 _ _ ed, ?_⟩
      rw [ht, List.filter_append, List.filter_cons_of_neg (by rw [hf]; decide), List.filter_nil, List.append_nil]
      exact hk'
  · have hik : i = kvs.length := by omega
    subst hik
    rw [hl, List.take_of_length_le (Nat.le_refl _)] at hk'
    exact .inl ⟨⟨e _ _ hd, Nat.le_refl _⟩, hq D kvs' H' e hD ed hk'⟩
end
/-! ### triples -/
theorem rd_gtup3 {K : PySem.W.Frag} {σ σ' : L2.St} {H : Hp} {p : Addr} {x y z : V} {n i j k : Nat} {N : L2.St → Hp → Prop} (s : SqT K H p [x, y, z]) (hn : n = 3) (hs : ((σ.set i (some x)).set j (some y)).set k (some z) = σ') (h : N σ' H) :
    gTup K n (gCons (gName i) (gCons (gName j) (gCons (gName k) gNil))) (.ref p) σ H N := ⟨p, [x, y, z], rfl, s, hn.symm, x, [y, z], rfl, y, [z], rfl, z, [], rfl, rfl, by subst hs; exact h⟩
theorem rd_lockS {t : TS} {D : Ends} {σ : L2.St} {H : Hp} (h : tLock t D σ H) : tLock t D σ H := h
end Ea
set_option Elab.async false
set_option linter.all false
set_option maxRecDepth 100000
set_option maxHeartbeats 400000
/-! Comprehensions over rows of data: some left out, each turned into a row. -/
namespace Ea
open PySem PySem.Spec PyProof.Rows L2
theorem pairw_len {α β : Type} {R : α → β → Prop} : ∀ {l : List α} {m : List β}, Paired R l m → l.length = m.length
  | _, _, .nil => rfl
  | _, _, .cons _ t => congrArg (· + 1) (pairw_len t)
section
variable {K : PySem.W.Frag} {σ : L2.St} {H : Hp} {Q : VK} {tt : TT} {te : TE} {vs : List Nat} {j : Nat} {σx : V → L2.St} {a : Addr} {xs : List V} {ρ : Type} {F : ρ → PyData} {rs : List ρ} {f : ρ → Bool} {g : ρ → ρ}
theorem dpAll_at : ∀ {xs : List V} {ds : List PyData} {i : Nat} {x : V}, DpAll K H xs ds → xs[i]? = some x → ∃ d, ds[i]? = some d ∧ Dp K H x d
  | _, _, 0, x, .cons h _, e => by
    obtain rfl : _ = x := Option.some.inj e
    exact ⟨_, rfl, h⟩
  | _, _, i + 1, x, .cons _ h, e => dpAll_at (i := i) h e
  | _, _, i, _, .nil, e => by simp at e
theorem dpAll_size : ∀ {xs : List V} {ds : List PyData}, DpAll K H xs ds → xs.length = ds.length
  | _, _, .nil => rfl
  | _, _, .cons _ h => congrArg (· + 1) (dpAll_size h)
theorem dpAll_cat : ∀ {xs ys : List V} {ds es : List PyData}, DpAll K H xs ds → DpAll K H ys es → DpAll K H (xs ++ ys) (ds ++ es)
  | _, _, _, _, .nil, h => h
  | _, _, _, _, .cons h t, h2 => .cons h (dpAll_cat t h2)
/-- a turn over a row of data -/
abbrev TurnR (K : PySem.W.Frag) (H : Hp) (tt : TT) (te : TE) (σx : V → L2.St) (F : ρ → PyData) (f : ρ → Bool) (g : ρ → ρ) (r : ρ) : Prop :=
  ∀ (v : V) (H' : Hp) (N : VK) (S : Hp → Prop), Evl.Ex H H' → Dp K H' v (F r) → (f r = true → ∀ v' H3, Evl.Ex H' H3 → Dp K H3 v' (F (g r)) → N v' H3) → (f r = false → ∀ H3, Evl.Ex H' H3 → S H3) →
    tt (σx v) H' fun b H2 => if b = true then te (σx v) H2 N else S H2
def Cr (K : PySem.W.Frag) (H : Hp) (rs : List ρ) (F : ρ → PyData) (f : ρ → Bool) (g : ρ → ρ) (D : Addr) (i : Nat) (H' : Hp) : Prop :=
  H D = none ∧ Evl.Ex H H' ∧ ∃ acc, H' D = some (.lst acc) ∧ DpAll K H' acc ((((rs.take i).filter f).map g).map F)
theorem cr_turn {D : Addr} {i : Nat} {r : ρ} {v : V} {H' : Hp} (hF : ∀ r, noL (F r) = true) (hi : rs[i]? = some r) (hz : rs.length ≤ 40000) (ht : TurnR K H tt te σx F f g r) (hv : Dp K H v (F r)) (p : Cr K H rs F f g D i H') :
    tt (σx v) H' fun b H3 => if b = true then te (σx v) H3 fun y H4 => ∃ acc, H4 D = some (.lst acc) ∧ acc.length < sizeLine ∧ Cr K H rs F f g D (i + 1) (upd H4 D (.lst (acc ++ [y]))) else Cr K H rs F f g D (i + 1) H3 := by
  obtain ⟨e, ex, acc, ea, hd⟩ := p
  have hl : acc.length < 100000 := by
    have h0 := dpAll_size hd
    rw [List.length_map, List.length_map] at h0
    have h1 := List.length_filter_le f (rs.take i)
    have h3 := List.length_take (i := i) (l := rs)
    omega
  refine ht v H' _ _ ex (dp_ex ex _ _ hv) (fun hf v' H3 e3 hv' => ?_) fun hf H3 e3 => ?_
  · have eD := e3 D _ ea
    refine ⟨acc, eD, Evl.sz_lt hl, e, Evl.Ex.mut (ex.trans e3) e, acc ++ [v'], upd_same, ?_⟩
    have : ((some r).toList.filter f) = [r] := by simp [hf]
    rw [List.take_add_one, hi, List.filter_append, List.map_append, List.map_append, this]
    have hn : noLs (((((rs.take i).filter f).map g).map F) ++ [F (g r)]) = true := noLs_all fun d h => by
      rcases List.mem_append.mp h with h | h
      · obtain ⟨q, _, rfl⟩ := List.mem_map.mp h
        exact hF q
      · rw [List.mem_singleton.mp h]
        exact hF _
    exact dps_mono (fun _ _ t => tup_upd eD lst_not t) _ _ hn (dpAll_cat (dpAll_ex e3 _ _ hd) (.cons hv' .nil))
  · refine ⟨e, ex.trans e3, acc, e3 D _ ea, ?_⟩
    have : ((some r).toList.filter f) = [] := by simp [hf]
    rw [List.take_add_one, hi, List.filter_append, this, List.append_nil]
    exact dpAll_ex e3 _ _ hd
theorem lc_dpL (hF : ∀ r, noL (F r) = true) (f : ρ → Bool) (g : ρ → ρ) (hx : SqL K H a xs) (hd : DpAll K H xs (rs.map F)) (hz : rs.length ≤ 40000) (hσ : ∀ x, (wipe σ vs).set j (some x) = σx x) (hw : ∀ x, wipe (σx x) vs = wipe σ vs)
    (hs : ∀ r ∈ rs, TurnR K H tt te σx F f g r)
    (hq : ∀ D H' ys, Evl.Ex H H' → H D = none → H' D = some (.lst ys) → DpAll K H' ys (((rs.filter f).map g).map F) → Q (.ref D) H') : LcR (gName j) tt te vs σ Q (Itl K a) H := fun D hn =>
  lc_list (xs := xs) (Cr K H rs F f g D) ⟨hn, Evl.Ex.new hn, [], upd_same, .nil⟩ (fun i H' _ ⟨_, ex, _⟩ => Evl.ex_l ex hx) (fun i x H' hi p => by
    obtain ⟨d, h1, h2⟩ := dpAll_at hd hi
    rw [List.getElem?_map] at h1
    obtain ⟨r, hr, rfl⟩ := Option.map_eq_some_iff.mp h1
    rw [show gName j x (wipe σ vs) H' = fun N => N (σx x) H' from funext fun N => by rw [← hσ x] <;> rfl]
    exact ⟨hw _, cr_turn hF hr hz (hs r (List.mem_of_getElem? hr)) h2 p⟩) fun H' p => by
    obtain ⟨e, ex, acc, ea, hp⟩ := p
    have lx := dpAll_size hd
    rw [List.length_map] at lx
    rw [lx, List.take_of_length_le (Nat.le_refl _)] at hp
    exact hq D H' acc ex e ea hp
theorem lc_dpT (hF : ∀ r, noL (F r) = true) (f : ρ → Bool) (g : ρ → ρ) (hx : SqT K H a xs) (hd : DpAll K H xs (rs.map F)) (hz : rs.length ≤ 40000) (hσ : ∀ x, (wipe σ vs).set j (some x) = σx x) (hw : ∀ x, wipe (σx x) vs = wipe σ vs)
    (hs : ∀ r ∈ rs, TurnR K H tt te σx F f g r)
    (hq : ∀ D H' ys, Evl.Ex H H' → H D = none → H' D = some (.lst ys) → DpAll K H' ys (((rs.filter f).map g).map F) → Q (.ref D) H') : LcR (gName j) tt te vs σ Q (Itt K a) H := fun D hn =>
  lc_tup (xs := xs) (Cr K H rs F f g D) ⟨hn, Evl.Ex.new hn, [], upd_same, .nil⟩ (fun i H' _ ⟨_, ex, _⟩ => Evl.ex_t ex hx) (fun i x H' hi p => by
    obtain ⟨d, h1, h2⟩ := dpAll_at hd hi
    rw [List.getElem?_map] at h1
    obtain ⟨r, hr, rfl⟩ := Option.map_eq_some_iff.mp h1
    rw [show gName j x (wipe σ vs) H' = fun N => N (σx x) H' from funext fun N => by rw [← hσ x] <;> rfl]
    exact ⟨hw _, cr_turn hF hr hz (hs r (List.mem_of_getElem? hr)) h2 p⟩) fun H' p => by
    obtain ⟨e, ex, acc, ea, hp⟩ := p
    have lx := dpAll_size hd
    rw [List.length_map] at lx
    rw [lx, List.take_of_length_le (Nat.le_refl _)] at hp
    exact hq D H' acc ex e ea hp
end
end Ea
set_option Elab.async false
set_option linter.all false
set_option maxRecDepth 100000
set_option maxHeartbeats 400000
/-! A text turned round. -/
namespace Ea
open PySem PySem.Spec PyProof PyProof.Rows L2
theorem fm_congr {α β : Type} {f g : α → Option β} : ∀ {l : List α}, (∀ x ∈ l, f x = g x) → l.filterMap f = l.filterMap g
  | [], _ => rfl
  | x :: t, h => by
    rw [List.filterMap_cons, List.filterMap_cons, h x List.mem_cons_self, fm_congr fun y hy => h y (List.mem_cons_of_mem _ hy)]
theorem rev_picked (L : List Nat) : (List.range L.length).filterMap (fun k => L[L.length - 1 - k]?) = L.reverse := by
  have e : (List.range L.length).filterMap (fun k => L[L.length - 1 - k]?) = (List.range L.length).filterMap (fun k => some (L.reverse.getD k 0)) := by
    refine fm_congr fun k hk => ?_
    have hk := List.mem_range.mp hk
    rw [List.getElem?_eq_getElem (by omega), List.getD_eq_getElem?_getD, List.getElem?_eq_getElem (by rw [List.length_reverse]; exact hk), Option.getD_some, List.getElem_reverse]
  rw [e, List.filterMap_eq_map']
  refine List.ext_getElem (by simp) fun i h1 h2 => ?_
  rw [List.getElem_map, List.getElem_range, List.getD_eq_getElem?_getD, List.getElem?_eq_getElem h2, Option.getD_some]
def revT (z : Str) : Str := ⟨z.cps.toList.reverse.toArray⟩
theorem revT_length (z : Str) : (revT z).length = z.length := by
  show z.cps.toList.reverse.toArray.size = z.cps.size
  rw [List.size_toArray, List.length_reverse, Array.length_toList]
def tRevS (te : TE) : TE := fun σ H Q => te σ H fun x H1 => ∃ z, x = .str z ∧ z.length ≤ sizeLine ∧ Q (.str (revT z)) H1
theorem pe_revS {X : Cx} {e : Expr} {te : TE} {k : Nat} {p1 p2 p3 pos : Pos} (he : PE X e te) :
    PE X (e.Subscript (Expr.Slice none none (some (Expr.UnaryOp UnaryOp.USub (Expr.Constant (Const.int 1) k p1) p2)) p3) pos) (tRevS te) :=
  ⟨fun pins s σ H Q I h => Subscript_ (thn (he.run pins s σ H _ I h) fun v s1 ⟨x, H1, I1, r1, z, ex, hz, q⟩ => (by
    subst ex
    obtain ⟨t, rfl⟩ := r1
    have hst := po_some (X := X) (e := Expr.UnaryOp UnaryOp.USub (Expr.Constant (Const.int 1) k p1) p2) (pe_un un_neg pe_int)
    refine wpAny_Slice (thn (po_none.run pins s1 σ H1 (fun o H2 => o = none ∧ H2 = H1) I1 ⟨rfl, rfl⟩) fun vl s2 ⟨l, H2, I2, pl, el, e2⟩ => ?_)
    subst el e2
    refine thn (po_none.run pins s2 σ H2 (fun o H3 => o = none ∧ H3 = H2) I2 ⟨rfl, rfl⟩) fun vu s3 ⟨u, H3, I3, pu, eu, e3⟩ => ?_
    subst eu e3
    refine thn (hst.run pins s3 σ H3 (fun o H4 => o = some (-1) ∧ H4 = H3) I3 ?hp) fun vs s4 ⟨st, H4, I4, ps, es, e4⟩ => ?hq
    case hp => exact rd_part (rd_un (rd_c (rd_U (rd_parti ⟨rfl, rfl⟩))))
    case hq =>
    subst es e4
    have I5 := Inv.kept (t' := s4.toks) I4 fun b ob q => Heap.get?_push_of_some { cls := Value.type "slice", data := Data.fields #[vl, vu, vs] } q
    cases pl
    cases pu
    cases ps with
    | int _ ts =>
    refine tail_any (T := "str") (id := "str.__getitem__") ?ht ?hk ?hg rfl
    case ht => exact rfl
    case hk => exact F.slot_str_getitem.lookup
    case hg =>
    refine wpAny_getItem_str_slice (l := none) (u := none) (st := some (-1, ts)) ?hs rfl ?hm
    case hs => exact Heap.IsSliceOf.new s4.heap Value.none Value.none (Value.int (-1) ts)
    case hm =>
    have hc : ¬ (((Option.map (fun x : Int × Tok => x.fst) (some ((-1 : Int), ts))).getD 1 == 1 && (slicePicked z none none (some (-1, ts))).length == z.length) = true) := fun h => by
      have h := (Bool.and_eq_true _ _ |>.mp h).1
      cases h
    have ez : (⟨(List.filterMap (fun i => z.cps[i]?) (slicePicked z none none (some (-1, ts)))).toArray⟩ : Str) = revT z := by
      have e1 : slicePicked z none none (some (-1, ts)) = (List.range z.length).map fun k => z.length - 1 - k := picked_rev z.length
      have e2 : (fun i => z.cps[i]?) = fun i => z.cps.toList[i]? := funext fun i => (Array.getElem?_toList ..).symm
      rw [e1, List.filterMap_map, e2]
      unfold revT
      have := rev_picked z.cps.toList
      have hl : z.cps.toList.length = z.length := rfl
      rw [hl] at this
      rw [← this] <;> rfl
    unfold sliceMade
    rw [if_neg hc, ez]
    exact ⟨by rw [revT_length]; exact hz, .str (revT z), H4, I5.tok _, ⟨_, rfl⟩, q⟩))⟩
theorem rd_revS {te : TE} {σ : L2.St} {H : Hp} {Q : VK} (h : te σ H fun x H1 => ∃ z, x = .str z ∧ z.length ≤ sizeLine ∧ Q (.str (revT z)) H1) : tRevS te σ H Q := h
end Ea
set_option Elab.async false
set_option linter.all false
set_option maxRecDepth 100000
set_option maxHeartbeats 400000
/-! Data of all kinds, dicts too: what it is, shown; a list beside the empty one; a tuple turned round. -/
namespace Ea
open PySem PySem.Spec PyProof PyProof.Rows L2

/-! ### xs != [], whatever stands in xs -/
def rNe0 (K : PySem.W.Frag) : R2 := fun x y H Q => ∃ a b xs, x = .ref a ∧ y = .ref b ∧ SqL K H a xs ∧ SqL K H b [] ∧ Q (.bl (!xs.isEmpty)) H
theorem op_ne0 {X : Cx} {K : PySem.W.Frag} (hK : X.K = K) (hu : X.A.units + 64 < cLine) : OpR X (compareOp .NotEq) (rNe0 K) := by
  subst hK
  intro pins s σ H x y v u Q I rx ry h
  obtain ⟨a, b, xs, rfl, rfl, ha, hb, q⟩ := h
  cases rx
  cases ry
  obtain ⟨its, r, hp, hz⟩ := I.list ha
  obtain ⟨its2, r2, hp2, _⟩ := I.list hb
  cases r2
  have hlen := r.length
  have z : SeqAt.RcNeAt X.A s (.ref a) (.ref b) (!xs.isEmpty) := by
    cases xs with
    | nil =>
      cases r
      exact SeqAt.RcNeAt.lists (e := fun _ => true) hp.isList hp2.isList rfl (by omega) fun j h1 => absurd h1 (Nat.not_lt_zero _)
    | cons x t =>
      refine SeqAt.RcNeAt.lists_lengths hp.isList hp2.isList ?_ (by omega)
      rw [bne_iff_ne]
      simp only [List.size_toArray, List.length_nil, List.length_cons] at hlen ⊢
      omega
  exact z X.prog X.w _ _ ⟨.bl _, H, I, rfl, q⟩
theorem rd_ne0 {K : PySem.W.Frag} {H : Hp} {Q : VK} {a b : Addr} {xs : List V} (ha : SqL K H a xs) (hb : SqL K H b []) (q : Q (.bl (!xs.isEmpty)) H) : rNe0 K (.ref a) (.ref b) H Q := ⟨a, b, xs, rfl, rfl, ha, hb, q⟩

/-! ### a list that is made is not the table of modules -/
def tLstZ (t : TA) : TE := fun σ H Q => t σ H fun xs H1 => xs.length ≤ sizeLine ∧ ∀ p, H1 p = none → p ≠ sysModules → Q (.ref p) (upd H1 p (.lst xs))
theorem pe_lstZ {X : Cx} {es : List Expr} {t : TA} {pos : Pos} (h : PA X es t) : PE X (.List es pos) (tLstZ t) := by
  refine ⟨fun pins s σ H Q I hq => ?_⟩
  refine wpAny_List_spliced (thn (h.run pos pins s σ H _ I hq) fun us s1 ⟨xs, H1, I1, r, z, q⟩ => ⟨by rw [← r.length]; exact z, ?_⟩)
  have hf : H1 s1.heap.objs.size = none := I1.hok.fresh (Nat.le_refl _)
  refine ⟨.ref s1.heap.objs.size, upd H1 s1.heap.objs.size (.lst xs), I1.laid (t' := s1.toks) (fun b u e => Heap.get?_push_of_some _ e) (Nat.le_refl _) ?_, rfl, q _ hf (Nat.ne_of_gt I1.big)⟩
  exact ⟨z, us, 0, r, Heap.get?_push_size _ rfl⟩
theorem rd_lstZ {t : TA} {σ : L2.St} {H : Hp} {Q : VK} (h : t σ H fun xs H1 => xs.length ≤ sizeLine ∧ ∀ p, H1 p = none → p ≠ sysModules → Q (.ref p) (upd H1 p (.lst xs))) : tLstZ t σ H Q := h

/-! ### data with dicts -/
def kD : Key → PyData
  | .inl i => .int i
  | .inr x => .str x
mutual
inductive Dz (K : PySem.W.Frag) (H : Hp) : V → PyData → Prop
  | non : Dz K H .non .none
  | bl (b : Bool) : Dz K H (.bl b) (.bool b)
  | int (i : Int) : Dz K H (.int i) (.int i)
  | str (x : Str) : Dz K H (.str x) (.str x)
  | lst {a : Addr} {xs : List V} {ds : List PyData} : a ≠ sysModules → SqL K H a xs → DzAll K H xs ds → Dz K H (.ref a) (.list ds)
  | tup {a : Addr} {xs : List V} {ds : List PyData} : SqT K H a xs → DzAll K H xs ds → Dz K H (.ref a) (.tuple ds)
  | dic {a : Addr} {kvs : List (Key × Int)} : H a = some (.dK (kvs.map fun kv => (kv.1, V.int kv.2))) → Dz K H (.ref a) (.dict (kvs.map fun kv => (kD kv.1, .int kv.2)))
inductive DzAll (K : PySem.W.Frag) (H : Hp) : List V → List PyData → Prop
  | nil : DzAll K H [] []
  | cons {v : V} {vs : List V} {d : PyData} {ds : List PyData} : Dz K H v d → DzAll K H vs ds → DzAll K H (v :: vs) (d :: ds)
end
theorem key_rel {k : Key} {v : Value} (h : keyIs k v = true) : RelV (kV k) v := by
  rcases keyIs_shape h with ⟨i, t, rfl, rfl⟩ | ⟨x, t, rfl, rfl⟩
  · exact ⟨_, rfl⟩
  · exact ⟨_, rfl⟩
theorem key_reads {h : Heap} {k : Key} {v : Value} (e : keyIs k v = true) : Reads h v (kD k) [] := by
  rcases keyIs_shape e with ⟨i, t, rfl, rfl⟩ | ⟨x, t, rfl, rfl⟩
  · exact Reads.int i t
  · exact Reads.str x t
theorem reads_val {h : Heap} {v u : Value} {i : Int} (e : v = u) (r : RelV (.int i) u) : Reads h v (.int i) [] := by
  obtain ⟨t, r⟩ := r
  rw [e, r]
  exact Reads.int i t
theorem pairs_reads {h : Heap} {P : Program} {w : World} : ∀ (kvs : List (Key × Int)) (es : List DictEntry) (vs : List (Key × Value)), PySem.Pairs (mixKind P w) es vs → KV (kvs.map fun kv => (kv.1, V.int kv.2)) vs →
    ReadsAll h (es.map (·.key)) ((kvs.map fun kv => (kD kv.1, PyData.int kv.2)).map (·.1)) [] ∧ ReadsAll h (es.map (·.val)) ((kvs.map fun kv => (kD kv.1, PyData.int kv.2)).map (·.2)) [] := by
  intro kvs
  induction kvs with
  | nil =>
    intro es vs hp hk
    cases hk
    cases hp
    exact ⟨.nil, .nil⟩
  | cons kv kvs ih =>
    intro es vs hp hk
    cases hk with
    | cons r s =>
      cases hp with
      | cons h1 h2 t =>
        obtain ⟨a, b⟩ := ih _ _ t s
        obtain ⟨r1, r2⟩ := r
        rw [← r1] at h1
        exact ⟨ReadsAll.cons (as := []) (bs := []) (key_reads h1) a, ReadsAll.cons (as := []) (bs := []) (reads_val h2 r2) b⟩
section
variable {X : Cx} {pins : List (Addr × Obj)} {σ : L2.St} {H : Hp} {s : Shared}
mutual
theorem Dz.reads (I : Inv X pins σ H s) : ∀ (d : PyData) (v : V) (u : Value), Dz X.K H v d → RelV v u → ∃ as, Reads s.heap u d as ∧ sysModules ∉ as
  | .none, _, _, h, r => by
    cases h
    cases r
    exact ⟨_, Reads.none, nofun⟩
  | .bool b, _, _, h, r => by
    cases h
    cases r
    exact ⟨_, Reads.bool b, nofun⟩
  | .int i, _, _, h, r => by
    cases h
    obtain ⟨t, rfl⟩ := r
    exact ⟨_, Reads.int i t, nofun⟩
  | .str x, _, _, h, r => by
    cases h
    obtain ⟨t, rfl⟩ := r
    exact ⟨_, Reads.str x t, nofun⟩
  | .list ds, _, _, h, r => by
    cases h with
    | lst hn hs ha =>
      cases r
      obtain ⟨its, rv, ⟨o, n, ho, hc, _, hd⟩, _⟩ := I.list hs
      obtain ⟨as, hr, hm⟩ := Dz.readsAll I ds _ its ha rv
      exact ⟨_, Reads.list ho hc hd hr, fun z => (List.mem_cons.mp z).elim (fun e => hn e.symm) hm⟩
  | .tuple ds, _, _, h, r => by
    cases h with
    | tup hs ha =>
      cases r
      obtain ⟨its, rv, ⟨o, ho, hc, n, hd⟩, _⟩ := I.tuple hs
      obtain ⟨as, hr, hm⟩ := Dz.readsAll I ds _ its ha rv
      exact ⟨_, Reads.tuple ho hc hd hr, hm⟩
  | .dict ds, _, _, h, r => by
    cases h with
    | dic hs =>
      cases r
      obtain ⟨_, hn, vs, rel, o, es, ep, h1, h2, h3, _, hp, _⟩ := dk_of I.hok hs
      obtain ⟨z1, z2⟩ := pairs_reads (h := s.heap) _ _ _ hp rel
      refine ⟨_, Reads.dict h1 h2.1 h3 z1 z2, fun z => ?_⟩
      have z : sysModules ∈ [_] := z
      exact (beq_eq_false_iff_ne.mp hn) (List.mem_singleton.mp z).symm
theorem Dz.readsAll (I : Inv X pins σ H s) : ∀ (ds : List PyData) (vs : List V) (us : List Value), DzAll X.K H vs ds → Vals vs us → ∃ as, ReadsAll s.heap us ds as ∧ sysModules ∉ as
  | [], _, _, h, r => by
    cases h
    cases r
    exact ⟨_, ReadsAll.nil, nofun⟩
  | d :: ds, _, _, h, r => by
    cases h with
    | cons h1 h2 =>
      cases r with
      | cons r1 r2 =>
        obtain ⟨as, q1, m1⟩ := Dz.reads I d _ _ h1 r1
        obtain ⟨bs, q2, m2⟩ := Dz.readsAll I ds _ _ h2 r2
        exact ⟨_, ReadsAll.cons q1 q2, fun z => (List.mem_append.mp z).elim m1 m2⟩
end
end
/-- a datum of any kind -/
def Dv (K : PySem.W.Frag) (H : Hp) (v : V) (d : PyData) : Prop := Dp K H v d ∨ Dz K H v d
mutual
theorem Dp.noDict {K : PySem.W.Frag} {H : Hp} : ∀ (d : PyData) (v : V), Dp K H v d → d.hasDict = false
  | .none, _, _ => rfl
  | .bool _, _, _ => rfl
  | .int _, _, _ => rfl
  | .str _, _, _ => rfl
  | .list ds, _, h => by
    cases h with
    | lst _ ha => exact Dp.noDictAll ds _ ha
  | .tuple ds, _, h => by
    cases h with
    | tup _ ha => exact Dp.noDictAll ds _ ha
  | .dict _, _, h => by cases h
theorem Dp.noDictAll {K : PySem.W.Frag} {H : Hp} : ∀ (ds : List PyData) (vs : List V), DpAll K H vs ds → PyData.hasDictAll ds = false
  | [], _, _ => rfl
  | d :: ds, _, h => by
    cases h with
    | cons h1 h2 =>
      show (d.hasDict || PyData.hasDictAll ds) = false
      rw [Dp.noDict d _ h1, Dp.noDictAll ds _ h2] <;> rfl
end
theorem Dv.reads {X : Cx} {pins : List (Addr × Obj)} {σ : L2.St} {H : Hp} {s : Shared} (I : Inv X pins σ H s) {d : PyData} {v : V} {u : Value} (h : Dv X.K H v d) (r : RelV v u) :
    ∃ as, Reads s.heap u d as ∧ (d.hasDict = true → sysModules ∉ as) := by
  rcases h with h | h
  · obtain ⟨as, q⟩ := Dp.reads I d v u h r
    exact ⟨as, q, fun z => absurd z (by rw [Dp.noDict d v h]; decide)⟩
  · obtain ⟨as, q, m⟩ := Dz.reads I d v u h r
    exact ⟨as, q, fun _ => m⟩
/-! ### data are shown -/
structure Fair (n k : Nat) (d : PyData) : Prop where
  bulk : d.bulk ≤ n
  depth : d.depth ≤ k
  show_ : d.showable = true
  short : d.leavesShort 40 = true
structure FairAll (n k : Nat) (ds : List PyData) : Prop where
  bulk : PyData.bulkAll ds ≤ n
  depth : PyData.depthAll ds ≤ k
  show_ : PyData.showableAll ds = true
  short : PyData.leavesShortAll 40 ds = true
theorem Fair.mono {n k m j : Nat} {d : PyData} (h : Fair n k d) (a : n ≤ m) (b : k ≤ j) : Fair m j d := ⟨Nat.le_trans h.bulk a, Nat.le_trans h.depth b, h.show_, h.short⟩
theorem FairAll.mono {n k m j : Nat} {d : List PyData} (h : FairAll n k d) (a : n ≤ m) (b : k ≤ j) : FairAll m j d := ⟨Nat.le_trans h.bulk a, Nat.le_trans h.depth b, h.show_, h.short⟩
theorem FairAll.nil {k : Nat} : FairAll 0 k [] := ⟨Nat.le_refl _, Nat.zero_le _, rfl, rfl⟩
theorem FairAll.cons {n m k : Nat} {d : PyData} {ds : List PyData} (h : Fair n k d) (hs : FairAll m k ds) : FairAll (n + 1 + m) k (d :: ds) := by
  refine ⟨?_, ?_, ?_, ?_⟩
  · show d.bulk + 1 + PyData.bulkAll ds ≤ _
    have := h.bulk
    have := hs.bulk
    omega
  · show max d.depth (PyData.depthAll ds) ≤ _
    have := h.depth
    have := hs.depth
    omega
  · show (d.showable && PyData.showableAll ds) = true
    rw [h.show_, hs.show_] <;> rfl
  · show (d.leavesShort 40 && PyData.leavesShortAll 40 ds) = true
    rw [h.short, hs.short] <;> rfl
theorem Fair.tup {n k : Nat} {ds : List PyData} (h : FairAll n k ds) : Fair n (k + 1) (.tuple ds) := ⟨h.bulk, Nat.succ_le_succ h.depth, h.show_, h.short⟩
theorem Fair.lst {n k : Nat} {ds : List PyData} (h : FairAll n k ds) : Fair n (k + 1) (.list ds) := ⟨h.bulk, Nat.succ_le_succ h.depth, h.show_, h.short⟩
mutual
theorem short_mono : ∀ d : PyData, d.leavesShort 13 = true → d.leavesShort 40 = true
  | .none, _ => rfl
  | .bool _, _ => rfl
  | .int i, h => decide_eq_true (Nat.le_trans (of_decide_eq_true h) (by decide))
  | .str _, h => h
  | .list xs, h => short_monoAll xs h
  | .tuple xs, h => short_monoAll xs h
  | .dict xs, h => short_monoKv xs h
theorem short_monoAll : ∀ ds : List PyData, PyData.leavesShortAll 13 ds = true → PyData.leavesShortAll 40 ds = true
  | [], _ => rfl
  | d :: ds, h => by
    have h : (d.leavesShort 13 && PyData.leavesShortAll 13 ds) = true := h
    rw [Bool.and_eq_true] at h
    show (d.leavesShort 40 && PyData.leavesShortAll 40 ds) = true
    rw [short_mono d h.1, short_monoAll ds h.2] <;> rfl
theorem short_monoKv : ∀ ds : List (PyData × PyData), PyData.leavesShortKv 13 ds = true → PyData.leavesShortKv 40 ds = true
  | [], _ => rfl
  | (k, v) :: ds, h => by
    have h : (k.leavesShort 13 && v.leavesShort 13 && PyData.leavesShortKv 13 ds) = true := h
    rw [Bool.and_eq_true, Bool.and_eq_true] at h
    show (k.leavesShort 40 && v.leavesShort 40 && PyData.leavesShortKv 40 ds) = true
    rw [short_mono k h.1.1, short_mono v h.1.2, short_monoKv ds h.2] <;> rfl
end
theorem Nice.fair {n k : Nat} {d : PyData} (h : Nice n k d) : Fair n k d := ⟨h.bulk, h.depth, h.show_, short_mono d h.short⟩
theorem Fair.fits {n k : Nat} {d : PyData} (h : Fair n k d) (hn : n ≤ 2 ^ 18) : d.shown.length ≤ sizeLine := by
  have z := PyData.shown_le_bulk 40 (by decide) d h.short
  have hb := h.bulk
  rw [sizeLine_eq]
  omega
def rReprV (K : PySem.W.Frag) : List V → Hp → VK → Prop := fun xs H Q => ∃ (x : V) (d : PyData), xs = [x] ∧ Dv K H x d ∧ d.showable = true ∧ d.depth ≤ 40 ∧ d.shown.length ≤ sizeLine ∧ Q (.str d.shown) H
theorem c_reprV {X : Cx} {K : PySem.W.Frag} (hK : X.K = K) (hg : X.A.guards = some []) (hu : X.A.units + 64 < cLine) : CallR X (.builtin "repr") (rReprV K) := by
  subst hK
  intro pins s σ H xs us Q I r h
  obtain ⟨x, d, rfl, hd, h1, h4, h5, q⟩ := h
  obtain ⟨u, rfl, ru⟩ := vals1 r
  obtain ⟨as, rd, hm⟩ := hd.reads I ru
  cases rd with
  | none => exact P.repr_of_none ⟨.str _, H, I.tok _, ⟨_, rfl⟩, q⟩
  | bool b => exact P.repr_of_bool ⟨.str _, H, I.tok _, ⟨_, rfl⟩, q⟩
  | int i t => exact P.repr_of_int (of_decide_eq_true h1) ⟨.str _, H, I.tok _, ⟨_, rfl⟩, q⟩
  | str y t => exact P.repr_of_str (hsz := h5) ⟨.str _, H, I.tok _, ⟨_, rfl⟩, q⟩
  | list a b c e => exact repr_of_reads' (.list a b c e) h1 hm hg (by omega) (fun _ _ e => e) (fun h' tk u hk => ⟨.str _, H, I.kept hk, ⟨_, rfl⟩, q⟩) h5
  | tuple a b c e => exact repr_of_reads' (.tuple a b c e) h1 hm hg (by omega) (fun _ _ e => e) (fun h' tk u hk => ⟨.str _, H, I.kept hk, ⟨_, rfl⟩, q⟩) h5
  | dict a b c e f => exact repr_of_reads' (.dict a b c e f) h1 hm hg (by omega) (fun _ _ e => e) (fun h' tk u hk => ⟨.str _, H, I.kept hk, ⟨_, rfl⟩, q⟩) h5
theorem rd_reprV {K : PySem.W.Frag} {H : Hp} {Q : VK} {x : V} {d : PyData} {n k : Nat} (hx : Dv K H x d) (h : Fair n k d) (hn : n ≤ 2 ^ 18) (hk : k ≤ 40) (q : Q (.str d.shown) H) : rReprV K [x] H Q :=
  ⟨x, d, rfl, hx, h.show_, Nat.le_trans h.depth hk, h.fits hn, q⟩
/-! ### of which class a datum is -/
def tyD : PyData → String
  | .none => "NoneType"
  | .bool _ => "bool"
  | .int _ => "int"
  | .str _ => "str"
  | .list _ => "list"
  | .tuple _ => "tuple"
  | .dict _ => "dict"
theorem ty_l {K : PySem.W.Frag} {H : Hp} {a : Addr} {xs : List V} (h : SqL K H a xs) : TyX K H (.ref a) (.type "list") := by
  rcases h with h | ⟨o, _, _, hk, hc, _⟩
  · rcases h with h | ⟨o, h⟩
    · exact .base (.lst h)
    · exact .base (.frz h)
  · exact .kList hk hc
theorem ty_t {K : PySem.W.Frag} {H : Hp} {a : Addr} {xs : List V} (h : SqT K H a xs) : TyX K H (.ref a) (.type "tuple") := by
  rcases h with h | ⟨o, _, _, hk, hc, _⟩
  · rcases h with h | ⟨o, h⟩
    · exact .base (.tup h)
    · exact .fTuple h
  · exact .kTuple hk hc
theorem Dv.ty {K : PySem.W.Frag} {H : Hp} {v : V} {d : PyData} (h : Dv K H v d) : TyX K H v (.type (tyD d)) := by
  rcases h with h | h
  · cases h with
    | non => exact .base .non
    | bl b => exact .base (.bl b)
    | int i => exact .base (.int i)
    | str x => exact .base (.str x)
    | lst h _ => exact ty_l h
    | tup h _ => exact ty_t h
  · cases h with
    | non => exact .base .non
    | bl b => exact .base (.bl b)
    | int i => exact .base (.int i)
    | str x => exact .base (.str x)
    | lst _ h _ => exact ty_l h
    | tup h _ => exact ty_t h
    | dic h => exact .base (.dK h)
theorem c_isi {X : Cx} {K : PySem.W.Frag} (hK : X.K = K) : CallR X (.builtin "isinstance") (rIsi K) := hK ▸ call_isi
/-- isinstance(x, T), T a built-in type -/
def isD (T : String) (d : PyData) : Bool := (kitB (tyD d) T).getD false
theorem rd_isD {K : PySem.W.Frag} {H : Hp} {Q : VK} {v : V} {d : PyData} {T : String} (h : Dv K H v d) (hT : ∀ t ∈ ["NoneType", "bool", "int", "str", "list", "tuple", "dict"], (kitB t T).isSome = true) (q : Q (.bl (isD T d)) H) :
    rIsi K [v, .ty T] H Q := by
  have hs : (kitB (tyD d) T).isSome = true := hT _ (by cases d <;> simp [tyD])
  refine ⟨v, .ty T, .type (tyD d), .type T, isD T d, rfl, .ty T, h.ty, kit_ty ?_, q⟩
  unfold isD
  obtain ⟨b, e⟩ := Option.isSome_iff_exists.mp hs
  rw [e] <;> rfl
/-! ### data stay -/
mutual
theorem dz_ex {K : PySem.W.Frag} {H H' : Hp} (e : Evl.Ex H H') : ∀ (d : PyData) (v : V), Dz K H v d → Dz K H' v d
  | .none, _, h => by
    cases h
    exact .non
  | .bool b, _, h => by
    cases h
    exact .bl b
  | .int i, _, h => by
    cases h
    exact .int i
  | .str x, _, h => by
    cases h
    exact .str x
  | .list ds, _, h => by
    cases h with
    | lst hn hs ha => exact .lst hn (Evl.ex_l e hs) (dzAll_ex e ds _ ha)
  | .tuple ds, _, h => by
    cases h with
    | tup hs ha => exact .tup (Evl.ex_t e hs) (dzAll_ex e ds _ ha)
  | .dict ds, _, h => by
    cases h with
    | dic hs => exact .dic (e _ _ hs)
theorem dzAll_ex {K : PySem.W.Frag} {H H' : Hp} (e : Evl.Ex H H') : ∀ (ds : List PyData) (vs : List V), DzAll K H vs ds → DzAll K H' vs ds
  | [], _, h => by
    cases h
    exact .nil
  | d :: ds, _, h => by
    cases h with
    | cons h1 h2 => exact .cons (dz_ex e d _ h1) (dzAll_ex e ds _ h2)
end
theorem Dv.ex {K : PySem.W.Frag} {H H' : Hp} (e : Evl.Ex H H') {d : PyData} {v : V} (h : Dv K H v d) : Dv K H' v d := h.elim (fun h => .inl (dp_ex e d v h)) fun h => .inr (dz_ex e d v h)
theorem dz_get {K : PySem.W.Frag} {H : Hp} {x : V} : ∀ {xs : List V} {ds : List PyData} {i : Nat}, DzAll K H xs ds → xs[i]? = some x → ∃ d, ds[i]? = some d ∧ Dz K H x d
  | _, _, 0, .cons h _, e => by
    obtain rfl : _ = x := Option.some.inj e
    exact ⟨_, rfl, h⟩
  | _, _, i + 1, .cons _ h, e => dz_get (i := i) h e
  | _, _, i, .nil, e => by simp at e
theorem dz_len {K : PySem.W.Frag} {H : Hp} : ∀ {xs : List V} {ds : List PyData}, DzAll K H xs ds → xs.length = ds.length
  | _, _, .nil => rfl
  | _, _, .cons _ h => congrArg (· + 1) (dz_len h)
theorem dp_get {K : PySem.W.Frag} {H : Hp} {x : V} : ∀ {xs : List V} {ds : List PyData} {i : Nat}, DpAll K H xs ds → xs[i]? = some x → ∃ d, ds[i]? = some d ∧ Dp K H x d
  | _, _, 0, .cons h _, e => by
    obtain rfl : _ = x := Option.some.inj e
    exact ⟨_, rfl, h⟩
  | _, _, i + 1, .cons _ h, e => dp_get (i := i) h e
  | _, _, i, .nil, e => by simp at e
theorem dp_len {K : PySem.W.Frag} {H : Hp} : ∀ {xs : List V} {ds : List PyData}, DpAll K H xs ds → xs.length = ds.length
  | _, _, .nil => rfl
  | _, _, .cons _ h => congrArg (· + 1) (dp_len h)
/-- a tuple of data -/
theorem Dv.tuple {K : PySem.W.Frag} {H : Hp} {v : V} {ds : List PyData} (h : Dv K H v (.tuple ds)) :
    ∃ a xs, v = .ref a ∧ SqT K H a xs ∧ xs.length = ds.length ∧ ∀ (i : Nat) (x : V), xs[i]? = some x → ∃ d, ds[i]? = some d ∧ Dv K H x d := by
  rcases h with h | h
  · cases h with
    | tup hs ha => exact ⟨_, _, rfl, hs, dp_len ha, fun i x e => let ⟨d, h1, h2⟩ := dp_get ha e; ⟨d, h1, .inl h2⟩⟩
  · cases h with
    | tup hs ha => exact ⟨_, _, rfl, hs, dz_len ha, fun i x e => let ⟨d, h1, h2⟩ := dz_get ha e; ⟨d, h1, .inr h2⟩⟩
theorem Dv.int {K : PySem.W.Frag} {H : Hp} {v : V} {i : Int} (h : Dv K H v (.int i)) : v = .int i := by
  rcases h with h | h <;> cases h <;> rfl
theorem dz_ints {K : PySem.W.Frag} {H : Hp} : ∀ (ns : List Int), DzAll K H (ns.map V.int) (dI ns)
  | [] => .nil
  | n :: r => .cons (.int n) (dz_ints r)
theorem dz_app {K : PySem.W.Frag} {H : Hp} : ∀ {xs ys : List V} {ds es : List PyData}, DzAll K H xs ds → DzAll K H ys es → DzAll K H (xs ++ ys) (ds ++ es)
  | _, _, _, _, .nil, h => h
  | _, _, _, _, .cons h t, h2 => .cons h (dz_app t h2)
theorem dp_app {K : PySem.W.Frag} {H : Hp} : ∀ {xs ys : List V} {ds es : List PyData}, DpAll K H xs ds → DpAll K H ys es → DpAll K H (xs ++ ys) (ds ++ es)
  | _, _, _, _, .nil, h => h
  | _, _, _, _, .cons h t, h2 => .cons h (dp_app t h2)
/-! ### t[::-1] -/
theorem rev_pickedV (L : List Value) : (List.range L.length).filterMap (fun k => L[L.length - 1 - k]?) = L.reverse := by
  have e : (List.range L.length).filterMap (fun k => L[L.length - 1 - k]?) = (List.range L.length).filterMap (fun k => some (L.reverse.getD k Value.none)) := by
    refine fm_congr fun k hk => ?_
    have hk := List.mem_range.mp hk
    rw [List.getElem?_eq_getElem (by omega), List.getD_eq_getElem?_getD, List.getElem?_eq_getElem (by rw [List.length_reverse]; exact hk), Option.getD_some, List.getElem_reverse]
  rw [e, List.filterMap_eq_map']
  refine List.ext_getElem (by simp) fun i h1 h2 => ?_
  rw [List.getElem_map, List.getElem_range, List.getD_eq_getElem?_getD, List.getElem?_eq_getElem h2, Option.getD_some]
section
variable {prog : Program} {w : World} {A : Around} {E : Value → Shared → Prop} {s : Shared}
theorem sliceApplied_rev {sl : Addr} {vl vu vs : Value} {n : Nat} {Q : Int × Int × Nat → Shared → Prop} (hs : s.heap.IsSliceOf sl vl vu vs) (pl : IsPart vl none) (pu : IsPart vu none) (ps : IsPart vs (some (-1)))
    (h : Q ((n : Int) - 1, -1, n) s) : wpAny (model prog w) A (Builtin.Slice.sliceApplied (.ref sl) (pure (n : Int))) Q E s := by
  obtain ⟨os, hos, hcs, hds⟩ := id hs
  unfold Builtin.Slice.sliceApplied Builtin.Slice.sliceFields
  refine wpAny_bind (wpAny_bind (wpAny_field hos hds (x := vl) rfl (wpAny_bind (wpAny_field hos hds (x := vu) rfl (wpAny_bind (wpAny_field hos hds (x := vs) rfl (wpAny_pure ?_)))))))
  refine wpAny_bind (HT.slicePart_ ps ?_)
  show wpAny _ _ (if ((-1 : Int) == 0) = true then _ else _) _ _ s
  rw [if_neg (by decide)]
  refine wpAny_bind (HT.slicePart_ pl (wpAny_bind (HT.slicePart_ pu (wpAny_bind (wpAny_pure ?_)))))
  show wpAny _ _ (match Builtin.Slice.sliceAdjust none none (-1) (n : Int) with | (lo, hi) => pure (lo, (-1 : Int), Builtin.Slice.slicePlaces lo hi (-1))) _ _ s
  have e1 : Builtin.Slice.sliceAdjust none none (-1) (n : Int) = ((n : Int) - 1, -1) := rfl
  have e2 : Builtin.Slice.slicePlaces ((n : Int) - 1) (-1) (-1) = n := by
    unfold Builtin.Slice.slicePlaces
    rw [if_neg (by decide)]
    by_cases h0 : (n : Int) - 1 > -1
    · rw [if_pos h0]
      have : -(-1 : Int) = 1 := rfl
      rw [this, Int.ediv_one]
      omega
    · rw [if_neg h0]
      omega
  rw [e1]
  show wpAny _ _ (pure ((n : Int) - 1, (-1 : Int), Builtin.Slice.slicePlaces ((n : Int) - 1) (-1) (-1))) _ _ s
  rw [e2]
  exact wpAny_pure h
theorem getItem_tuple_rev {t sl : Addr} {items : Array Value} {vl vu vs : Value} {Q : Value → Shared → Prop} (ht : IsTup s.heap t items) (hs : s.heap.IsSliceOf sl vl vu vs) (pl : IsPart vl none) (pu : IsPart vu none) (ps : IsPart vs (some (-1)))
    (h : Q (.ref s.heap.objs.size) { s with heap := s.heap.push { cls := .type "tuple", data := .seq items.toList.reverse.toArray } })
    (hsz : items.size ≤ sizeLine) : wpAny (model prog w) A (getItem (.ref t) (.ref sl)) Q E s := by
  have hdrop : sizeOk (.seq items.toList.reverse.toArray) := by
    show items.toList.reverse.toArray.size ≤ sizeLine
    rw [List.size_toArray, List.length_reverse, Array.length_toList]
    exact hsz
  obtain ⟨os, hos, hcs, hds⟩ := id hs
  have hTs : s.TypeIs (.ref sl) "slice" := ⟨os, hos, hcs⟩
  unfold getItem
  try with_reducible refine wpAny_holding ?_
  first | refine wpAny_bind (wpAny_pure ?_) | skip
  refine wpAny_bind (wpAny_sequenceKey ht.typeIs (by decide) ?_)
  refine wpAny_bind (wpAny_callSpecial?_slot (name := Str.ofString "__getitem__") ht.typeIs PyProof.Rows.slot_tuple_getitem
    (wpAny_call_entry PyProof.Rows.slot_tuple_getitem ht.typeIs entry_tuple_getitem ?_ (args_tuple_getitem _ _)))
  show wpAny _ _ (Builtin.Tuple.tupleItemsOf (.ref t) >>= _) _ _ s
  refine wpAny_bind (tupleItemsOf_ ht ?_)
  refine wpAny_bind (wpAny_typeOf hTs ?_)
  rw [if_pos (by decide)]
  refine wpAny_bind (sliceApplied_rev hs pl pu ps ?_)
  have hno : ¬ ((((items.size : Int) - 1) == 0 && (-1 : Int) == 1 && items.size == items.size) = true) := by
    intro z
    have z := (Bool.and_eq_true _ _ |>.mp z).1
    have z := (Bool.and_eq_true _ _ |>.mp z).2
    cases z
  show wpAny _ _ (if (((items.size : Int) - 1) == 0 && (-1 : Int) == 1 && items.size == items.size) = true then _ else _) _ _ s
  have hp : ((List.range items.size).filterMap fun (k : Nat) => items[((items.size : Int) - 1 + (k : Int) * -1).toNat]?).toArray = items.toList.reverse.toArray := by
    congr 1
    rw [← rev_pickedV items.toList, Array.length_toList]
    refine fm_congr fun k hk => ?_
    have hk := List.mem_range.mp hk
    rw [Array.getElem?_toList]
    congr 1
    omega
  rw [if_neg hno, hp]
  first
    | exact wpAny_bind (m := Builtin.Tuple.tupleExact _) (wpAny_newObj_type (wpAny_pure ⟨_, rfl, wpAny_pure h⟩) hdrop)
    | exact wpAny_bind (m := Builtin.Tuple.tupleExact _) (wpAny_newObj_type (wpAny_bind (wpAny_pure (wpAny_pure ⟨_, rfl, wpAny_pure h⟩))) hdrop)
    | exact wpAny_bind (wpAny_bind (m := Builtin.Tuple.tupleExact _) (wpAny_newObj_type (wpAny_pure (wpAny_pure ⟨_, rfl, wpAny_pure h⟩)) hdrop))
    | exact wpAny_bind (wpAny_bind (m := Builtin.Tuple.tupleExact _) (wpAny_newObj_type (wpAny_pure ⟨_, rfl, wpAny_pure h⟩) hdrop))
end
def tRevT (K : PySem.W.Frag) (te : TE) : TE := fun σ H Q => te σ H fun x H1 => ∃ a xs, x = .ref a ∧ SqT K H1 a xs ∧ ∀ p, H1 p = none → Q (.ref p) (upd H1 p (.tup xs.reverse))
theorem pe_revT {X : Cx} {K : PySem.W.Frag} (hK : X.K = K) {e : Expr} {te : TE} {k : Nat} {p1 p2 p3 pos : Pos} (he : PE X e te) :
    PE X (.Subscript e (.Slice none none (some (.UnaryOp .USub (.Constant (.int 1) k p1) p2)) p3) pos) (tRevT K te) := by
  subst hK
  refine ⟨fun pins s σ H Q I h => ?_⟩
  refine Subscript_ (thn (he.run pins s σ H _ I h) fun v s1 ⟨x, H1, I1, r1, q1⟩ => ?_)
  obtain ⟨a, xs, ex, hx, q⟩ := q1
  subst ex
  cases r1
  have hst : PO X (some (.UnaryOp .USub (.Constant (.int 1) k p1) p2)) (tPart (tUn (rU fun i => .int (-i)) (tC (.int 1)))) := po_some (pe_un un_neg pe_int)
  refine wpAny_Slice (thn (po_none.run pins s1 σ H1 (fun o H2 => o = none ∧ H2 = H1) I1 ⟨rfl, rfl⟩) fun vl s2 ⟨l, H2, I2, pl, el, e2⟩ => ?_)
  subst el e2
  refine thn (po_none.run pins s2 σ H2 (fun o H3 => o = none ∧ H3 = H2) I2 ⟨rfl, rfl⟩) fun vu s3 ⟨u, H3, I3, pu, eu, e3⟩ => ?_
  subst eu e3
  refine thn (hst.run pins s3 σ H3 (fun o H4 => o = some (-1) ∧ H4 = H3) I3 ⟨1, rfl, -1, rfl, rfl, rfl⟩) fun vs s4 ⟨o, H4, I4, ps, eo, e4⟩ => ?_
  subst eo e4
  have I5 : Inv X pins σ H4 { s4 with heap := s4.heap.push { cls := .type "slice", data := .fields #[vl, vu, vs] } } := I4.kept (t' := s4.toks) fun b ob q => Heap.get?_push_of_some _ q
  obtain ⟨its, r, ht, hz⟩ := I5.tuple hx
  have hlen := r.length
  show wpAny (model X.prog X.w) X.A (subscriptTail e (.Slice none none (some (.UnaryOp .USub (.Constant (.int 1) k p1) p2)) p3) (.ref a) (.ref s4.heap.objs.size)) (EP X pins σ Q) X.xe { s4 with heap := s4.heap.push { cls := .type "slice", data := .fields #[vl, vu, vs] } }
  refine tail_any (ops := [.ref a, .ref s4.heap.objs.size]) ht.typeIs (PyProof.Rows.slot_tuple_getitem.lookup) ?_ (by with_unfolding_all rfl)
  refine getItem_tuple_rev ht (Heap.IsSliceOf.new _ vl vu vs) pl pu ps ?_ (by rw [List.size_toArray]; omega)
  refine ⟨.ref _, _, I5.laid (t' := s4.toks) (o := .tup xs.reverse) (fun b ob q => Heap.get?_push_of_some _ q) (Nat.le_refl _) ?_, rfl, q _ (I5.hok.fresh (Nat.le_refl _))⟩
  exact ⟨by rw [List.length_reverse]; exact hz, its.reverse, r.reverse, ⟨_, Heap.get?_push_size _ rfl, rfl, 0, rfl⟩⟩
theorem rd_revT {K : PySem.W.Frag} {te : TE} {σ : L2.St} {H : Hp} {Q : VK} (h : te σ H fun x H1 => ∃ a xs, x = .ref a ∧ SqT K H1 a xs ∧ ∀ p, H1 p = none → Q (.ref p) (upd H1 p (.tup xs.reverse))) : tRevT K te σ H Q := h
end Ea
set_option Elab.async false
set_option linter.all false
set_option maxRecDepth 100000
set_option maxHeartbeats 400000
/-! Formulas with quantifiers: what they are as data, their free names, in which worlds they hold. -/
namespace KA
open PySem PySem.Spec PyProof.Rows L2 Ea
inductive Fm where
  | letter (z : Str)
  | no (f : Fm)
  | conn (b : Bool) (fs : List Fm)
  | same (f g : Fm)
  | quan (b : Bool) (z : Str) (f : Fm)
def cw (b : Bool) : Str := if b = true then "and" else "or"
def qw (b : Bool) : Str := if b = true then "each" else "some"
mutual
def dat : Fm → PyData
  | .letter z => .tuple [.str "letter", .str z]
  | .no f => .tuple [.str "not", dat f]
  | .conn b fs => .tuple [.str (cw b), .tuple (dats fs)]
  | .same f g => .tuple [.str "same", dat f, dat g]
  | .quan b z f => .tuple [.str (qw b), .str z, dat f]
def dats : List Fm → List PyData
  | [] => []
  | f :: t => dat f :: dats t
end
mutual
/-- how deep a going through it goes -/
def dp : Fm → Nat
  | .letter _ => 1
  | .no f => dp f + 1
  | .conn _ fs => dps fs + 1
  | .same f g => max (dp f) (dp g) + 1
  | .quan _ _ f => dp f + 1
def dps : List Fm → Nat
  | [] => 0
  | f :: t => max (dp f) (dps t)
end
mutual
def nd : Fm → Nat
  | .letter _ => 1
  | .no f => nd f + 1
  | .conn _ fs => nds fs + 1
  | .same f g => nd f + nd g + 1
  | .quan _ _ f => nd f + 1
def nds : List Fm → Nat
  | [] => 0
  | f :: t => nd f + nds t
end
mutual
/-- the depth of the datum -/
def dt : Fm → Nat
  | .letter _ => 1
  | .no f => dt f + 1
  | .conn _ fs => dts fs + 2
  | .same f g => max (dt f) (dt g) + 1
  | .quan _ _ f => dt f + 1
def dts : List Fm → Nat
  | [] => 0
  | f :: t => max (dt f) (dts t)
end
mutual
/-- how many quantifiers stand within one another -/
def qd : Fm → Nat
  | .letter _ => 0
  | .no f => qd f
  | .conn _ fs => qds fs
  | .same f g => max (qd f) (qd g)
  | .quan _ _ f => qd f + 1
def qds : List Fm → Nat
  | [] => 0
  | f :: t => max (qd f) (qds t)
end
mutual
/-- the names of free letters, as often as they stand there -/
def fvl : Fm → List Str
  | .letter z => [z]
  | .no f => fvl f
  | .conn _ fs => fvls fs
  | .same f g => fvl f ++ fvl g
  | .quan _ z f => (fvl f).filter fun y => decide (y ≠ z)
def fvls : List Fm → List Str
  | [] => []
  | f :: t => fvl f ++ fvls t
end
def setW (ρ : Str → Bool) (z : Str) (b : Bool) : Str → Bool := fun y => if y = z then b else ρ y
mutual
/-- whether it holds -/
def sem : Fm → (Str → Bool) → Bool
  | .letter z, ρ => ρ z
  | .no f, ρ => !sem f ρ
  | .conn b fs, ρ => semL b fs ρ
  | .same f g, ρ => sem f ρ == sem g ρ
  | .quan b z f, ρ => if b = true then sem f (setW ρ z true) && sem f (setW ρ z false) else sem f (setW ρ z true) || sem f (setW ρ z false)
def semL (b : Bool) : List Fm → (Str → Bool) → Bool
  | [], _ => b
  | f :: t, ρ => if b = true then sem f ρ && semL b t ρ else sem f ρ || semL b t ρ
end
def okz (z : Str) : Bool := decide (z.cps.size ≤ 8) && (((PyData.str z).showable && (PyData.str z).leavesShort 40) && (PyData.str z).canLay0)
mutual
def okf : Fm → Bool
  | .letter z => okz z
  | .no f => okf f
  | .conn _ fs => okfs fs
  | .same f g => okf f && okf g
  | .quan _ z f => okz z && okf f
def okfs : List Fm → Bool
  | [] => true
  | f :: t => okf f && okfs t
end
theorem dats_map (fs : List Fm) : dats fs = fs.map dat := by
  induction fs with
  | nil => rfl
  | cons f t ih => rw [dats, ih, List.map_cons]
theorem fvls_map (fs : List Fm) : fvls fs = fs.flatMap fvl := by
  induction fs with
  | nil => rfl
  | cons f t ih => rw [fvls, ih, List.flatMap_cons]
theorem dps_ge {fs : List Fm} {f : Fm} (h : f ∈ fs) : dp f ≤ dps fs := by
  induction fs with
  | nil => cases h
  | cons a t ih =>
    rw [dps]
    rcases List.mem_cons.mp h with rfl | h
    · omega
    · have := ih h
      omega
theorem qds_ge {fs : List Fm} {f : Fm} (h : f ∈ fs) : qd f ≤ qds fs := by
  induction fs with
  | nil => cases h
  | cons a t ih =>
    rw [qds]
    rcases List.mem_cons.mp h with rfl | h
    · omega
    · have := ih h
      omega
theorem okfs_mem {fs : List Fm} (h : okfs fs = true) {f : Fm} (hf : f ∈ fs) : okf f = true := by
  induction fs with
  | nil => cases hf
  | cons a t ih =>
    rw [okfs, Bool.and_eq_true] at h
    rcases List.mem_cons.mp hf with rfl | hf
    · exact h.1
    · exact ih h.2 hf
mutual
theorem sem_congr : ∀ (f : Fm) (ρ ρ' : Str → Bool), (∀ z ∈ fvl f, ρ z = ρ' z) → sem f ρ = sem f ρ'
  | .letter z, ρ, ρ', h => by
    rw [sem, sem]
    exact h z (by rw [fvl]; exact List.mem_singleton.mpr rfl)
  | .no f, ρ, ρ', h => by rw [sem, sem, sem_congr f ρ ρ' fun z hz => h z (by rw [fvl]; exact hz)]
  | .conn b fs, ρ, ρ', h => by rw [sem, sem, semL_congr b fs ρ ρ' fun z hz => h z (by rw [fvl]; exact hz)]
  | .same f g, ρ, ρ', h => by
    rw [sem, sem, sem_congr f ρ ρ' fun z hz => h z (by rw [fvl]; exact List.mem_append_left _ hz), sem_congr g ρ ρ' fun z hz => h z (by rw [fvl]; exact List.mem_append_right _ hz)]
  | .quan b x f, ρ, ρ', h => by
    have e : ∀ s, sem f (setW ρ x s) = sem f (setW ρ' x s) := fun s => sem_congr f _ _ fun z hz => by
      unfold setW
      by_cases c : z = x
      · rw [if_pos c, if_pos c]
      · rw [if_neg c, if_neg c]
        exact h z (by rw [fvl]; exact List.mem_filter.mpr ⟨hz, decide_eq_true c⟩)
    rw [sem, sem, e true, e false]
theorem semL_congr (b : Bool) : ∀ (fs : List Fm) (ρ ρ' : Str → Bool), (∀ z ∈ fvls fs, ρ z = ρ' z) → semL b fs ρ = semL b fs ρ'
  | [], _, _, _ => by rw [semL, semL]
  | f :: t, ρ, ρ', h => by
    rw [semL, semL, sem_congr f ρ ρ' fun z hz => h z (by rw [fvls]; exact List.mem_append_left _ hz), semL_congr b t ρ ρ' fun z hz => h z (by rw [fvls]; exact List.mem_append_right _ hz)]
end
theorem cw_len (b : Bool) : (cw b).cps.size ≤ 3 := by cases b <;> decide
theorem qw_len (b : Bool) : (qw b).cps.size ≤ 4 := by cases b <;> decide
theorem okz_len {z : Str} (h : okz z = true) : z.cps.size ≤ 8 := by
  unfold okz at h
  rw [Bool.and_eq_true] at h
  exact of_decide_eq_true h.1
mutual
theorem bulk_dat : ∀ f : Fm, okf f = true → (dat f).bulk + 1 ≤ 20 * nd f
  | .letter z, h => by
    have hz := okz_len h
    have e : (Str.ofString "letter").cps.size = 6 := by decide
    simp only [dat, PyData.bulk, PyData.bulkAll, nd, e]
    omega
  | .no f, h => by
    have i := bulk_dat f h
    have e : (Str.ofString "not").cps.size = 3 := by decide
    simp only [dat, PyData.bulk, PyData.bulkAll, nd, e]
    omega
  | .conn b fs, h => by
    have i := bulk_dats fs h
    have e := cw_len b
    simp only [dat, PyData.bulk, PyData.bulkAll, nd]
    omega
  | .same f g, h => by
    rw [okf, Bool.and_eq_true] at h
    have i := bulk_dat f h.1
    have j := bulk_dat g h.2
    have e : (Str.ofString "same").cps.size = 4 := by decide
    simp only [dat, PyData.bulk, PyData.bulkAll, nd, e]
    omega
  | .quan b z f, h => by
    rw [okf, Bool.and_eq_true] at h
    have hz := okz_len h.1
    have i := bulk_dat f h.2
    have e := qw_len b
    simp only [dat, PyData.bulk, PyData.bulkAll, nd]
    omega
theorem bulk_dats : ∀ fs : List Fm, okfs fs = true → PyData.bulkAll (dats fs) ≤ 20 * nds fs
  | [], _ => Nat.zero_le _
  | f :: t, h => by
    rw [okfs, Bool.and_eq_true] at h
    have i := bulk_dat f h.1
    have j := bulk_dats t h.2
    simp only [dats, PyData.bulkAll, nds]
    omega
end
mutual
theorem depth_dat : ∀ f : Fm, (dat f).depth = dt f
  | .letter z => rfl
  | .no f => by simp only [dat, PyData.depth, PyData.depthAll, dt, depth_dat f]; omega
  | .conn b fs => by simp only [dat, PyData.depth, PyData.depthAll, dt, depth_dats fs]; omega
  | .same f g => by simp only [dat, PyData.depth, PyData.depthAll, dt, depth_dat f, depth_dat g]; omega
  | .quan b z f => by simp only [dat, PyData.depth, PyData.depthAll, dt, depth_dat f]; omega
theorem depth_dats : ∀ fs : List Fm, PyData.depthAll (dats fs) = dts fs
  | [] => rfl
  | f :: t => by simp only [dats, PyData.depthAll, dts, depth_dat f, depth_dats t]
end
theorem okz_show {z : Str} (h : okz z = true) : (PyData.str z).showable = true ∧ (PyData.str z).leavesShort 40 = true := by
  unfold okz at h
  rw [Bool.and_eq_true, Bool.and_eq_true, Bool.and_eq_true] at h
  exact h.2.1
theorem okz_lay {z : Str} (h : okz z = true) : (PyData.str z).canLay0 = true := by
  unfold okz at h
  rw [Bool.and_eq_true, Bool.and_eq_true, Bool.and_eq_true] at h
  exact h.2.2
theorem cw_show (b : Bool) : (PyData.str (cw b)).showable = true ∧ (PyData.str (cw b)).leavesShort 40 = true := by cases b <;> decide
theorem qw_show (b : Bool) : (PyData.str (qw b)).showable = true ∧ (PyData.str (qw b)).leavesShort 40 = true := by cases b <;> decide
mutual
theorem show_dat : ∀ f : Fm, okf f = true → (dat f).showable = true ∧ (dat f).leavesShort 40 = true
  | .letter z, h => by
    have a := okz_show h
    have b : (PyData.str (Str.ofString "letter")).showable = true ∧ (PyData.str (Str.ofString "letter")).leavesShort 40 = true := by decide
    simp only [dat, PyData.showable, PyData.showableAll, PyData.leavesShort, PyData.leavesShortAll] at a b ⊢
    simp [a, b]
  | .no f, h => by
    have a := show_dat f h
    have b : (PyData.str (Str.ofString "not")).showable = true ∧ (PyData.str (Str.ofString "not")).leavesShort 40 = true := by decide
    simp only [dat, PyData.showable, PyData.showableAll, PyData.leavesShort, PyData.leavesShortAll] at b ⊢
    simp [a, b]
  | .conn c fs, h => by
    have a := show_dats fs h
    have b := cw_show c
    simp only [dat, PyData.showable, PyData.showableAll, PyData.leavesShort, PyData.leavesShortAll] at b ⊢
    simp [a, b]
  | .same f g, h => by
    rw [okf, Bool.and_eq_true] at h
    have a := show_dat f h.1
    have c := show_dat g h.2
    have b : (PyData.str (Str.ofString "same")).showable = true ∧ (PyData.str (Str.ofString "same")).leavesShort 40 = true := by decide
    simp only [dat, PyData.showable, PyData.showableAll, PyData.leavesShort, PyData.leavesShortAll] at b ⊢
    simp [a, b, c]
  | .quan q z f, h => by
    rw [okf, Bool.and_eq_true] at h
    have d := okz_show h.1
    have a := show_dat f h.2
    have b := qw_show q
    simp only [dat, PyData.showable, PyData.showableAll, PyData.leavesShort, PyData.leavesShortAll] at b d ⊢
    simp [a, b, d]
theorem show_dats : ∀ fs : List Fm, okfs fs = true → PyData.showableAll (dats fs) = true ∧ PyData.leavesShortAll 40 (dats fs) = true
  | [], _ => ⟨rfl, rfl⟩
  | f :: t, h => by
    rw [okfs, Bool.and_eq_true] at h
    have a := show_dat f h.1
    have b := show_dats t h.2
    simp only [dats, PyData.showableAll, PyData.leavesShortAll]
    simp [a, b]
end
theorem fair_dat {f : Fm} {n k : Nat} (h : okf f = true) (hn : nd f ≤ n) (hd : dt f ≤ k) : Fair (20 * n) k (dat f) := ⟨by have := bulk_dat f h; omega, by rw [depth_dat]; exact hd, (show_dat f h).1, (show_dat f h).2⟩
/-! ### formulas as they are drawn: of free names in zs, at most q quantifiers within one another, size s -/
structure Gd (zs : List Str) (q s : Nat) (f : Fm) : Prop where
  ok : okf f = true
  dt : dt f ≤ s + 2
  dp : dp f ≤ s + 1
  nd : nd f ≤ 1 ∨ (1 ≤ s ∧ nd f + 2 ≤ 6 * s)
  fv : ∀ z ∈ fvl f, z ∈ zs
  qd : qd f ≤ q
theorem okfs_of {fs : List Fm} (h : ∀ f ∈ fs, okf f = true) : okfs fs = true := by
  induction fs with
  | nil => rfl
  | cons a t ih => rw [okfs, h a List.mem_cons_self, ih fun f hf => h f (List.mem_cons_of_mem _ hf)] <;> rfl
theorem dts_le {fs : List Fm} {m : Nat} (h : ∀ f ∈ fs, dt f ≤ m) : dts fs ≤ m := by
  induction fs with
  | nil => exact Nat.zero_le _
  | cons a t ih =>
    have := h a List.mem_cons_self
    have := ih fun f hf => h f (List.mem_cons_of_mem _ hf)
    rw [dts]
    omega
theorem dps_le {fs : List Fm} {m : Nat} (h : ∀ f ∈ fs, dp f ≤ m) : dps fs ≤ m := by
  induction fs with
  | nil => exact Nat.zero_le _
  | cons a t ih =>
    have := h a List.mem_cons_self
    have := ih fun f hf => h f (List.mem_cons_of_mem _ hf)
    rw [dps]
    omega
theorem qds_le {fs : List Fm} {m : Nat} (h : ∀ f ∈ fs, qd f ≤ m) : qds fs ≤ m := by
  induction fs with
  | nil => exact Nat.zero_le _
  | cons a t ih =>
    have := h a List.mem_cons_self
    have := ih fun f hf => h f (List.mem_cons_of_mem _ hf)
    rw [qds]
    omega
theorem nds_le {fs : List Fm} {m : Nat} (h : ∀ f ∈ fs, nd f ≤ m) : nds fs ≤ fs.length * m := by
  induction fs with
  | nil => exact Nat.zero_le _
  | cons a t ih =>
    have := h a List.mem_cons_self
    have := ih fun f hf => h f (List.mem_cons_of_mem _ hf)
    rw [nds, List.length_cons, Nat.add_mul]
    omega
theorem Gd.letter {zs : List Str} {q s : Nat} {z : Str} (h : okz z = true) (hz : z ∈ zs) : Gd zs q s (.letter z) :=
  ⟨h, by show 1 ≤ _; omega, by show 1 ≤ _; omega, .inl (Nat.le_refl _), fun y hy => by rw [fvl] at hy; rw [List.mem_singleton.mp hy]; exact hz, Nat.zero_le _⟩
theorem Gd.nil {zs : List Str} {q s : Nat} {b : Bool} : Gd zs q s (.conn b []) :=
  ⟨rfl, by show 0 + 2 ≤ _; omega, by show 0 + 1 ≤ _; omega, .inl (Nat.le_refl _), fun y hy => by exact absurd hy (by simp [fvl, fvls]), Nat.zero_le _⟩
theorem Gd.no {zs : List Str} {q s : Nat} {f : Fm} (h : Gd zs q s f) : Gd zs q (s + 1) (.no f) := by
  obtain ⟨h1, h2, h3, h4, h5, h6⟩ := h
  exact ⟨h1, by rw [KA.dt]; omega, by rw [KA.dp]; omega, by rw [KA.nd]; omega, fun z hz => h5 z (by rw [fvl] at hz; exact hz), h6⟩
theorem Gd.quan {zs : List Str} {q s : Nat} {f : Fm} {b : Bool} {x : Str} (hx : okz x = true) (h : Gd (zs ++ [x]) q s f) : Gd zs (q + 1) (s + 1) (.quan b x f) := by
  obtain ⟨h1, h2, h3, h4, h5, h6⟩ := h
  refine ⟨by rw [okf, hx, h1]; rfl, by rw [KA.dt]; omega, by rw [KA.dp]; omega, by rw [KA.nd]; omega, fun z hz => ?_, by rw [KA.qd]; omega⟩
  rw [fvl] at hz
  obtain ⟨h7, h8⟩ := List.mem_filter.mp hz
  rcases List.mem_append.mp (h5 z h7) with h9 | h9
  · exact h9
  · exact absurd (List.mem_singleton.mp h9) (of_decide_eq_true h8)
theorem Gd.same {zs : List Str} {q s : Nat} {f g : Fm} (hs : 2 ≤ s) (i1 : Gd zs q (s / 2) f) (i2 : Gd zs q (s / 2) g) : Gd zs q s (.same f g) := by
  obtain ⟨a1, a2, a3, a4, a5, a6⟩ := i1
  obtain ⟨b1, b2, b3, b4, b5, b6⟩ := i2
  refine ⟨by rw [okf, a1, b1]; rfl, by rw [KA.dt]; omega, by rw [KA.dp]; omega, by rw [KA.nd]; omega, fun z hz => ?_, by rw [KA.qd]; omega⟩
  rw [fvl] at hz
  rcases List.mem_append.mp hz with h | h
  · exact a5 z h
  · exact b5 z h
theorem Gd.conn {zs : List Str} {q s k : Nat} {b : Bool} {fs : List Fm} (hs : 2 ≤ s) (hk : 2 ≤ k) (hk3 : k ≤ 3) (hl : fs.length = k) (ih : ∀ f ∈ fs, Gd zs q ((s - 1) / k) f) : Gd zs q s (.conn b fs) := by
  have hle : (s - 1) / k ≤ (s - 1) / 2 := Nat.div_le_div_left hk (by decide)
  refine ⟨okfs_of fun f hf => (ih f hf).1, ?_, ?_, ?_, fun z hz => ?_, ?_⟩
  · have := dts_le (m := (s - 1) / 2 + 2) fun f hf => by have := (ih f hf).dt; omega
    rw [KA.dt]
    omega
  · have := dps_le (m := (s - 1) / 2 + 1) fun f hf => by have := (ih f hf).dp; omega
    rw [KA.dp]
    omega
  · refine .inr ⟨by omega, ?_⟩
    have h2 : k * ((s - 1) / k) ≤ s - 1 := Nat.mul_div_le _ _
    rw [KA.nd]
    generalize (s - 1) / k = p at h2 ih
    have h1 := nds_le (m := 6 * p + 1) fun f hf => by rcases (ih f hf).nd with h | h <;> omega
    rw [hl] at h1
    by_cases c : p = 0
    · subst c
      omega
    · have h4 := nds_le (m := 6 * p - 2) fun f hf => by rcases (ih f hf).nd with h | h <;> omega
      rw [hl] at h4
      have hk23 : k = 2 ∨ k = 3 := by omega
      rcases hk23 with rfl | rfl <;> omega
  · rw [fvl, fvls_map] at hz
    obtain ⟨f, hf, h⟩ := List.mem_flatMap.mp hz
    exact (ih f hf).fv z h
  · rw [KA.qd]
    exact qds_le fun f hf => (ih f hf).qd
end KA
set_option Elab.async false
set_option linter.all false
set_option maxRecDepth 100000
set_option maxHeartbeats 400000
set_option pp.maxSteps 300
namespace KA
open PySem PySem.Spec PyProof.Rows L2 Ea
abbrev s_law_bag : Stmt := topS 15
theorem sc_law_bag : FnScope ["script", "bag", "cell", "own"] ["script"] (defScope s_law_bag) :=
  ⟨rfl, rfl, rfl, by decide +kernel, rfl, by decide +kernel, by decide +kernel⟩
abbrev s_law_take : Stmt := topS 16
theorem sc_law_take : FnScope ["bag", "many", "whole", "seed"] ["bag", "many"] (defScope s_law_take) :=
  ⟨rfl, rfl, rfl, by decide +kernel, rfl, by decide +kernel, by decide +kernel⟩
abbrev s_law_pick : Stmt := topS 17
theorem sc_law_pick : FnScope ["bag", "some"] ["bag", "some"] (defScope s_law_pick) :=
  ⟨rfl, rfl, rfl, by decide +kernel, rfl, by decide +kernel, by decide +kernel⟩
theorem rd_dget2 {td ty tx : TE} {σ : L2.St} {H : Hp} {Q : VK} (h : td σ H fun x H1 => ∃ a, x = .ref a ∧ IsD H1 a ∧ ty σ H1 fun y H2 => tx σ H2 fun z H3 => ∃ o, DGet H3 a y o ∧ Q (o.getD z) H3) : tDGet2 td ty tx σ H Q := h
local macro_rules | `(tactic| walk_at "rd") => `(tactic| first
  | (with_reducible refine rd_seq ?_) | (with_reducible refine rd_asg ?_) | (with_reducible refine rd_if ?_) | (with_reducible refine rd_ret ?_) | (with_reducible refine rd_next ?_)
  | (with_reducible refine rd_drop ?_) | ((with_reducible refine rd_name (σ' := ?ss) ?hs ?_); (case hs => (dsimp only [List.set]; exact rfl)))
  | ((with_reducible refine rd_var (v := ?vv) ?hv ?_); (case hv => exact rfl)) | (with_reducible refine rd_c ?_) | (with_reducible refine rd_op ?_) | (with_reducible refine rd_un ?_)
  | (with_reducible refine rd_I0 ?_) | (with_reducible refine rd_U ?_) | (with_reducible refine rd_test ?_) | (with_reducible refine rd_B ?_) | (with_reducible refine rd_k ?_)
  | (with_reducible refine rd_not ?_) | (with_reducible refine rd_and ?_) | (with_reducible refine rd_or ?_) | (with_reducible refine rd_ifE ?_)
  | (with_reducible refine rd_par ?_) | ((with_reducible refine rd_par2 (σ' := ?ss) ?hs ?_); (case hs => (dsimp only [List.set]; exact rfl)))
  | (with_reducible refine rd_gsub ?_) | (with_reducible refine rd_andV ?_) | (with_reducible refine rd_orV ?_) | (with_reducible refine rd_notV ?_)
  | (with_reducible refine rd_lc ?_) | (with_reducible refine rd_iTup ?_) | (with_reducible refine rd_iList ?_) | (with_reducible refine rd_iRng1 ?_) | (with_reducible refine rd_iRng2 ?_) | (with_reducible refine rd_iEnumT ?_) | (with_reducible refine rd_iEnum ?_) | (with_reducible refine rd_iZipM ?_) | (with_reducible refine rd_iEnumS ?_) | (with_reducible refine rd_iKeys ?_) | (with_reducible refine rd_din ?_) | (with_reducible refine rd_dnotin ?_)
  | (with_reducible refine rd_yes ?_) | (with_reducible refine rd_true ?_) | (with_reducible refine rd_false ?_) | (with_reducible refine rd_m1 ?_) | (with_reducible refine rd_isS ?_)
  | ((with_reducible refine rd_eq ?hs ?_); (case hs => exact rfl)) | ((with_reducible refine rd_ne ?hs ?_); (case hs => exact rfl))
  | (with_reducible refine rd_listRg ?_) | (with_reducible refine rd_rg2 ?_) | (with_reducible refine rd_rgk ?_)
  | (with_reducible refine rd_dnew ?_) | (with_reducible refine rd_ddel ?_) | (with_reducible refine rd_kw ?_) | (with_reducible refine rd_callS ?_) | (with_reducible refine rd_dc ?_) | (with_reducible refine rd_for ?_) | (with_reducible refine rd_tru ?_) | (with_reducible refine rd_truI ?_)
  | (with_reducible refine rd_nil ?_) | (with_reducible refine rd_cons ?_) | (with_reducible refine rd_call ?_) | (with_reducible refine rd_cb ?_)
  | (with_reducible refine rd_tup ?_) | (with_reducible refine rd_lst ?_) | (with_reducible refine rd_dget ?_) | (with_reducible refine rd_dput ?_) | (with_reducible refine rd_dget2 ?_) | (with_reducible refine rd_sl ?_)
  | (with_reducible refine rd_nopart ?_) | (with_reducible refine rd_part ?_) | (with_reducible refine rd_parti ?_) | (with_reducible refine rd_bm ?_) | (with_reducible refine rd_bm0 ?_)
  | (with_reducible refine rd_int ?_) | (with_reducible refine rd_intb ?_) | (with_reducible refine rd_abs ?_) | (with_reducible refine rd_min2 ?_) | (with_reducible refine rd_max2 ?_))
local macro_rules | `(tactic| walk_at "rds") => `(tactic| repeat (walk_at "rd"))
local macro_rules | `(tactic| walk_at "rq") => `(tactic| first
  | (with_reducible refine rd_seq ?_) | (with_reducible refine rd_asg ?_) | (with_reducible refine rd_ret ?_) | (with_reducible refine rd_next ?_)
  | (with_reducible refine rd_drop ?_) | ((with_reducible refine rd_name (σ' := ?ss) ?hs ?_); (case hs => (dsimp only [List.set]; exact rfl)))
  | ((with_reducible refine rd_var (v := ?vv) ?hv ?_); (case hv => exact rfl)) | (with_reducible refine rd_c ?_) | (with_reducible refine rd_op ?_) | (with_reducible refine rd_un ?_)
  | (with_reducible refine rd_I0 ?_) | (with_reducible refine rd_U ?_) | (with_reducible refine rd_test ?_) | (with_reducible refine rd_B ?_) | (with_reducible refine rd_k ?_)
  | (with_reducible refine rd_not ?_) | (with_reducible refine rd_and ?_) | (with_reducible refine rd_or ?_) | (with_reducible refine rd_ifE ?_)
  | (with_reducible refine rd_par ?_) | ((with_reducible refine rd_par2 (σ' := ?ss) ?hs ?_); (case hs => (dsimp only [List.set]; exact rfl)))
  | (with_reducible refine rd_gsub ?_) | (with_reducible refine rd_andV ?_) | (with_reducible refine rd_orV ?_) | (with_reducible refine rd_notV ?_)
  | (with_reducible refine rd_lc ?_) | (with_reducible refine rd_iTup ?_) | (with_reducible refine rd_iList ?_) | (with_reducible refine rd_iRng1 ?_) | (with_reducible refine rd_iRng2 ?_) | (with_reducible refine rd_iEnumT ?_) | (with_reducible refine rd_iEnum ?_) | (with_reducible refine rd_iZipM ?_) | (with_reducible refine rd_iEnumS ?_) | (with_reducible refine rd_iKeys ?_) | (with_reducible refine rd_din ?_) | (with_reducible refine rd_dnotin ?_)
  | (with_reducible refine rd_yes ?_) | (with_reducible refine rd_true ?_) | (with_reducible refine rd_false ?_) | (with_reducible refine rd_m1 ?_) | (with_reducible refine rd_isS ?_)
  | ((with_reducible refine rd_eq ?hs ?_); (case hs => exact rfl)) | ((with_reducible refine rd_ne ?hs ?_); (case hs => exact rfl))
  | (with_reducible refine rd_listRg ?_) | (with_reducible refine rd_rg2 ?_) | (with_reducible refine rd_rgk ?_)
  | (with_reducible refine rd_dnew ?_) | (with_reducible refine rd_ddel ?_) | (with_reducible refine rd_kw ?_) | (with_reducible refine rd_callS ?_) | (with_reducible refine rd_dc ?_) | (with_reducible refine rd_for ?_) | (with_reducible refine rd_tru ?_) | (with_reducible refine rd_truI ?_)
  | (with_reducible refine rd_nil ?_) | (with_reducible refine rd_cons ?_) | (with_reducible refine rd_call ?_) | (with_reducible refine rd_cb ?_)
  | (with_reducible refine rd_tup ?_) | (with_reducible refine rd_lst ?_) | (with_reducible refine rd_dget ?_) | (with_reducible refine rd_dput ?_) | (with_reducible refine rd_dget2 ?_) | (with_reducible refine rd_sl ?_)
  | (with_reducible refine rd_nopart ?_) | (with_reducible refine rd_part ?_) | (with_reducible refine rd_parti ?_) | (with_reducible refine rd_bm ?_) | (with_reducible refine rd_bm0 ?_)
  | (with_reducible refine rd_int ?_) | (with_reducible refine rd_intb ?_) | (with_reducible refine rd_abs ?_) | (with_reducible refine rd_min2 ?_) | (with_reducible refine rd_max2 ?_))
local macro_rules | `(tactic| walk_at "rqs") => `(tactic| repeat (walk_at "rq"))
local macro_rules | `(tactic| walk_at "rv") => `(tactic| first
  | (with_reducible refine rd_seq ?_) | (with_reducible refine rd_asg ?_) | (with_reducible refine rd_ret ?_) | (with_reducible refine rd_next ?_)
  | (with_reducible refine rd_drop ?_) | ((with_reducible refine rd_name (σ' := ?ss) ?hs ?_); (case hs => (dsimp only [List.set]; exact rfl)))
  | ((with_reducible refine rd_var (v := ?vv) ?hv ?_); (case hv => exact rfl)) | (with_reducible refine rd_c ?_) | (with_reducible refine rd_op ?_) | (with_reducible refine rd_un ?_)
  | (with_reducible refine rd_I0 ?_) | (with_reducible refine rd_U ?_) | (with_reducible refine rd_test ?_) | (with_reducible refine rd_B ?_) | (with_reducible refine rd_k ?_)
  | (with_reducible refine rd_not ?_) | (with_reducible refine rd_and ?_) | (with_reducible refine rd_or ?_)
  | (with_reducible refine rd_par ?_) | ((with_reducible refine rd_par2 (σ' := ?ss) ?hs ?_); (case hs => (dsimp only [List.set]; exact rfl)))
  | (with_reducible refine rd_gsub ?_) | (with_reducible refine rd_andV ?_) | (with_reducible refine rd_orV ?_) | (with_reducible refine rd_notV ?_)
  | (with_reducible refine rd_lc ?_) | (with_reducible refine rd_iTup ?_) | (with_reducible refine rd_iList ?_) | (with_reducible refine rd_iRng1 ?_) | (with_reducible refine rd_iRng2 ?_) | (with_reducible refine rd_iEnumT ?_) | (with_reducible refine rd_iEnum ?_) | (with_reducible refine rd_iZipM ?_) | (with_reducible refine rd_iEnumS ?_) | (with_reducible refine rd_iKeys ?_) | (with_reducible refine rd_din ?_) | (with_reducible refine rd_dnotin ?_)
  | (with_reducible refine rd_yes ?_) | (with_reducible refine rd_true ?_) | (with_reducible refine rd_false ?_) | (with_reducible refine rd_m1 ?_) | (with_reducible refine rd_isS ?_)
  | ((with_reducible refine rd_eq ?hs ?_); (case hs => exact rfl)) | ((with_reducible refine rd_ne ?hs ?_); (case hs => exact rfl))
  | (with_reducible refine rd_listRg ?_) | (with_reducible refine rd_rg2 ?_) | (with_reducible refine rd_rgk ?_)
  | (with_reducible refine rd_dnew ?_) | (with_reducible refine rd_ddel ?_) | (with_reducible refine rd_kw ?_) | (with_reducible refine rd_callS ?_) | (with_reducible refine rd_dc ?_) | (with_reducible refine rd_for ?_) | (with_reducible refine rd_tru ?_) | (with_reducible refine rd_truI ?_)
  | (with_reducible refine rd_nil ?_) | (with_reducible refine rd_cons ?_) | (with_reducible refine rd_call ?_) | (with_reducible refine rd_cb ?_)
  | (with_reducible refine rd_tup ?_) | (with_reducible refine rd_lst ?_) | (with_reducible refine rd_dget ?_) | (with_reducible refine rd_dput ?_) | (with_reducible refine rd_dget2 ?_) | (with_reducible refine rd_sl ?_)
  | (with_reducible refine rd_nopart ?_) | (with_reducible refine rd_part ?_) | (with_reducible refine rd_parti ?_) | (with_reducible refine rd_bm ?_) | (with_reducible refine rd_bm0 ?_)
  | (with_reducible refine rd_int ?_) | (with_reducible refine rd_intb ?_) | (with_reducible refine rd_abs ?_) | (with_reducible refine rd_min2 ?_) | (with_reducible refine rd_max2 ?_))
local macro_rules | `(tactic| walk_at "rvs") => `(tactic| repeat (walk_at "rv"))

theorem rd_disp3 {t1 t2 t3 t4 t5 t6 : TE} {σ : L2.St} {H : Hp} {Q : VK} (h : ∀ p, H p = none → t1 σ (upd H p (.dK [])) fun x1 H1 => t2 σ H1 fun y1 H2 => t3 σ H2 fun x2 H3 => t4 σ H3 fun y2 H4 => t5 σ H4 fun x3 H5 => t6 σ H5 fun y3 H6 =>
    H6 p = some (.dK []) ∧ ∃ kvs : List (Key × V), [(x1, y1), (x2, y2), (x3, y3)] = kvs.map (fun kv => (kV kv.1, kv.2)) ∧ kvs.length ≤ 15 ∧ Q (.ref p) (upd H6 p (.dK (mergeK [] kvs)))) : tDisp [(t1, t2), (t3, t4), (t5, t6)] σ H Q := h
section
variable {P : Program} {w : World} {K : PySem.W.Frag} {mg : Str → Option Value} {base : Heap}
def spTake : Sp := fun vs H Q _ => ∃ (d l : Addr) (many : Int), vs = [.ref d, .int many] ∧ DeckT d l H ∧ 0 ≤ many ∧ many ≤ 1000000 ∧
  ∀ (r : Int) (H' : Hp), Gt d l H H' → 0 ≤ r → (r < many ∨ r = 0) → Q (.int r) H'
theorem ok_take {f : Addr} {fd : FuncData} (F : Fun K "_law_take" "_law_take" s_law_take f fd) (T : Bl mg) : FnOk P w K mg base CX0 1 f fd ["bag", "many"] spTake := by
  refine F.ok sc_law_take (fun vs H Q E h => ?_) (fun cdv A outer s H vs Q E hr h => ?_)
  · obtain ⟨d, l, many, rfl, _⟩ := h
    rfl
  · obtain ⟨d, l, many, rfl, hD, h1, h2, q⟩ := h
    refine ⟨_, (pss_cons (ps_if (pt_cmpR op_lt (pv 1) pe_int (nomark _)) (pss_one (ps_ret pe_int)) pss_nil)
 (pss_cons (ps_if (pt_cmpR (op_ne0 (K := K) rfl hr.units) (pe_dget (hu_of hr) (pv 0) pe_str (fun _ _ => rfl)) (pe_lst pa_nil) (nomark _)) (pss_cons (ps_set (i := 2) sc_law_take.nd rfl (Or.inl rfl) (pe_bm0 PySem.F.plainAttrs_list PySem.F.slot_list_pop PySem.F.type_list_pop mt_pop (pe_dget (hu_of hr) (pv 0) pe_str (fun _ _ => rfl))))
 (pss_cons (ps_if (pt_cmpR op_ge (pv 2) (pv 1) (nomark _)) (pss_one (ps_expr (pe_bm PySem.F.plainAttrs_list PySem.F.slot_list_append PySem.F.type_list_append mt_append (pe_dget (hu_of hr) (pv 0) pe_str (fun _ _ => rfl)) (pa_cons (pe_op op_fdivW (pv 2) (pv 1)) pa_nil)))) pss_nil)
 (pss_one (ps_ret (pe_op op_mod (pe_callTy c_int (by rfl) T.int (by decide +kernel) (pa_cons (pv 2) pa_nil)) (pv 1)))))) pss_nil)
 (pss_cons (ps_dput (hu_of hr) (pv 0) pe_str (pe_op op_add (pe_dget (hu_of hr) (pv 0) pe_str (fun _ _ => rfl)) pe_int) rfl)
 (pss_cons (ps_set (i := 3) sc_law_take.nd rfl (Or.inl rfl) (pe_op op_mod (pe_callTy c_int (by rfl) T.int (by decide +kernel) (pa_cons (pe_op op_add (pe_op op_mul (pe_dget (hu_of hr) (pv 0) pe_str (fun _ _ => rfl)) pe_int) (pe_op op_mul pe_int (pe_dget (hu_of hr) (pv 0) pe_str (fun _ _ => rfl)))) pa_nil)) pe_int))
 (pss_cons (ps_dput (hu_of hr) (pv 0) pe_str (pv 3) rfl)
 (pss_one (ps_ret (pe_op op_mod (pe_callTy c_int (by rfl) T.int (by decide +kernel) (pa_cons (pe_op op_fdivW (pv 3) pe_int) pa_nil)) (pv 1))))))))), ?_⟩
    refine rd_start (σ' := [some (.ref d), some (.int many), none, none]) rfl ?_
    obtain ⟨ns, s, c, e1, e2, hl, hp⟩ := id hD
    have hdl := hD.ne
    walk_at "rds"
    refine rd_ite (fun c1 => ?_) (fun c1 => ?_)
    · walk_at "rds"
      exact q 0 H (Gt.refl hD) (by omega) (.inr rfl)
    walk_at "rds"
    refine ⟨d, .ref l, rfl, dk3_great e1, ?_⟩
    walk_at "rds"
    refine ⟨Nat.zero_le _, fun p hp0 => ?_⟩
    obtain ⟨n1, n2⟩ := hD.off hp0
    have f1 : (upd H p (.lst [])) d = _ := (upd_ne n1.symm).trans e1
    have f2 : (upd H p (.lst [])) l = _ := (upd_ne n2.symm).trans e2
    refine rd_ne0 (SqL.of f2) (SqL.of upd_same) ?_
    walk_at "rds"
    refine rd_iteb (fun c2 => ?_) (fun c2 => ?_)
    · walk_at "rds"
      obtain ⟨m, z, rfl⟩ : ∃ m z, ns = m ++ [z] := by
        rcases List.eq_nil_or_concat ns with rfl | ⟨m, z, rfl⟩
        · cases c2
        · exact ⟨m, z, by simp⟩
      rw [List.map_append] at f2
      have z0 : 0 ≤ z := hp z (List.mem_append_right _ List.mem_cons_self)
      have hm : ∀ n ∈ m, 0 ≤ n := fun n hn => hp n (List.mem_append_left _ hn)
      have hml : m.length + 1 ≤ 63 := by simpa using hl
      refine ⟨d, .ref l, rfl, dk3_great f1, rd_tyL f2 (rd_pop f2 ?_)⟩
      have g1 : (upd (upd H p (.lst [])) l (.lst (m.map V.int))) d = _ := (upd_ne hdl).trans f1
      have g2 : (upd (upd H p (.lst [])) l (.lst (m.map V.int))) l = _ := upd_same
      walk_at "rds"
      refine rd_ite (fun c3 => ?_) (fun c3 => ?_)
      · walk_at "rds"
        refine ⟨d, .ref l, rfl, dk3_great g1, rd_tyL g2 ?_⟩
        walk_at "rds"
        refine rd_I (wide_div (b := 64) (by omega) (by omega) (by decide) (by decide)) ?_
        walk_at "rds"
        refine rd_append g2 (by rw [List.length_map]; omega) ?_
        walk_at "rds"
        refine rd_I (by omega) ?_
        have hq : 0 ≤ z / many := Int.ediv_nonneg z0 (by omega)
        refine q (z % many) _ ⟨⟨m ++ [z / many], s, c, (upd_ne hdl).trans g1, ?_, by rw [List.length_append]; exact hml, fun n hn => ?_⟩, fun a o m1 m2 e => ?_⟩ (Int.emod_nonneg _ (by omega)) (.inl (Int.emod_lt_of_pos _ (by omega)))
        · rw [upd_same, List.map_append] <;> rfl
        · rcases List.mem_append.mp hn with h | h
          · exact hm n h
          · rw [List.mem_singleton.mp h]
            exact hq
        · rw [upd_ne m2, upd_ne m2, upd_ne (ne_of_none e hp0)]
          exact e
      · walk_at "rds"
        refine rd_I (by omega) ?_
        refine q (z % many) _ ⟨⟨m, s, c, g1, g2, by omega, hm⟩, fun a o m1 m2 e => ?_⟩ (Int.emod_nonneg _ (by omega)) (.inl (Int.emod_lt_of_pos _ (by omega)))
        rw [upd_ne m2, upd_ne (ne_of_none e hp0)]
        exact e
    · walk_at "rds"
      refine ⟨d, .int c, rfl, dk3_turn f1, ?_⟩
      walk_at "rds"
      refine ⟨d, _, rfl, dk3_putT (t := c + 1) f1, ?_⟩
      have f3 : (upd (upd H p (.lst [])) d (dk3 l s (c + 1))) d = some (dk3 l s (c + 1)) := upd_same
      walk_at "rds"
      refine ⟨d, .int s, rfl, dk3_seed f3, ?_⟩
      walk_at "rds"
      refine rd_I (.inr ⟨by decide, by decide⟩) ?_
      walk_at "rds"
      refine ⟨d, .int (c + 1), rfl, dk3_turn f3, ?_⟩
      walk_at "rds"
      refine rd_I (.inl ⟨by decide, by decide⟩) ?_
      walk_at "rds"
      refine rd_I (by decide) ?_
      walk_at "rds"
      generalize (s * 3935559000370003845 + 2691343689449507681 * (c + 1)) % 9223372036854775783 = one
      refine ⟨d, _, rfl, dk3_putS (t := one) f3, ?_⟩
      walk_at "rds"
      refine rd_I (wide_div (b := 64) (by decide) (by decide) (by decide) (by decide)) ?_
      walk_at "rds"
      refine rd_I (by omega) ?_
      refine q _ _ ⟨⟨ns, one, c + 1, upd_same, (upd_ne hdl.symm).trans ((upd_ne hdl.symm).trans f2), hl, hp⟩, fun a o m1 m2 e => ?_⟩ (Int.emod_nonneg _ (by omega)) (.inl (Int.emod_lt_of_pos _ (by omega)))
      rw [upd_ne m1, upd_ne m1, upd_ne (ne_of_none e hp0)]
      exact e
def spPick : Sp := fun vs H Q _ => ∃ (d l p : Addr) (ys : List V), vs = [.ref d, .ref p] ∧ DeckT d l H ∧ H p = some (.lst ys) ∧ p ≠ d ∧ p ≠ l ∧ 1 ≤ ys.length ∧ ys.length ≤ 1000 ∧
  ∀ (y : V) (H' : Hp), Gt d l H H' → y ∈ ys → Q y H'
theorem ok_pick {f fD : Addr} {fd fdD : FuncData} (F : Fun K "_law_pick" "_law_pick" s_law_pick f fd) (T : Bl mg)
    (G_law_take : FnOk P w K mg base CX0 1 fD fdD ["bag", "many"] spTake) (C_law_take : Callee K mg "_law_take" fD fdD ["bag", "many"]) :
    FnOk P w K mg base CX0 2 f fd ["bag", "some"] spPick := by
  refine F.ok sc_law_pick (fun vs H Q E h => ?_) (fun cdv A outer s H vs Q E hr h => ?_)
  · obtain ⟨d, l, p, ys, rfl, _⟩ := h
    rfl
  · obtain ⟨d, l, p, ys, rfl, hD, hp, n1, n2, h1, h2, q⟩ := h
    refine ⟨_, (pss_one (ps_ret (pe_ix (ik_list (K := K) rfl) (pv 1) (pe_call G_law_take (hr.mono (by decide)) (by rfl) C_law_take.m C_law_take.k C_law_take.b .nil pass0 (pa_cons (pv 0) (pa_cons (pe_callB (c_len (K := K) rfl) (by rfl) T.len (by decide +kernel) (pa_cons (pv 1) pa_nil)) pa_nil))) (fun _ _ => rfl)))), ?_⟩
    refine rd_start (σ' := [some (.ref d), some (.ref p)]) rfl ?_
    walk_at "rds"
    refine rd_lenL (SqL.of hp) ?_
    walk_at "rds"
    refine ⟨d, l, (ys.length : Int), rfl, hD, by omega, by omega, fun r H1 g r0 r1 => ?_⟩
    obtain ⟨k, rfl, hk⟩ : ∃ k : Nat, r = (k : Int) ∧ k < ys.length := ⟨r.toNat, by omega, by omega⟩
    walk_at "rds"
    refine rd_ixL (SqL.of (g.kp p _ n1 n2 hp)) (atI_nat (List.getElem?_eq_getElem hk)) ?_
    exact q _ _ g (List.getElem_mem _)
def spBag (K : PySem.W.Frag) : Sp := fun vs H Q _ => ∃ (a : Addr) (ns : List Int), vs = [.ref a] ∧ SqL K H a (ns.map V.int) ∧ ns.length ≤ 63 ∧
  ∀ (d l : Addr) (H' : Hp), Evl.Ex H H' → H d = none → H l = none → DeckT d l H' → Q (.ref d) H'
theorem ok_bag {f : Addr} {fd : FuncData} (F : Fun K "_law_bag" "_law_bag" s_law_bag f fd) (T : Bl mg) : FnOk P w K mg base CX0 1 f fd ["script"] (spBag K) := by
  refine F.ok sc_law_bag (fun vs H Q E h => ?_) (fun cdv A outer s H vs Q E hr h => ?_)
  · obtain ⟨a, ns, rfl, _⟩ := h
    rfl
  · obtain ⟨a, ns, rfl, ha, hl, q⟩ := h
    refine ⟨_, (pss_cons (ps_set (i := 1) sc_law_bag.nd rfl (Or.inl rfl) (pe_disp (pps_cons pe_str (pe_lst pa_nil) (pps_cons pe_str (pe_op op_add pe_int (pe_callB (c_len (K := K) rfl) (by rfl) T.len (by decide +kernel) (pa_cons (pe_slice (sk_list (K := K) rfl) (pv 0) po_none (po_some pe_int)) pa_nil))) (pps_cons pe_str pe_int pps_nil))) (by rfl) (by rfl) (fun z => by cases z) (by decide)))
 (pss_cons (ps_for PassesOwn.never rfl (ik_listI (K := K) rfl (pe_slice (sk_list (K := K) rfl) (pv 0) po_none (po_some pe_int))) (pg_name (i := 2) sc_law_bag.nd rfl (Or.inl rfl)) (pss_cons (ps_if (pt_cmpR op_ge (pe_callB c_abs (by rfl) T.abs (by decide +kernel) (pa_cons (pv 2) pa_nil)) (pe_op op_pow pe_int pe_int) (nomark _)) (pss_one (ps_dput (hu_of hr) (pv 1) pe_str (pe_op op_cat (pe_lst (pa_cons (pe_callB c_abs (by rfl) T.abs (by decide +kernel) (pa_cons (pv 2) pa_nil)) pa_nil)) (pe_dget (hu_of hr) (pv 1) pe_str (fun _ _ => rfl))) rfl)) pss_nil)
 (pss_cons (ps_set (i := 3) sc_law_bag.nd rfl (Or.inl rfl) (pe_op op_add (pe_op op_mul pe_int (pe_callB c_abs (by rfl) T.abs (by decide +kernel) (pa_cons (pv 2) pa_nil))) (pe_callTy c_int (by rfl) T.int (by decide +kernel) (pa_cons (pe_cmpR op_lt (pv 2) pe_int (nomark _)) pa_nil))))
 (pss_one (ps_dput (hu_of hr) (pv 1) pe_str (pe_op op_mod (pe_callTy c_int (by rfl) T.int (by decide +kernel) (pa_cons (pe_op op_add (pe_op op_mul (pe_op op_add (pe_op op_add (pe_dget (hu_of hr) (pv 1) pe_str (fun _ _ => rfl)) (pv 3)) pe_int) pe_int) pe_int) pa_nil)) pe_int) rfl)))))
 (pss_one (ps_ret (pv 1))))), ?_⟩
    refine rd_start (σ' := [some (.ref a), none, none, none]) rfl ?_
    walk_at "rds"
    refine rd_disp3 fun d hd => ?_
    have e1 : Evl.Ex H (upd H d (.dK [])) := Evl.Ex.new hd
    walk_at "rds"
    refine ⟨Nat.zero_le _, fun l hl0 => ?_⟩
    have hdl : d ≠ l := ne_of_none upd_same hl0
    have e2 := e1.trans (Evl.Ex.new (o := .lst []) hl0)
    walk_at "rds"
    refine rd_slL (Evl.ex_l e2 ha) fun u hu => ?_
    have e3 := e2.trans (Evl.Ex.new (o := .lst (cutV (ns.map V.int) none (some 63))) hu)
    rw [show ((63 : Int)) = ((63 : Nat) : Int) from rfl, cut_take (by omega), List.take_of_length_le (by rw [List.length_map]; exact hl)] at e3 ⊢
    walk_at "rds"
    refine rd_lenL (SqL.of upd_same) ?_
    rw [List.length_map]
    walk_at "rds"
    have hdu : d ≠ u := ne_of_none ((upd_ne hdl).trans upd_same) hu
    have hlu : l ≠ u := ne_of_none upd_same hu
    refine ⟨(upd_ne hdu).trans ((upd_ne hdl).trans upd_same), [(.inr "great", .ref l), (.inr "seed", .int (730062 + (ns.length : Int))), (.inr "turn", .int 0)], rfl, (by show 3 ≤ 15; decide), ?_⟩
    have e4 := Evl.Ex.mut (o := .dK (mergeK [] [(.inr "great", .ref l), (.inr "seed", .int (730062 + (ns.length : Int))), (.inr "turn", .int 0)])) e3 hd
    walk_at "rds"
    refine rd_slL (Evl.ex_l e4 ha) fun v hv => ?_
    have e5 := e4.trans (Evl.Ex.new (o := .lst (cutV (ns.map V.int) none (some ((63 : Nat) : Int)))) hv)
    rw [cut_take (by omega), List.take_of_length_le (by rw [List.length_map]; exact hl)] at e5 ⊢
    have hdv : d ≠ v := ne_of_none upd_same hv
    have hlv : l ≠ v := ne_of_none ((upd_ne hdl.symm).trans ((upd_ne hlu).trans upd_same)) hv
    have hl1 : H l = none := Evl.fresh_back e1 hl0
    have hv1 : H v = none := Evl.fresh_back e4 hv
    refine rd_refL (SqL.of upd_same) ?_
    refine fr_list (xs := ns.map V.int) (fun i σ' H' => ∃ (ms : List Int) (m : Addr) (s : Int) (y z : Option V), σ' = [some (.ref a), some (.ref d), y, z] ∧ Evl.Ex H H' ∧ H' d = some (dk3 m s 0) ∧ H' m = some (.lst (ms.map V.int)) ∧ H m = none ∧
        ms.length ≤ i ∧ (∀ k ∈ ms, 0 ≤ k) ∧ H' v = some (.lst (ns.map V.int)))
      ⟨[], l, _, none, none, rfl, e5, (upd_ne hdv).trans upd_same, (upd_ne hlv).trans ((upd_ne hdl.symm).trans ((upd_ne hlu).trans upd_same)), hl1, Nat.le_refl _, nofun, upd_same⟩
      (fun i σ' H' _ ⟨_, _, _, _, _, _, _, _, _, _, _, _, h⟩ => SqL.of h) (fun i x σ' H1 hi hP => ?_) fun σ' H1 hP => ?_
    · obtain ⟨ms, m, s, y0, z0, rfl, f1, f2, f3, f4, f5, f6, f9⟩ := hP
      rw [List.getElem?_map] at hi
      obtain ⟨t, ht, rfl⟩ := Option.map_eq_some_iff.mp hi
      refine rd_start (σ' := [some (.ref a), some (.ref d), some (.int t), z0]) rfl ?_
      walk_at "rds"
      refine rd_I ⟨by decide, by decide, by decide⟩ ?_
      walk_at "rds"
      refine rd_meet (fun σ' H' => ∃ (ms : List Int) (m : Addr), σ' = [some (.ref a), some (.ref d), some (.int t), z0] ∧ Evl.Ex H H' ∧ H' d = some (dk3 m s 0) ∧ H' m = some (.lst (ms.map V.int)) ∧ H m = none ∧
        ms.length ≤ i + 1 ∧ (∀ k ∈ ms, 0 ≤ k) ∧ H' v = some (.lst (ns.map V.int))) (fun c N kN => ?_) (fun c N kN => ?_) fun σ' H2 hP => ?_
      · walk_at "rds"
        refine ⟨(by show 1 ≤ sizeLine; decide), fun b hb => ?_⟩
        have g1 := Evl.Ex.new (H := H1) (o := .lst [V.int (t.natAbs : Int)]) hb
        walk_at "rds"
        refine ⟨d, .ref m, rfl, dk3_great (g1 _ _ f2), ?_⟩
        refine rd_catL upd_same (g1 _ _ f3) (by rw [List.length_map, sizeLine_eq]; show 1 + _ ≤ _; have := (List.getElem?_eq_some_iff.mp ht).1; omega) fun r hr => ?_
        have g2 := g1.trans (Evl.Ex.new (o := .lst ([V.int (t.natAbs : Int)] ++ ms.map V.int)) hr)
        walk_at "rds"
        refine ⟨d, _, rfl, dk3_putG (m := r) (g2 _ _ f2), ?_⟩
        have hr1 : H1 r = none := Evl.fresh_back g1 hr
        have ndr : d ≠ r := ne_of_none f2 hr1
        have ndv : d ≠ v := hdv
        refine kN _ _ ⟨(t.natAbs : Int) :: ms, r, rfl, Evl.Ex.mut (f1.trans g2) hd, upd_same, (upd_ne ndr.symm).trans upd_same, Evl.fresh_back f1 hr1, by rw [List.length_cons]; omega, fun k hk => ?_, (upd_ne ndv.symm).trans (g2 _ _ f9)⟩
        rcases List.mem_cons.mp hk with rfl | hk
        · omega
        · exact f6 k hk
      · walk_at "rds"
        exact kN _ _ ⟨ms, m, rfl, f1, f2, f3, f4, by omega, f6, f9⟩
      clear f1 f2 f3 f4 f5 f6 f9
      obtain ⟨ms', m', rfl, f1, f2, f3, f4, f5, f6, f9⟩ := hP
      walk_at "rds"
      refine rd_I (.inl ⟨by decide, by decide⟩) ?_
      walk_at "rds"
      refine ⟨d, .int s, rfl, dk3_seed f2, ?_⟩
      walk_at "rds"
      refine rd_I (.inr ⟨by decide, by decide⟩) ?_
      walk_at "rds"
      refine rd_I (by decide) ?_
      walk_at "rds"
      have ndm : d ≠ m' := fun e => by
        rw [← e, f2] at f3
        cases f3
      refine ⟨d, _, rfl, dk3_putS f2, ms', m', _, _, _, rfl, Evl.Ex.mut f1 hd, upd_same, (upd_ne ndm.symm).trans f3, f4, f5, f6, (upd_ne hdv.symm).trans f9⟩
    · obtain ⟨ms, m, s, y0, z0, rfl, f1, f2, f3, f4, f5, f6, f9⟩ := hP
      rw [List.length_map] at f5
      walk_at "rds"
      exact q d m H1 f1 hd f4 ⟨ms, s, 0, f2, f3, by omega, f6⟩
end
end KA
set_option Elab.async false
set_option linter.all false
set_option maxRecDepth 100000
set_option maxHeartbeats 400000
/-! A for over enumerate of a tuple; what lies off the deck. -/
namespace Ea
open PySem PySem.Spec PyProof PyProof.Rows L2
theorem rd_ifV {tt : TT} {te tz : TE} {σ : L2.St} {H : Hp} {Q : VK} (I : V → Hp → Prop) (h1 : ∀ Q' : VK, (∀ v H', I v H' → Q' v H') → tIf tt te tz σ H Q') (h : ∀ v H', I v H' → Q v H') : tIf tt te tz σ H Q := h1 Q h
section
variable {K : PySem.W.Frag} {σ : L2.St} {H : Hp} {tb : TS} {D : Ends} {j1 j2 k : Nat} {n : Nat} {px py : Nat → V} {J : It}
/-- a for over pairs that are made for it -/
theorem fr_pairs (hk : k = 2) (Pv : Nat → L2.St → Hp → Prop) (h0 : Pv 0 σ H) (go : ∀ i σ H', Pv i σ H' → i < n → J.go i H') (stop : ∀ σ H', Pv n σ H' → J.stop n H')
    (yld : ∀ i σ H1 x H2, Pv i σ H1 → i < n → J.yld i H1 x H2 → ∃ T, x = .ref T ∧ H1 T = none ∧ H2 = upd H1 T (.tup [px i, py i]))
    (hs : ∀ i σ H1 T, i < n → Pv i σ H1 → H1 T = none → tb { D with nx := Pv (i + 1), ct := Pv (i + 1), bk := D.nx } ((σ.set j1 (some (px i))).set j2 (some (py i))) (upd H1 T (.tup [px i, py i])))
    (hd : ∀ σ H, Pv n σ H → D.nx σ H) : ForR (gTup K k (gCons (gName j1) (gCons (gName j2) gNil))) tb D σ J H := by
  refine ⟨fun i m σ' H' => i + m = n ∧ Pv i σ' H', ⟨n, by omega, h0⟩, fun i m σ' H' hW => ?_⟩
  obtain ⟨em, hp⟩ := hW
  by_cases hi : i < n
  · refine .inr ⟨go i σ' H' hp hi, Pv (i + 1), fun σ2 H2 h2 => ⟨m - 1, by omega, by omega, h2⟩, fun x H2 hy => ?_⟩
    obtain ⟨T, rfl, hT, rfl⟩ := yld i σ' H' x H2 hp hi hy
    exact rd_gtup2 (x := px i) (y := py i) (SqT.of upd_same) hk rfl (hs i σ' H' T hi hp hT)
  · have hin : i = n := by omega
    subst hin
    exact .inl ⟨stop σ' H' hp, hd σ' H' hp⟩
theorem fr_enumT {a : Addr} {xs : List V} (hk : k = 2) (Pv : Nat → L2.St → Hp → Prop) (h0 : Pv 0 σ H) (hl : ∀ i σ H, Pv i σ H → SqT K H a xs)
    (hs : ∀ i σ H1 T, i < xs.length → Pv i σ H1 → H1 T = none → tb { D with nx := Pv (i + 1), ct := Pv (i + 1), bk := D.nx } ((σ.set j1 (some (.int (i : Nat)))).set j2 (some (xs.getD i .non))) (upd H1 T (.tup [.int (i : Nat), xs.getD i .non])))
    (hd : ∀ σ H, Pv xs.length σ H → D.nx σ H) : ForR (gTup K k (gCons (gName j1) (gCons (gName j2) gNil))) tb D σ (IteT K a) H :=
  fr_pairs (px := fun i => .int (i : Nat)) (py := fun i => xs.getD i .non) hk Pv h0 (fun i σ H' p hi => ⟨xs, xs[i], hl i σ H' p, List.getElem?_eq_getElem hi⟩) (fun σ H' p => ⟨xs, hl _ σ H' p, rfl⟩)
    (fun i σ H1 x H2 p hi hy => by
      obtain ⟨T, y, rfl, hT, rfl, h⟩ := hy
      have := h xs (hl i σ H1 p)
      refine ⟨T, rfl, hT, ?_⟩
      show _ = upd H1 T (.tup [.int (i : Nat), xs.getD i .non])
      rw [List.getD_eq_getElem?_getD, this] <;> rfl) hs hd
end
/-! ### off the deck -/
def off (d l : Addr) (H : Hp) : Hp := fun a => if a = d ∨ a = l then none else H a
section
variable {d l : Addr} {H H' : Hp} {K : PySem.W.Frag}
theorem off_ex : Evl.Ex (off d l H) H := fun a o e => by
  unfold off at e
  by_cases h : a = d ∨ a = l
  · rw [if_pos h] at e
    cases e
  · rw [if_neg h] at e
    exact e
theorem off_mono (h : ∀ a o, a ≠ d → a ≠ l → H a = some o → H' a = some o) : Evl.Ex (off d l H) (off d l H') := fun a o e => by
  unfold off at e ⊢
  by_cases q : a = d ∨ a = l
  · rw [if_pos q] at e
    cases e
  · rw [if_neg q] at e ⊢
    exact h a o (fun z => q (.inl z)) (fun z => q (.inr z)) e
theorem Gl.off (g : Gl d l H H') : Evl.Ex (off d l H) (off d l H') := off_mono g.kp
theorem off_at {p : Addr} {o : HO} (h1 : p ≠ d) (h2 : p ≠ l) (e : H p = some o) : Ea.off d l H p = some o := by
  unfold Ea.off
  rw [if_neg fun z => z.elim h1 h2]
  exact e
theorem off_tup {a : Addr} {xs : List V} (hD : DeckL d l H) (h : SqT K H a xs) : SqT K (Ea.off d l H) a xs := by
  obtain ⟨ns, m, c, e1, e2, _⟩ := hD
  have hn : ∀ {o : HO}, H a = some o → (∀ ys, o ≠ .lst ys) → Ea.off d l H a = some o := fun e c2 =>
    off_at (fun z => (by rw [z, e1] at e; cases e; exact c2 _ rfl)) (fun z => (by rw [z, e2] at e; cases e; exact c2 _ rfl)) e
  rcases h with (t | ⟨o, t⟩) | t
  · exact .inl (.inl (hn t nofun))
  · exact .inl (.inr ⟨o, hn t nofun⟩)
  · exact .inr t
mutual
theorem off_dp (hD : DeckL d l H) : ∀ (e : PyData) (v : V), noL e = true → Dp K H v e → Dp K (Ea.off d l H) v e
  | .none, _, _, h => by
    cases h
    exact .non
  | .bool b, _, _, h => by
    cases h
    exact .bl b
  | .int i, _, _, h => by
    cases h
    exact .int i
  | .str x, _, _, h => by
    cases h
    exact .str x
  | .list ds, _, c, _ => by cases c
  | .dict ds, _, c, _ => by cases c
  | .tuple ds, _, c, h => by
    cases h with
    | tup hs ha => exact .tup (off_tup hD hs) (off_dps hD ds _ c ha)
theorem off_dps (hD : DeckL d l H) : ∀ (es : List PyData) (vs : List V), noLs es = true → DpAll K H vs es → DpAll K (Ea.off d l H) vs es
  | [], _, _, h => by
    cases h
    exact .nil
  | e :: es, _, c, h => by
    have c : (noL e && noLs es) = true := c
    rw [Bool.and_eq_true] at c
    cases h with
    | cons h1 h2 => exact .cons (off_dp hD e _ c.1 h1) (off_dps hD es _ c.2 h2)
end
theorem Dv.on {v : V} {e : PyData} (h : Dv K (Ea.off d l H) v e) : Dv K H v e := h.ex off_ex
theorem Dv.gl {v : V} {e : PyData} (g : Gl d l H H') (h : Dv K (Ea.off d l H) v e) : Dv K (Ea.off d l H') v e := h.ex g.off
end
/-! ### comprehensions over rows of data, each turned into a plain value -/
section
variable {K : PySem.W.Frag} {σ : L2.St} {H : Hp} {Q : VK} {tt : TT} {te : TE} {vs : List Nat} {j : Nat} {σx : V → L2.St} {a : Addr} {xs : List V} {ρ : Type} {F : ρ → PyData} {rs : List ρ} {f : ρ → Bool} {g : ρ → V}
abbrev TurnW (K : PySem.W.Frag) (H : Hp) (tt : TT) (te : TE) (σx : V → L2.St) (F : ρ → PyData) (f : ρ → Bool) (g : ρ → V) (r : ρ) : Prop :=
  ∀ (v : V) (H' : Hp) (N : VK) (S : Hp → Prop), Evl.Ex H H' → Dp K H' v (F r) → (f r = true → ∀ H3, Evl.Ex H' H3 → N (g r) H3) → (f r = false → ∀ H3, Evl.Ex H' H3 → S H3) →
    tt (σx v) H' fun b H2 => if b = true then te (σx v) H2 N else S H2
def Cw (H : Hp) (rs : List ρ) (f : ρ → Bool) (g : ρ → V) (D : Addr) (i : Nat) (H' : Hp) : Prop := H D = none ∧ Evl.Ex H H' ∧ H' D = some (.lst (((rs.take i).filter f).map g))
theorem cw_turn {D : Addr} {i : Nat} {r : ρ} {v : V} {H' : Hp} (hi : rs[i]? = some r) (hz : rs.length ≤ 40000) (ht : TurnW K H tt te σx F f g r) (hv : Dp K H v (F r)) (p : Cw H rs f g D i H') :
    tt (σx v) H' fun b H3 => if b = true then te (σx v) H3 fun y H4 => ∃ acc, H4 D = some (.lst acc) ∧ acc.length < sizeLine ∧ Cw H rs f g D (i + 1) (upd H4 D (.lst (acc ++ [y]))) else Cw H rs f g D (i + 1) H3 := by
  obtain ⟨e, ex, ea⟩ := p
  have hl : (((rs.take i).filter f).map g).length < 100000 := by
    rw [List.length_map]
    have h1 := List.length_filter_le f (rs.take i)
    have h3 := List.length_take (i := i) (l := rs)
    omega
  refine ht v H' _ _ ex (dp_ex ex _ _ hv) (fun hf H3 e3 => ?_) fun hf H3 e3 => ?_
  · refine ⟨_, e3 D _ ea, Evl.sz_lt hl, e, Evl.Ex.mut (ex.trans e3) e, ?_⟩
    have : ((some r).toList.filter f) = [r] := by simp [hf]
    rw [upd_same, List.take_add_one, hi, List.filter_append, List.map_append, this] <;> rfl
  · refine ⟨e, ex.trans e3, ?_⟩
    have : ((some r).toList.filter f) = [] := by simp [hf]
    rw [List.take_add_one, hi, List.filter_append, this, List.append_nil]
    exact e3 D _ ea
theorem lc_dvT (F : ρ → PyData) (f : ρ → Bool) (g : ρ → V) (hx : SqT K H a xs) (hd : DpAll K H xs (rs.map F)) (hz : rs.length ≤ 40000) (hσ : ∀ x, (wipe σ vs).set j (some x) = σx x) (hw : ∀ x, wipe (σx x) vs = wipe σ vs)
    (hs : ∀ r ∈ rs, TurnW K H tt te σx F f g r)
    (hq : ∀ D H', Evl.Ex H H' → H D = none → H' D = some (.lst ((rs.filter f).map g)) → Q (.ref D) H') : LcR (gName j) tt te vs σ Q (Itt K a) H := fun D hn =>
  lc_tup (xs := xs) (Cw H rs f g D) ⟨hn, Evl.Ex.new hn, upd_same⟩ (fun i H' _ ⟨_, ex, _⟩ => Evl.ex_t ex hx) (fun i x H' hi p => by
    obtain ⟨d, h1, h2⟩ := dpAll_at hd hi
    rw [List.getElem?_map] at h1
    obtain ⟨r, hr, rfl⟩ := Option.map_eq_some_iff.mp h1
    rw [show gName j x (wipe σ vs) H' = fun N => N (σx x) H' from funext fun N => by rw [← hσ x] <;> rfl]
    exact ⟨hw _, cw_turn hr hz (hs r (List.mem_of_getElem? hr)) h2 p⟩) fun H' p => by
    obtain ⟨e, ex, ea⟩ := p
    have lx := dpAll_size hd
    rw [List.length_map] at lx
    rw [lx, List.take_of_length_le (Nat.le_refl _)] at ea
    exact hq D H' ex e ea
theorem lc_dvL (F : ρ → PyData) (f : ρ → Bool) (g : ρ → V) (hx : SqL K H a xs) (hd : DpAll K H xs (rs.map F)) (hz : rs.length ≤ 40000) (hσ : ∀ x, (wipe σ vs).set j (some x) = σx x) (hw : ∀ x, wipe (σx x) vs = wipe σ vs)
    (hs : ∀ r ∈ rs, TurnW K H tt te σx F f g r)
    (hq : ∀ D H', Evl.Ex H H' → H D = none → H' D = some (.lst ((rs.filter f).map g)) → Q (.ref D) H') : LcR (gName j) tt te vs σ Q (Itl K a) H := fun D hn =>
  lc_list (xs := xs) (Cw H rs f g D) ⟨hn, Evl.Ex.new hn, upd_same⟩ (fun i H' _ ⟨_, ex, _⟩ => Evl.ex_l ex hx) (fun i x H' hi p => by
    obtain ⟨d, h1, h2⟩ := dpAll_at hd hi
    rw [List.getElem?_map] at h1
    obtain ⟨r, hr, rfl⟩ := Option.map_eq_some_iff.mp h1
    rw [show gName j x (wipe σ vs) H' = fun N => N (σx x) H' from funext fun N => by rw [← hσ x] <;> rfl]
    exact ⟨hw _, cw_turn hr hz (hs r (List.mem_of_getElem? hr)) h2 p⟩) fun H' p => by
    obtain ⟨e, ex, ea⟩ := p
    have lx := dpAll_size hd
    rw [List.length_map] at lx
    rw [lx, List.take_of_length_le (Nat.le_refl _)] at ea
    exact hq D H' ex e ea
end
theorem rd_noneI {K : PySem.W.Frag} {H : Hp} {Q : VK} {a p : Addr} {ns : List Int} (hx : SqL K H a (ns.map V.int)) (hp : SqL K H p []) (q : Q (.bl ns.isEmpty) H) : rEqD K (.ref a) (.ref p) H Q :=
  ⟨.list (dI ns), .list [], .lst hx (dp_ints ns), .lst hp .nil, shaped_ints ns, rfl, by cases ns <;> exact q⟩
theorem rd_someI {K : PySem.W.Frag} {H : Hp} {Q : VK} {a p : Addr} {ns : List Int} (hx : SqL K H a (ns.map V.int)) (hp : SqL K H p []) (q : Q (.bl (!ns.isEmpty)) H) : rNeD K (.ref a) (.ref p) H Q :=
  ⟨.list (dI ns), .list [], .lst hx (dp_ints ns), .lst hp .nil, shaped_ints ns, rfl, by cases ns <;> exact q⟩
/-! ### without the list at o -/
def wo (o : Addr) (H : Hp) : Hp := fun a => if a = o then none else H a
section
variable {d l o : Addr} {H H' : Hp} {K : PySem.W.Frag}
theorem wo_mono (h : ∀ a u, a ≠ o → H a = some u → H' a = some u) : Evl.Ex (wo o H) (wo o H') := fun a u e => by
  unfold wo at e ⊢
  by_cases q : a = o
  · rw [if_pos q] at e
    cases e
  · rw [if_neg q] at e ⊢
    exact h a u q e
theorem wo_ex : Evl.Ex (wo o H) H := fun a u e => by
  unfold wo at e
  by_cases h : a = o
  · rw [if_pos h] at e
    cases e
  · rw [if_neg h] at e
    exact e
theorem wo_new (h : H o = none) : Evl.Ex H (wo o H) := fun a u e => by
  unfold wo
  rw [if_neg (ne_of_none e h)]
  exact e
theorem wo_tup {a : Addr} {xs ys : List V} (ho : H o = some (.lst ys)) (h : SqT K H a xs) : SqT K (wo o H) a xs := by
  have hn : ∀ {u : HO}, H a = some u → (∀ ys, u ≠ .lst ys) → wo o H a = some u := fun e c => by
    unfold wo
    rw [if_neg fun z => (by rw [z, ho] at e; cases e; exact c _ rfl)]
    exact e
  rcases h with (t | ⟨u, t⟩) | t
  · exact .inl (.inl (hn t nofun))
  · exact .inl (.inr ⟨u, hn t nofun⟩)
  · exact .inr t
theorem wo_at {a : Addr} {u : HO} (h : a ≠ o) (e : H a = some u) : wo o H a = some u := by
  unfold wo
  rw [if_neg h]
  exact e
theorem wo_gl (g : Gl d l H H') : Evl.Ex (wo o (off d l H)) (wo o (off d l H')) := wo_mono fun a u _ e => g.off a u e
theorem wo_mut {u : HO} : Evl.Ex (wo o (off d l H)) (wo o (off d l (upd H o u))) := wo_mono fun a v h e => by
  unfold off at e ⊢
  by_cases q : a = d ∨ a = l
  · rw [if_pos q] at e
    cases e
  · rw [if_neg q] at e ⊢
    rw [upd_ne h]
    exact e
end
end Ea
set_option Elab.async false
set_option linter.all false
set_option maxRecDepth 100000
set_option maxHeartbeats 1000000
/-! A tuple times an int, also times one. -/
namespace Ea
open PySem PySem.Spec PyProof PyProof.Rows L2
theorem tuple_mul1 (l : Addr) (items : Array Value) (n : Nat) (dd : Option Addr) (sl : Array (Option Value)) (x : Int) (u : Tok) (c0 : (decide (x < -(2 ^ 63)) || decide (x ≥ 2 ^ 63)) = false) (c1 : (items.isEmpty || x == 1) = true) :
    Meets (Builtin.«tuple.__mul__» ⟨[.ref l, .int x u], []⟩) (fun _ R s => s.heap.get? l = some { cls := .type "tuple", dict := dd, data := .seq items n, slots := sl } ∧
      R (.ok (.ret (Value.ref l))) s) :=
  .of_wp fun prog w A R s h => by
    obtain ⟨hp, g, d, tk, os⟩ := s
    obtain ⟨hl, h⟩ := h
    have f1 := AutoSeq1.idx_int
    wp_walk using wpAny_loadPart' hl
    repeat (first
      | (refine wpAny_ite_false (decide_eq_false (by rw [c0]; exact Bool.false_ne_true)) ?_; wp_walk using wpAny_loadPart' hl)
      | (refine wpAny_ite_true (decide_eq_true c1) ?_; wp_walk using wpAny_loadPart' hl))
    exact ⟨_, rfl, h⟩
theorem op_repT1 {X : Cx} {K : PySem.W.Frag} (hK : X.K = K) : OpR X (binaryOp .Mult) (fun x y H Q => ∃ l xs, x = .ref l ∧ y = .int 1 ∧ SqT K H l xs ∧ Q (.ref l) H) := by
  subst hK
  intro pins s σ H x y v u Q I rx ry h
  obtain ⟨l, xs, rfl, rfl, hT, q⟩ := h
  cases rx
  obtain ⟨t, rfl⟩ := ry
  obtain ⟨its, r, ⟨⟨cls, dd, data, sl⟩, ho, hc, n, hd⟩, hs⟩ := I.tuple hT
  simp only at hc hd
  subst hc hd
  refine wpAny_binaryOp_repeat_ref (T := "tuple") (U := "int") (by decide) ⟨_, ho, rfl⟩ (fun s' => typeIs_int s' 1 t) noFill_tuple_mul F.fills_int_mul F.slot_int_rmul repeat_tuple F.slot_int_index.lookup
    (call_meets F.slot_int_rmul (typeIs_int s 1 t) F.entry_int_rmul (F.args_int_rmul_2 _ _) (int_rmul_tuple 1 t l its.toArray n dd sl)
      ⟨ho, rfl, ⟨_, ho, rfl⟩, call_meets F.slot_tuple_mul ⟨_, ho, rfl⟩ F.entry_tuple_mul (F.args_tuple_mul_2 _ _) (tuple_mul1 l its.toArray n dd sl 1 t (by decide) (by rw [Bool.or_eq_true]; exact .inr rfl)) ⟨ho, ?_⟩⟩)
  exact ⟨.ref l, H, I, rfl, q⟩
/-- a tuple of at least one, times k from 1 on -/
def rRepA (K : PySem.W.Frag) : R2 := fun x y H Q => ∃ l k xs, x = .ref l ∧ y = .int k ∧ SqT K H l xs ∧ xs ≠ [] ∧ 1 ≤ k ∧ k ≤ 1000 ∧ xs.length ≤ 1000 ∧
  ∀ (p : Addr) (H' : Hp), Evl.Ex H H' → SqT K H' p (List.replicate k.toNat xs).flatten → Q (.ref p) H'
theorem op_repA {X : Cx} {K : PySem.W.Frag} (hK : X.K = K) : OpR X (binaryOp .Mult) (rRepA K) := by
  subst hK
  intro pins s σ H x y v u Q I rx ry h
  obtain ⟨l, k, xs, rfl, rfl, hT, hne, h1, h2, hz, q⟩ := h
  by_cases c : k = 1
  · subst c
    refine op_repT1 rfl pins s σ H _ _ v u Q I rx ry ⟨l, xs, rfl, rfl, hT, q l H (Evl.Ex.refl _) ?_⟩
    have : (List.replicate (1 : Int).toNat xs).flatten = xs := by simp
    rw [this]
    exact hT
  · exact op_repT pins s σ H _ _ v u Q I rx ry ⟨l, k, xs, rfl, rfl, hT, hne, by omega, h2, hz, fun p hp => q p _ (Evl.Ex.new hp) (SqT.of upd_same)⟩
theorem rd_repA {K : PySem.W.Frag} {H : Hp} {Q : VK} {l : Addr} {k : Int} {xs : List V} (hT : SqT K H l xs) (hne : xs ≠ []) (h1 : 1 ≤ k) (h2 : k ≤ 1000) (hz : xs.length ≤ 1000)
    (q : ∀ (p : Addr) (H' : Hp), Evl.Ex H H' → SqT K H' p (List.replicate k.toNat xs).flatten → Q (.ref p) H') : rRepA K (.ref l) (.int k) H Q := ⟨l, k, xs, rfl, rfl, hT, hne, h1, h2, hz, q⟩
end Ea
set_option Elab.async false
set_option linter.all false
set_option maxRecDepth 100000
set_option maxHeartbeats 1000000
/-! An own error over ValueError whose __init__ says super().__init__(text) and keeps what it was given. -/
namespace Ea
open PySem PySem.Spec PyProof PyProof.Rows L2 NdefX
def spSup (C : Addr) (fld : Str) : Sp := fun vs H Q _ => ∃ (a : Addr) (y : V), vs = [.ref a, y] ∧ H a = some (exo a C none) ∧
  ∀ dx, H dx = none → dx ≠ a → Q .non (upd (upd H dx (exd dx [(fld, y)])) a (exo a C (some dx)))
/-- the wrapper's call -/
theorem call_wrap {prog : Program} {w : World} {A : Around} {E : Value → Shared → Prop} {s : Shared} {K : PySem.W.Frag} {C a u t0 : Addr} {rest : List Value} {Q : Value → Shared → Prop} (KX : K.In s.heap)
    (q : PySem.W.excInitIn K C [.type "ValueError", .type "Exception", .type "BaseException", .type "object"] "ValueError.__new__" = true)
    (he : s.heap.get? a = some (PySem.W.excObj C t0 none .none)) (hu : s.heap.get? u = some (PySem.W.kxs_mw "ValueError.__init__" a)) (hz : rest.length ≤ sizeLine)
    (h : ∀ h' t1, (∀ b o, b ≠ a → s.heap.get? b = some o → h'.get? b = some o) → h'.get? a = some (PySem.W.excObj C t1 none .none) → Q .none { s with heap := h' }) :
    wpAny (model prog w) A (call (.ref u) rest) Q E s := by
  obtain ⟨nm, N', qn, bs, bm, hdct, sn, sub, ab, col, dd, k0, k1, k2, k3, k5, hC, hT⟩ := PySem.W.excInit_of KX q
  obtain ⟨hh, g, d, tk, os⟩ := s
  refine wpAny_call (codeAny_of_tree ?_)
  show wpAny _ A.in1 (callAny (.ref u) ⟨rest, []⟩) _ _ _
  simp only [callAny]
  refine wpAny_bind (wpAny_load hu ?_)
  simp only [PySem.W.kxs_mw, show (Value.type "method-wrapper" == Value.type "method" || Value.type "method-wrapper" == Value.type "builtin_function_or_method" || Value.type "method-wrapper" == Value.type "method-wrapper") = true by decide, if_true]
  refine PySem.W.KFB.if_so (by decide) ?_
  refine wpAny_bind (PySem.W.check_bound_init PySem.F.excBase_ValueError.toExcCallFacts hC he rfl ?_)
  refine wpAny_bind (wpAny_pure (wpAny_pure ?_))
  refine ⟨plainId_quiet PySem.F.excBase_ValueError.init.plain _, codeAny_builtin PySem.F.excBase_ValueError.initEntry ?_⟩
  exact PySem.W.exc_init_tree (cls := .ref C) (t0 := t0) (dv := none) (c2 := .none) (c3 := .none) (b4 := .bool false) he hz fun h' k e' t' => h h' _ k e'
theorem cw1 {M : Model} {A : Around} {E : Value → Shared → Prop} {s : Shared} {u x : Addr} {i : String} {pos : Pos} {env : Env} {e : Expr} {rest : List Expr} {Q : Value → Shared → Prop}
    (h : wpAny M A (spliced (backTo pos (starEach (e :: rest) env))) (fun vs s₁ => PySem.W.KxsAt i u x s₁.heap ∧ wpAny M A (call (.ref u) vs) Q E s₁) E s)
    (he : starEach (e :: rest) env = (false, eval e env) :: starEach rest env := by rfl) (hplain : (backTo pos (starEach rest env)).any (·.1) = false := by rfl) :
    wpAny M A (callWith pos (.ref u) [] (backTo pos (starEach (e :: rest) env)) []) Q E s := by
  rw [he] at h ⊢
  refine PySem.W.kxs_callWith (i := i) (x := x) (by show (false || (backTo pos (starEach rest env)).any (·.1)) = false; rw [hplain]; rfl) ?_
  exact Calls.evalArgs_plain h
section
variable {P : Program} {w : World} {K : PySem.W.Frag} {mg : Str → Option Value} {base : Heap} {C fI cc cda : Addr} {nm qual fld msg file self : Str} {args : Arguments} {sc : Scope} {kV doc pm ct oc c1 cl : Value} {an od c2 cld : Option Addr} {osl c3 csl : Array (Option Value)} {vs : Array Value} {tf : Tok}
  {p0 p1 p2 p3 p4 p5 p6 p7 p8 p9 : Pos} {kk : Nat} {k : Nat}
abbrev supCall (msg : Str) (p0 p1 p2 p3 p4 : Pos) (kk : Nat) : Expr := .Call (.Attribute (.Call (.Name "super" p0) [] [] p1) "__init__" p2) [.Constant (.str msg) kk p3] [] p4
abbrev supBody (self fld msg : Str) (p0 p1 p2 p3 p4 p5 p6 p7 p8 p9 : Pos) (kk : Nat) : List Stmt :=
  [.Expr (supCall msg p0 p1 p2 p3 p4 kk) p5, .Assign [.Attribute (.Name self p6) fld p7] (.Name fld p8) p9]
theorem ok_super (T : OexC K C)
    (q : PySem.W.excInitIn K C [.type "ValueError", .type "Exception", .type "BaseException", .type "object"] "ValueError.__new__" = true)
    (lf : K.lookup fI = some ⟨oc, od, .func (PySem.W.ksFn nm qual args (supBody self fld msg p0 p1 p2 p3 p4 p5 p6 p7 p8 p9 kk) sc .none kV doc pm an (.ref cda) ct cc), osl⟩)
    (hcd : PySem.W.codeIn K (.ref cda) qual = true) (lc : K.lookup cda = some ⟨c1, c2, .fields vs, c3⟩) (hvs : vs[2]? = some (.str file tf)) (hfile : ((P.main.file : Str) == file) = true)
    (htop : (P.main.scope.names.lookup ("super" : Str)).isSome = false) (lcell : K.lookup cc = some ⟨cl, cld, .cell (some (.ref C)), csl⟩)
    (hsub : PySem.W.mroIn K C (.ref C) = some true) (hsup : PySem.W.ks_superIn K C C "__init__" = some (some (.builtin "ValueError.__init__")))
    (hB : PySem.W.subIn K (.ref C) (.type "ValueError") = some true) (hop : PySem.W.nsIn K cStatics "thirdparty.any" = some none) (hmg : mg "super" = none)
    (hfind : PySem.W.findIn K (.ref C) fld = some none) (S : NScope [self, fld, "__class__"] [self, fld] ["__class__"] sc)
    (hks : sc.names.lookup ("super" : Str) = some .globalImplicit) {ar : Arg} (ha1 : (args.posonlyargs ++ args.args).head? = some ar) (har : ar.arg = self) (hne : (self == fld) = false) (v1 : Vis sc self) (v2 : Vis sc fld) (n1 : (self == ("__debug__" : Str)) = false) (n2 : (self == ("__classdict__" : Str)) = false) (n3 : (fld == ("__debug__" : Str)) = false) (n4 : (fld == ("__classdict__" : Str)) = false)
    {pl : Addr → Sem Bool} (hev : ∀ L : Addr, eval (supCall msg p0 p1 p2 p3 p4 kk) (PySem.W.envX qual sc L fI (.ref cda) [("__class__", cc)]) = (do
      let ov ← attributeBase (.Call (.Name "super" p0) [] [] p1) "__init__" (PySem.W.envX qual sc L fI (.ref cda) [("__class__", cc)]) (eval (.Call (.Name "super" p0) [] [] p1) (PySem.W.envX qual sc L fI (.ref cda) [("__class__", cc)]))
      standAt p2.atName
      let (f, first) ← holding [ov] (getMethod ov "__init__" (pl L))
      callWith p4 f first (backTo p4 (starEach [.Constant (.str msg) kk p3] (PySem.W.envX qual sc L fI (.ref cda) [("__class__", cc)]))) []))
    (hin : ∀ L : Addr, interactive (PySem.W.envX qual sc L fI (.ref cda) [("__class__", cc)]) = false)
    (hsw : ∀ L : Addr, swapsWith (supCall msg p0 p1 p2 p3 p4 kk) none p5.line (PySem.W.envX qual sc L fI (.ref cda) [("__class__", cc)]) = pure false)
    (hsw2 : ∀ L : Addr, swapsWith (.Name fld p8) (some (.Attribute (.Name self p6) fld p7)) p9.line (PySem.W.envX qual sc L fI (.ref cda) [("__class__", cc)]) = pure false) :
    FnOk P w K mg base CX0 (k + 1) fI (PySem.W.ksFn nm qual args (supBody self fld msg p0 p1 p2 p3 p4 p5 p6 p7 p8 p9 kk) sc .none kV doc pm an (.ref cda) ct cc) [self, fld] (spSup C fld) := by
  refine ⟨fun vs H Q E ⟨_, _, e, _⟩ => by rw [e]; rfl, fun A outer s H ar0 us vals Q E hr e0 hb r hsp => ?_⟩
  obtain ⟨a, y, rfl, ha, hq⟩ := hsp
  obtain ⟨u1, u2, rfl, r1, r2⟩ := vals2 r
  cases (show u1 = Value.ref a from r1)
  have hb : BindsTo s _ ar0 [(self, Value.ref a), (fld, u2)] := hb
  have KX : K.In s.heap := e0.mod.kin.keeps fun b o e => (e0.bs b o e).1
  have lim : s.heap.NoLimit := e0.mod.nolimit.keeps fun b o e => (e0.bs b o e).1
  refine codeAny_call_function hr.depth (KX _ _ lf) rfl S.co S.gen rfl (PySem.W.codeRec_of KX hcd) (hb _ _ _ _ ?_)
  refine wpAny_newFunctionEnv S.nocell (fun y hy => ?_) (fun h₁ hns hsb => ⟨lim.fresh _ hsb, ?_⟩) S.kind
  · simp only [List.mem_cons, List.not_mem_nil, or_false] at hy
    rcases hy with rfl | rfl
    · exact S.par _ (by simp)
    · exact S.par _ (by simp)
  let F : NF := ⟨nm, qual, args, supBody self fld msg p0 p1 p2 p3 p4 p5 p6 p7 p8 p9 kk, sc, [("__class__", cc)], cda⟩
  have kp : ∀ b o, s.heap.get? b = some o → h₁.get? b = some o := fun b o e => hsb.extBut b o (Nat.ne_of_lt (Heap.lt_size e)) (Heap.get?_push_of_some _ e)
  have hHc : H cc = none := (e0.bs _ _ (e0.mod.kin _ _ lcell)).2
  have cells : CellsAt F.cl ["__class__"] [some (.ref C)] s.heap H := {
    len := rfl
    all := fun y c e => by
      have e : List.lookup y [((Str.ofString "__class__"), cc)] = some c := e
      unfold List.lookup at e
      split at e
      · cases e
        exact ⟨hHc, _, _, KX _ _ lcell, rfl⟩
      · cases e
    inj := fun x y c e1 e2 => by
      have e1 : List.lookup x [((Str.ofString "__class__"), cc)] = some c := e1
      have e2 : List.lookup y [((Str.ofString "__class__"), cc)] = some c := e2
      have one : ∀ {x : Str}, List.lookup x [((Str.ofString "__class__"), cc)] = some c → x = Str.ofString "__class__" := fun {x} e => by
        unfold List.lookup at e
        split at e
        · next h => exact eq_of_beq h
        · cases e
      rw [one e1, one e2]
    has := fun i y e => by
      cases i with
      | zero =>
        cases e
        refine ⟨cc, by simp [List.lookup, F], fun v hv => ?_⟩
        cases hv
        exact ⟨.ref C, rfl, _, KX _ _ lcell, rfl⟩
      | succ i => simp at e }
  have I : Inv (ncx CX0 P w K mg base [self, fld, "__class__"] F fI A outer s H E) [] (startF [self, fld, "__class__"] [.ref a, y] [some (.ref C)]) H { s with heap := h₁, toks := s.toks + [(self, Value.ref a), (fld, u2)].length } :=
    inv_startN (us := [.ref a, u2]) S hr.hd e0 rfl r cells hns kp
  have hloc : h₁.Ns s.heap.objs.size fun x => ([(self, Value.ref a), (fld, u2)]).reverse.lookup x := hns
  have hFb : F.body = supBody self fld msg p0 p1 p2 p3 p4 p5 p6 p7 p8 p9 kk := rfl
  have hkc : sc.names.lookup ("__class__" : Str) = some .free := S.frk _ (by simp)
  have hkself : sc.names.lookup self = some .local := S.par _ (by simp)
  have hvself : ([(self, Value.ref a), (fld, u2)]).reverse.lookup self = some (.ref a) := by simp [List.lookup, hne]
  show codeAny _ _ (.func (supBody self fld msg p0 p1 p2 p3 p4 p5 p6 p7 p8 p9 kk) (envF F fI s.heap.objs.size)) _ _
  generalize hs1 : ({ s with heap := h₁, toks := s.toks + [(self, Value.ref a), (fld, u2)].length } : Shared) = s1 at I ⊢
  have hh1 : s1.heap = h₁ := by rw [← hs1]
  clear hs1
  obtain ⟨hh, g, d, tk, os⟩ := s1
  obtain rfl : hh = h₁ := hh1
  obtain ⟨t1, hoe⟩ := exo_at I.hok ha
  obtain ⟨nm1, q1, N1, bs1, bm, sn1, sub1, ab1, col1, dd1, x0, x1, x2, x3, x5, hC, hbm⟩ := T.cls
  have hcl : PySem.W.clsIn K C = some { name := nm1, bases := bs1, mro := .ref C :: bm, ns := N1, qualname := q1, hasDict := true, slotNames := sn1, subclasses := sub1, abstract := ab1, collection := col1, hasDel := false } := by unfold PySem.W.clsIn; rw [hC] <;> rfl
  have hCn : H C = none := (e0.bs _ _ (e0.mod.kin _ _ hC)).2
  obtain ⟨mb, hb1, hb2⟩ := e0.mod.blt
  refine ks_codeAny_funcAt ?_
  refine ks_wpAt_execs_cons ?_
  refine ks_wpAt_mono (Q := fun fl s' => fl = .next ∧ Inv (ncx CX0 P w K mg base [self, fld, "__class__"] F fI A outer s H E) [] (startF [self, fld, "__class__"] [.ref a, y] [some (.ref C)]) H s') ?_ (fun fl s' hs => ?_) fun _ _ z => z
  · refine ks_wpAt_Expr_any (ks_wpAt_MethodCall (ks_wpAt_super_base (env := envF F fI s.heap.objs.size) hks hkc rfl rfl (I.kIn _ _ lf) rfl ha1 rfl (I.kIn _ _ lc) rfl hvs hfile htop ?_) (hev _)) (hin _) (hsw _)
    refine PySem.W.ks_loadName_global S.kind hks (Calls.loadGlobal_builtin (env := envF F fI s.heap.objs.size) (I.mod.glob.keeps I.bk) hmg (hb1.keeps I.bk) ((hb2 _ (by decide)).trans (by rfl)) ⟨rfl, ?_⟩)
    refine wpAny_loadName_free S.kind hkc rfl ⟨_, I.kIn _ _ lcell, rfl⟩ ?_
    rw [har]
    refine wpAny_loadName_local S.kind hkself hloc hvself ?_
    refine ks_wpAny_isType_cls (I.kIn _ _ hC) rfl ⟨rfl, ?_⟩
    refine ks_wpAny_call_super (I.kIn _ _ hC) rfl hoe rfl (fun c e => by cases e) (PySem.W.looks_mroIn I.kIn hsub) fun h' e k => ?_
    have J1 := I.kept (t' := tk) k
    have hal : PySem.W.alongIn K "__init__" (((Value.ref C :: bm).dropWhile (· != .ref C)).drop 1) = some (some (.builtin "ValueError.__init__")) := by
      have z := hsup
      unfold PySem.W.ks_superIn at z
      rw [hcl] at z
      exact z
    have IA : PySem.W.InstAt h' a (PySem.W.excObj C t1 none .none) C none := ⟨k _ _ hoe, rfl, rfl, trivial⟩
    refine PySem.W.kxs_getMethod PySem.W.kxs_ValueError e (PySem.W.looks_opaque J1.kIn hop) (l₀ := .ref C :: bm) (fun A Q E s k q => wpAny_bind ((PySem.W.looks_clsIn J1.kIn hcl) A _ E s k (wpAny_pure q))) rfl J1.kIn hal (IA.type.andThen (PySem.W.looks_subIn J1.kIn hB)) (ne_of_none ha hCn) (by decide) ?_
    have J2 := J1.kept (t' := tk + 1) (h' := h'.push (PySem.W.kxs_mw "ValueError.__init__" a)) fun b o q => Heap.get?_push_of_some _ q
    have hu : (h'.push (PySem.W.kxs_mw "ValueError.__init__" a)).get? h'.objs.size = some (PySem.W.kxs_mw "ValueError.__init__" a) := Heap.get?_push_at rfl rfl
    refine cw1 (i := "ValueError.__init__") (x := a) (PyProof.Rows.spliced_more (Calls.Constant_str (PyProof.Rows.spliced_none ⟨hu, ?_⟩)))
    refine call_wrap (K := K) J2.kIn q (Heap.get?_push_of_some _ (k _ _ hoe)) hu (by show 1 ≤ sizeLine; decide) fun h'' t2 k2 e2 => ⟨rfl, ?_⟩
    have J3 := J2.write (x := a) (e := a) (o := exo a C none) (t' := tk + 1 + 1) (by rw [ha]; exact True.intro) (.inl rfl) k2 ⟨_, e2⟩ (exo_ok e2)
    have eu : upd H a (exo a C none) = H := by
      funext b
      by_cases hb : b = a
      · rw [hb, upd_same, ha]
      · rw [upd_ne hb]
    rw [eu] at J3
    exact J3
  · obtain ⟨rfl, J⟩ := hs
    refine wpAt_of_wpAny ?_
    have hps : PSs (ncx CX0 P w K mg base [self, fld, "__class__"] F fI A outer s H E) [.Assign [.Attribute (.Name self p6) fld p7] (.Name fld p8) p9] (tOst K fld (tVar 0) (tVar 1)) :=
      pss_one (ps_ost (pe_var (i := 0) rfl v1 n1 n2) (pe_var (i := 1) rfl v2 n3 n4) (hsw2 _))
    have hread : tOst K fld (tVar 0) (tVar 1) { nx := fun _ H' => Q .non H', rt := Q } (startF [self, fld, "__class__"] [.ref a, y] [some (.ref C)]) H :=
      ⟨y, rfl, .ref a, rfl, a, C, rfl, T, hfind, .inl ⟨ha, hq⟩⟩
    refine wpAny_mono (hps.run [] _ _ H _ J hread) (fun fl s' hs => ?_) fun e s' hs => hs
    have fin : ∀ {σ' : L2.St} {H' : Hp} {v : V} {u : Value}, Inv (ncx CX0 P w K mg base [self, fld, "__class__"] F fI A outer s H E) [] σ' H' s' → L2.RelV v u → Q v H' → CE outer P w H s Q u s' :=
      fun {σ' H' v u} J rv q => ⟨v, H', J.os, J.bare, J.base, J.hok, rv, q⟩
    cases fl with
    | ret u =>
      obtain ⟨v, σ', H', J, rv, q⟩ := hs
      exact fin J rv q
    | next =>
      obtain ⟨σ', H', J, q⟩ := hs
      exact fin (v := V.non) (u := Value.none) J rfl q
    | brk =>
      obtain ⟨_, _, _, q⟩ := hs
      exact False.elim q
    | cont =>
      obtain ⟨_, _, _, q⟩ := hs
      exact False.elim q
end
end Ea
set_option Elab.async false
set_option linter.all false
set_option maxRecDepth 100000
set_option maxHeartbeats 1000000
/-! A caught error that has a dict: a field of it, isinstance of it. -/
namespace Ea
open PySem PySem.Spec PyProof PyProof.Rows L2
section
variable {X : Cx} {C : Addr} {fld : Str}
/-- e.fld, e the exception that the suite holds -/
def tByF (fld : Str) (C a : Addr) (cls : Value) (d : Option Addr) (te : TE) : TE := fun σ H Q => te σ H fun x H1 => x = .ref a ∧ cls = .ref C ∧ ∃ (dd : Addr) (v : V), d = some dd ∧ H1 dd = some (.xd [(fld, v)]) ∧ Q v H1
theorem pe_byF {a : Addr} {oe : Obj} {cls : Value} {d : Option Addr} {pn : List (Addr × Obj)} {e : Expr} {te : TE} {pos : Pos} (T : ExcC X.K C) (noN : PySem.W.findIn X.K (.ref C) fld = some none) (hz : Zc cls d oe) (hf : ∃ vs, oe.data = .fields vs) (he : PE (X.suite a ((a, oe) :: pn)) e te)
    (hb : attributeBase e fld X.env (eval e X.env) = eval e X.env := by rfl) :
    PE (X.suite a ((a, oe) :: pn)) (.Attribute e fld pos) (tByF fld C a cls d te) := by
  refine ⟨fun pins s σ H Q I h => ?_⟩
  refine attr_of hb (thn (he.run pins s σ H _ I h) fun u s1 hh => ?_)
  obtain ⟨x, H1, I1, rx, ex, ec, dd, v, ed, ea, q⟩ := hh
  subst ex
  obtain rfl : u = Value.ref a := rx
  subst ec
  subst ed
  obtain ⟨ha, _⟩ := I1.pin (a, oe) (List.mem_append_left _ List.mem_cons_self)
  obtain ⟨vs, hd⟩ := hf
  have hx : ObjOk X.prog X.w H1 s1.heap dd (.xd [(fld, v)]) := I1.hok dd _ ea
  obtain ⟨mA, hns, hr⟩ := hx
  obtain ⟨od, ho, hl⟩ := lookIn_ns hns
  have l : List.lookup fld [(fld, v)] = some v := by simp [List.lookup]
  obtain ⟨u, hu, ru⟩ := RelO.some_of (v := v) (o := mA fld) (by rw [← l]; exact hr fld)
  have J : PySem.W.InstAt s1.heap a oe C (some od) := ⟨ha, hz.1, by unfold PySem.W.notCls; rw [hd] <;> rfl, by rw [hz.2]; exact ho⟩
  exact HandSPX.exc_get I1.kIn J T.hg T.hk T.hs (PySem.W.findObj_own T.hd noN rfl (by rw [hl, hu])) (handed_of ru) ⟨v, H1, I1.tok _, ru, q⟩
/-- isinstance(e, c), e with a dict -/
def rIsE2 (K : PySem.W.Frag) (D a : Addr) (cls : Value) (d : Option Addr) : List V → Hp → VK → Prop := fun xs H Q => ∃ (c : V) (cv : Value) (b : Bool), xs = [.ref a, c] ∧ cls = .ref D ∧ (∃ dd fs, d = some dd ∧ H dd = some (.xd fs)) ∧ (∀ u, RelV c u → u = cv) ∧ PySem.W.kitOne K (.ref D) cv = some b ∧ Q (.bl b) H
theorem call_isE2 {a D : Addr} {cls : Value} {d : Option Addr} {oe : Obj} {pn : List (Addr × Obj)} (C : ExcC X.K D) (hz : Zc cls d oe) (hf : ∃ vs, oe.data = .fields vs) : CallR (X.suite a ((a, oe) :: pn)) (.builtin "isinstance") (rIsE2 X.K D a cls d) := by
  intro pins s σ H xs us Q I r h
  obtain ⟨c, cv, b, rfl, ec, ⟨dd, fs, ed, hx⟩, hcv, e, q⟩ := h
  subst ec
  subst ed
  cases r with
  | cons rx rr =>
    cases rr with
    | cons rt rr =>
      cases rr
      cases rx
      have ec := hcv _ rt
      subst ec
      obtain ⟨hget, _⟩ := I.pin (a, oe) (List.mem_append.mpr (.inl List.mem_cons_self))
      obtain ⟨vs, hv⟩ := hf
      obtain ⟨mA, hns, _⟩ := (show ObjOk X.prog X.w H s.heap dd (.xd fs) from I.hok dd _ hx)
      obtain ⟨od, ho, _⟩ := lookIn_ns hns
      have J : PySem.W.InstAt s.heap a oe D (some od) := ⟨hget, hz.1, by unfold PySem.W.notCls; rw [hv] <;> rfl, by rw [hz.2]; exact ho⟩
      have hcl : (PySem.W.clsIn X.K D).isSome = true := by
        obtain ⟨cd, hc, _⟩ := PySem.W.any_some C.hd
        rw [hc] <;> rfl
      exact PySem.W.kia_one (PySem.W.kitx_exc hcl C.hg C.hk C.hs C.ha C.hn C.ht C.hm) I.kIn J e (fun z => nomatch z) fun tk => ⟨.bl b, H, I.kept (t' := tk) fun _ _ z => z, rfl, q⟩
end
end Ea
set_option Elab.async false
set_option linter.all false
set_option maxRecDepth 100000
set_option maxHeartbeats 400000
/-! A comprehension over a tuple, each turn laying what it likes; a chained comparison. -/
namespace Ea
open PySem PySem.Spec PyProof PyProof.Rows L2
section
variable {K : PySem.W.Frag} {σ : L2.St} {H : Hp} {Q : VK} {te : TE} {vs : List Nat} {j : Nat} {σx : V → L2.St} {a : Addr} {xs : List V}
theorem lc_exT (Pv : Nat → List V → Hp → Prop) (stay : ∀ i acc H1 D ys u, H1 D = some (.lst ys) → Pv i acc H1 → Pv i acc (upd H1 D (.lst u)))
    (hx : SqT K H a xs) (hz : xs.length ≤ 40000) (hσ : ∀ x, (wipe σ vs).set j (some x) = σx x) (hw : ∀ x, wipe (σx x) vs = wipe σ vs) (h0 : ∀ H', Evl.Ex H H' → Pv 0 [] H')
    (hs : ∀ i x, xs[i]? = some x → ∀ (acc : List V) (H' : Hp) (N : VK), Evl.Ex H H' → Pv i acc H' → (∀ v H3, Evl.Ex H' H3 → Pv (i + 1) (acc ++ [v]) H3 → N v H3) → te (σx x) H' N)
    (hd : ∀ D acc H', Evl.Ex H H' → H D = none → H' D = some (.lst acc) → Pv xs.length acc H' → Q (.ref D) H') : LcR (gName j) tYes te vs σ Q (Itt K a) H := fun D hn =>
  lc_tup (xs := xs) (fun i H' => i ≤ xs.length ∧ Evl.Ex H H' ∧ ∃ acc, H' D = some (.lst acc) ∧ acc.length = i ∧ Pv i acc H') ⟨Nat.zero_le _, Evl.Ex.new hn, [], upd_same, rfl, h0 _ (Evl.Ex.new hn)⟩ (fun i H' _ ⟨_, ex, _⟩ => Evl.ex_t ex hx) (fun i x H' hi p => by
    obtain ⟨_, ex, acc, ea, hl, hp⟩ := p
    have hlt := (List.getElem?_eq_some_iff.mp hi).1
    rw [show gName j x (wipe σ vs) H' = fun N => N (σx x) H' from funext fun N => by rw [← hσ x] <;> rfl]
    refine ⟨hw _, ?_⟩
    refine rd_yes ?_
    rw [if_pos rfl]
    refine hs i x hi acc H' _ ex hp fun v H3 e3 hp3 => ⟨acc, e3 D _ ea, Evl.sz_lt (by omega), by omega, Evl.Ex.mut (ex.trans e3) hn, acc ++ [v], upd_same, by rw [List.length_append, hl] <;> rfl, stay _ _ _ _ _ _ (e3 D _ ea) hp3⟩) fun H' p => by
    obtain ⟨_, ex, acc, ea, _, hp⟩ := p
    exact hd D acc H' ex hn ea hp
end
theorem rd_chain {r r' : R2} {ta tb tc : TE} {σ : L2.St} {H : Hp} {Q : VK} (h : ta σ H fun x H1 => tb σ H1 fun y H2 => r x y H2 fun z H3 => ∃ k, z = .bl k ∧ (if k = true then tc σ H3 fun w' H4 => r' y w' H4 Q else Q (.bl false) H3)) : tChain r r' ta tb tc σ H Q := h
end Ea
set_option Elab.async false
set_option linter.all false
set_option maxRecDepth 100000
set_option maxHeartbeats 400000
/-! Rows held as cells (keys of a dict want the very cell); a comprehension over a list that makes lists. -/
namespace Ea
open PySem PySem.Spec PyProof PyProof.Rows L2
theorem rd_catC {K : PySem.W.Frag} {H : Hp} {Q : VK} {p p2 : Addr} {xs ys : List V} (s : H p = some (.tup xs)) (s2 : H p2 = some (.tup ys)) (hz : xs.length + ys.length ≤ sizeLine)
    (h : ∀ (q : Addr) (H' : Hp), Evl.Ex H H' → H' q = some (.tup (xs ++ ys)) → Q (.ref q) H') : rCatA K (.ref p) (.ref p2) H Q := by
  refine ⟨p, p2, xs, ys, rfl, rfl, SqT.of s, SqT.of s2, hz, fun e => ?_, fun _ e => ?_, fun _ _ q hq => h q _ (Evl.Ex.new hq) upd_same⟩
  · subst e
    exact h p2 H (Evl.Ex.refl H) s2
  · subst e
    exact h p H (Evl.Ex.refl H) (by rw [List.append_nil]; exact s)
/-- rows as cells -/
def Cs (H : Hp) (vs : List V) (ps : List (List Int)) : Prop := vs.length = ps.length ∧ ∀ (j : Nat) (p : List Int), ps[j]? = some p → ∃ b : Addr, vs[j]? = some (.ref b) ∧ H b = some (.tup (p.map V.int))
theorem Cs.nil {H : Hp} : Cs H [] [] := ⟨rfl, fun j p h => by simp at h⟩
theorem Cs.one {H : Hp} {b : Addr} {p : List Int} (h : H b = some (.tup (p.map V.int))) : Cs H [.ref b] [p] := ⟨rfl, fun j q hq => by
  cases j with
  | zero =>
    obtain rfl : p = q := Option.some.inj hq
    exact ⟨b, rfl, h⟩
  | succ j => simp at hq⟩
theorem Cs.app {H : Hp} {vs us : List V} {ps qs : List (List Int)} (h : Cs H vs ps) (h2 : Cs H us qs) : Cs H (vs ++ us) (ps ++ qs) := ⟨by rw [List.length_append, List.length_append, h.1, h2.1], fun j p hj => by
  rw [List.getElem?_append] at hj
  split at hj
  · next c =>
    obtain ⟨b, h3, h4⟩ := h.2 j p hj
    exact ⟨b, by rw [List.getElem?_append_left (by rw [h.1]; exact c)]; exact h3, h4⟩
  · next c =>
    obtain ⟨b, h3, h4⟩ := h2.2 _ p hj
    exact ⟨b, by rw [List.getElem?_append_right (by rw [h.1]; omega), h.1]; exact h3, h4⟩⟩
theorem Cs.two {H : Hp} {b c : Addr} {p q : List Int} (h : H b = some (.tup (p.map V.int))) (h2 : H c = some (.tup (q.map V.int))) : Cs H [.ref b, .ref c] [p, q] := (Cs.one h).app (Cs.one h2)
theorem Cs.ex {H H' : Hp} {vs : List V} {ps : List (List Int)} (e : Evl.Ex H H') (h : Cs H vs ps) : Cs H' vs ps := ⟨h.1, fun j p hj => by
  obtain ⟨b, h3, h4⟩ := h.2 j p hj
  exact ⟨b, h3, e _ _ h4⟩⟩
theorem Cs.get {H : Hp} {vs : List V} {ps : List (List Int)} (h : Cs H vs ps) {j : Nat} {v : V} (hj : vs[j]? = some v) : ∃ (b : Addr) (p : List Int), v = .ref b ∧ ps[j]? = some p ∧ H b = some (.tup (p.map V.int)) := by
  have hl := (List.getElem?_eq_some_iff.mp hj).1
  obtain ⟨p, hp⟩ : ∃ p, ps[j]? = some p := ⟨_, List.getElem?_eq_getElem (by rw [← h.1]; exact hl)⟩
  obtain ⟨b, h3, h4⟩ := h.2 j p hp
  rw [h3] at hj
  exact ⟨b, p, (Option.some.inj hj).symm, hp, h4⟩
theorem Cs.mut {H : Hp} {vs : List V} {ps : List (List Int)} {D : Addr} {ys u : List V} (h : Cs H vs ps) (hD : H D = some (.lst ys)) : Cs (upd H D (.lst u)) vs ps := ⟨h.1, fun j p hj => by
  obtain ⟨b, h3, h4⟩ := h.2 j p hj
  refine ⟨b, h3, ?_⟩
  rw [upd_ne (fun e => by rw [e, hD] at h4; cases h4)]
  exact h4⟩
/-- lists of rows as cells -/
def Ws (H : Hp) (vs : List V) (ws : List (List (List Int))) : Prop := vs.length = ws.length ∧ ∀ (j : Nat) (w : List (List Int)), ws[j]? = some w → ∃ (b : Addr) (ys : List V), vs[j]? = some (.ref b) ∧ H b = some (.lst ys) ∧ Cs H ys w
theorem Ws.nil {H : Hp} : Ws H [] [] := ⟨rfl, fun j p h => by simp at h⟩
theorem Ws.one {H : Hp} {b : Addr} {ys : List V} {w : List (List Int)} (h : H b = some (.lst ys)) (hc : Cs H ys w) : Ws H [.ref b] [w] := ⟨rfl, fun j q hq => by
  cases j with
  | zero =>
    obtain rfl : w = q := Option.some.inj hq
    exact ⟨b, ys, rfl, h, hc⟩
  | succ j => simp at hq⟩
theorem Ws.app {H : Hp} {vs us : List V} {ps qs : List (List (List Int))} (h : Ws H vs ps) (h2 : Ws H us qs) : Ws H (vs ++ us) (ps ++ qs) := ⟨by rw [List.length_append, List.length_append, h.1, h2.1], fun j p hj => by
  rw [List.getElem?_append] at hj
  split at hj
  · next c =>
    obtain ⟨b, ys, h3, h4⟩ := h.2 j p hj
    exact ⟨b, ys, by rw [List.getElem?_append_left (by rw [h.1]; exact c)]; exact h3, h4⟩
  · next c =>
    obtain ⟨b, ys, h3, h4⟩ := h2.2 _ p hj
    exact ⟨b, ys, by rw [List.getElem?_append_right (by rw [h.1]; omega), h.1]; exact h3, h4⟩⟩
theorem Ws.ex {H H' : Hp} {vs : List V} {ps : List (List (List Int))} (e : Evl.Ex H H') (h : Ws H vs ps) : Ws H' vs ps := ⟨h.1, fun j p hj => by
  obtain ⟨b, ys, h3, h4, h5⟩ := h.2 j p hj
  exact ⟨b, ys, h3, e _ _ h4, h5.ex e⟩⟩
theorem Ws.get {H : Hp} {vs : List V} {ps : List (List (List Int))} (h : Ws H vs ps) {j : Nat} {v : V} (hj : vs[j]? = some v) : ∃ (b : Addr) (ys : List V) (w : List (List Int)), v = .ref b ∧ ps[j]? = some w ∧ H b = some (.lst ys) ∧ Cs H ys w := by
  have hl := (List.getElem?_eq_some_iff.mp hj).1
  obtain ⟨p, hp⟩ : ∃ p, ps[j]? = some p := ⟨_, List.getElem?_eq_getElem (by rw [← h.1]; exact hl)⟩
  obtain ⟨b, ys, h3, h4, h5⟩ := h.2 j p hp
  rw [h3] at hj
  exact ⟨b, ys, p, (Option.some.inj hj).symm, hp, h4, h5⟩
/-- .. while another list is written -/
theorem Ws.mut {H : Hp} {vs : List V} {ps : List (List (List Int))} {D : Addr} {ys u : List V} (h : Ws H vs ps) (hD : H D = some (.lst ys)) (off : ∀ v ∈ vs, v ≠ .ref D) : Ws (upd H D (.lst u)) vs ps := ⟨h.1, fun j p hj => by
  obtain ⟨b, zs, h3, h4, h5⟩ := h.2 j p hj
  refine ⟨b, zs, h3, ?_, h5.mut hD⟩
  rw [upd_ne (fun e => off _ (List.mem_of_getElem? h3) (by rw [e]))]
  exact h4⟩
section
variable {K : PySem.W.Frag} {σ : L2.St} {H : Hp} {Q : VK} {te : TE} {vs : List Nat} {j : Nat} {σx : V → L2.St} {a : Addr} {xs : List V}
/-- .. over a list, what is made may be lists -/
theorem lc_lsL (Pv : Addr → Nat → List V → Hp → Prop) (stay : ∀ i acc H1 D u, H1 D = some (.lst acc) → Pv D i acc H1 → Pv D i acc (upd H1 D (.lst u)))
    (hx : SqL K H a xs) (hz : xs.length ≤ 40000) (hσ : ∀ x, (wipe σ vs).set j (some x) = σx x) (hw : ∀ x, wipe (σx x) vs = wipe σ vs) (h0 : ∀ D H', Evl.Ex H H' → Pv D 0 [] H')
    (hs : ∀ i x, xs[i]? = some x → ∀ (D : Addr) (acc : List V) (H' : Hp) (N : VK), Evl.Ex H H' → H' D = some (.lst acc) → Pv D i acc H' → (∀ v H3, Evl.Ex H' H3 → Pv D (i + 1) (acc ++ [v]) (upd H3 D (.lst (acc ++ [v]))) → N v H3) → te (σx x) H' N)
    (hd : ∀ D acc H', Evl.Ex H H' → H D = none → H' D = some (.lst acc) → Pv D xs.length acc H' → Q (.ref D) H') : LcR (gName j) tYes te vs σ Q (Itl K a) H := fun D hn =>
  lc_list (xs := xs) (fun i H' => i ≤ xs.length ∧ Evl.Ex H H' ∧ ∃ acc, H' D = some (.lst acc) ∧ acc.length = i ∧ Pv D i acc H') ⟨Nat.zero_le _, Evl.Ex.new hn, [], upd_same, rfl, h0 _ _ (Evl.Ex.new hn)⟩ (fun i H' _ ⟨_, ex, _⟩ => Evl.ex_l ex hx) (fun i x H' hi p => by
    obtain ⟨_, ex, acc, ea, hl, hp⟩ := p
    have hlt := (List.getElem?_eq_some_iff.mp hi).1
    rw [show gName j x (wipe σ vs) H' = fun N => N (σx x) H' from funext fun N => by rw [← hσ x] <;> rfl]
    refine ⟨hw _, ?_⟩
    refine rd_yes ?_
    rw [if_pos rfl]
    refine hs i x hi D acc H' _ ex ea hp fun v H3 e3 hp3 => ⟨acc, e3 D _ ea, Evl.sz_lt (by omega), by omega, Evl.Ex.mut (ex.trans e3) hn, acc ++ [v], upd_same, by rw [List.length_append, hl] <;> rfl, hp3⟩) fun H' p => by
    obtain ⟨_, ex, acc, ea, _, hp⟩ := p
    exact hd D acc H' ex hn ea hp
/-- .. over a tuple, what is made may be lists -/
theorem lc_lsT (Pv : Addr → Nat → List V → Hp → Prop) (stay : ∀ i acc H1 D u, H1 D = some (.lst acc) → Pv D i acc H1 → Pv D i acc (upd H1 D (.lst u)))
    (hx : SqT K H a xs) (hz : xs.length ≤ 40000) (hσ : ∀ x, (wipe σ vs).set j (some x) = σx x) (hw : ∀ x, wipe (σx x) vs = wipe σ vs) (h0 : ∀ D H', Evl.Ex H H' → Pv D 0 [] H')
    (hs : ∀ i x, xs[i]? = some x → ∀ (D : Addr) (acc : List V) (H' : Hp) (N : VK), Evl.Ex H H' → H' D = some (.lst acc) → Pv D i acc H' → (∀ v H3, Evl.Ex H' H3 → Pv D (i + 1) (acc ++ [v]) (upd H3 D (.lst (acc ++ [v]))) → N v H3) → te (σx x) H' N)
    (hd : ∀ D acc H', Evl.Ex H H' → H D = none → H' D = some (.lst acc) → Pv D xs.length acc H' → Q (.ref D) H') : LcR (gName j) tYes te vs σ Q (Itt K a) H := fun D hn =>
  lc_tup (xs := xs) (fun i H' => i ≤ xs.length ∧ Evl.Ex H H' ∧ ∃ acc, H' D = some (.lst acc) ∧ acc.length = i ∧ Pv D i acc H') ⟨Nat.zero_le _, Evl.Ex.new hn, [], upd_same, rfl, h0 _ _ (Evl.Ex.new hn)⟩ (fun i H' _ ⟨_, ex, _⟩ => Evl.ex_t ex hx) (fun i x H' hi p => by
    obtain ⟨_, ex, acc, ea, hl, hp⟩ := p
    have hlt := (List.getElem?_eq_some_iff.mp hi).1
    rw [show gName j x (wipe σ vs) H' = fun N => N (σx x) H' from funext fun N => by rw [← hσ x] <;> rfl]
    refine ⟨hw _, ?_⟩
    refine rd_yes ?_
    rw [if_pos rfl]
    refine hs i x hi D acc H' _ ex ea hp fun v H3 e3 hp3 => ⟨acc, e3 D _ ea, Evl.sz_lt (by omega), by omega, Evl.Ex.mut (ex.trans e3) hn, acc ++ [v], upd_same, by rw [List.length_append, hl] <;> rfl, hp3⟩) fun H' p => by
    obtain ⟨_, ex, acc, ea, _, hp⟩ := p
    exact hd D acc H' ex hn ea hp
end
end Ea
set_option Elab.async false
set_option linter.all false
set_option maxRecDepth 100000
set_option maxHeartbeats 400000
/-! x in t, x not in t for a tuple of data of any depth. -/
namespace Ea
open PySem PySem.Spec PyProof PyProof.Rows L2
def rInDT (K : PySem.W.Frag) : R2 := fun x y H Q => ∃ d ds, Dp K H x d ∧ Dp K H y (.tuple ds) ∧ SeqAt.shaped d = true ∧ SeqAt.shaped (.tuple ds) = true ∧ Q (.bl (ds.any fun z => PyData.eqv z d)) H
def rNotInDT (K : PySem.W.Frag) : R2 := fun x y H Q => ∃ d ds, Dp K H x d ∧ Dp K H y (.tuple ds) ∧ SeqAt.shaped d = true ∧ SeqAt.shaped (.tuple ds) = true ∧ Q (.bl (!ds.any fun z => PyData.eqv z d)) H
theorem op_inDT {X : Cx} {K : PySem.W.Frag} (hK : X.K = K) (hu : X.A.units + 65 < cLine) : OpR X (compareOp .In) (rInDT K) := by
  subst hK
  intro pins s σ H x y v u Q I rx ry h
  obtain ⟨d, ds, hd, he, sd, se, q⟩ := h
  obtain ⟨as, r1⟩ := Dp.reads I d x v hd rx
  obtain ⟨bs, r2⟩ := Dp.reads I (.tuple ds) y u he ry
  exact SeqAt.in_tuple_reads r2 r1 (SeqAt.canLay_of_shaped se) (SeqAt.canLay_of_shaped sd) (room_in_shaped sd hu) ⟨.bl _, H, I, rfl, q⟩
theorem op_notInDT {X : Cx} {K : PySem.W.Frag} (hK : X.K = K) (hu : X.A.units + 65 < cLine) : OpR X (compareOp .NotIn) (rNotInDT K) := by
  subst hK
  intro pins s σ H x y v u Q I rx ry h
  obtain ⟨d, ds, hd, he, sd, se, q⟩ := h
  obtain ⟨as, r1⟩ := Dp.reads I d x v hd rx
  obtain ⟨bs, r2⟩ := Dp.reads I (.tuple ds) y u he ry
  exact SeqAt.notIn_tuple_reads r2 r1 (SeqAt.canLay_of_shaped se) (SeqAt.canLay_of_shaped sd) (room_in_shaped sd hu) ⟨.bl _, H, I, rfl, q⟩
end Ea
set_option Elab.async false
set_option linter.all false
set_option maxRecDepth 100000
set_option maxHeartbeats 400000
/-! sorted of a list of alike data (pairs of an int and something). -/
namespace Ea
open PySem PySem.Spec PyProof PyProof.Rows L2
theorem vals_fst {β : Type} : ∀ {ps : List (V × β)} {its : List Value}, Vals (ps.map (·.1)) its → PySem.W.EachIs (fun v (p : V × β) => RelV p.1 v) its ps
  | [], _, r => by
    cases r
    exact .nil
  | p :: ps, _, r => by
    rw [List.map_cons] at r
    cases r with
    | cons h t => exact .cons h (vals_fst t)
theorem fst_vals {β : Type} : ∀ {its : List Value} {ps : List (V × β)}, PySem.W.EachIs (fun v (p : V × β) => RelV p.1 v) its ps → Vals (ps.map (·.1)) its
  | _, _, .nil => .nil
  | _, _, .cons h t => .cons h (fst_vals t)
theorem perm_map_back {α β : Type} (f : α → β) : ∀ {qs : List β} {xs : List α}, qs.Perm (xs.map f) → ∃ ts : List α, ts.Perm xs ∧ qs = ts.map f := by
  intro qs xs h
  have key : ∀ {as bs : List β}, as.Perm bs → ∀ xs : List α, bs = xs.map f → ∃ ts : List α, ts.Perm xs ∧ as = ts.map f := by
    intro as bs h
    induction h with
    | nil =>
      intro xs e
      cases xs with
      | nil => exact ⟨[], .nil, rfl⟩
      | cons x t => cases e
    | cons x p ih =>
      intro xs e
      cases xs with
      | nil => cases e
      | cons y t =>
        rw [List.map_cons] at e
        injection e with e1 e2
        obtain ⟨ts, p2, e3⟩ := ih t e2
        exact ⟨y :: ts, p2.cons y, by rw [List.map_cons, e1, e3]⟩
    | swap x y l =>
      intro xs e
      match xs, e with
      | a :: b :: t, e =>
        rw [List.map_cons, List.map_cons] at e
        injection e with e1 e2
        injection e2 with e2 e3
        exact ⟨b :: a :: t, .swap a b t, by rw [List.map_cons, List.map_cons, e1, e2, e3]⟩
    | trans p1 p2 ih1 ih2 =>
      intro xs e
      obtain ⟨ts, p3, e3⟩ := ih2 xs e
      obtain ⟨us, p4, e4⟩ := ih1 ts e3
      exact ⟨us, p4.trans p3, e4⟩
  exact key h xs rfl
def rSortDt (K : PySem.W.Frag) : List V → Hp → VK → Prop := fun xs H Q => ∃ (a : Addr) (ps : List (V × PyData)), xs = [.ref a] ∧ SqL K H a (ps.map (·.1)) ∧ (∀ p ∈ ps, Dp K H p.1 p.2) ∧ PySem.W.AllAlike (ps.map (·.2)) ∧ PySem.W.Sortable (ps.map (·.2)) ∧ (∀ p ∈ ps, p.2.depth ≤ 8) ∧
  ∀ (qs : List (V × PyData)) (b : Addr), qs.Perm ps → qs.Pairwise (fun x y => PySem.W.dataLe false (fun p : V × PyData => p.2) x y = true) → H b = none → Q (.ref b) (upd H b (.lst (qs.map (·.1))))
theorem cr_sortDt {X : Cx} {K : PySem.W.Frag} (hK : X.K = K) (hu : X.A.units + 64 < cLine) : CallR X (.builtin "sorted") (rSortDt K) := by
  subst hK
  intro pins s σ H xs us Q I r h
  obtain ⟨a, ps, rfl, hs, hdp, hal, hsr, hdep, q⟩ := h
  rw [Vals.ref1 r]
  obtain ⟨its, rv, hl, hz⟩ := I.list hs
  have hlen : ps.length ≤ sizeLine := by
    rw [List.length_map] at hz
    exact hz
  have hR := vals_fst rv
  refine PySem.W.sorted_data (β := V × PyData) (R := fun v p => RelV p.1 v) (bs := ps) (enc := fun p => p.2) hl.isList hR ?_ hal hsr hlen (fun x hx => ?_) fun out ho he => ?_
  · refine (PySem.W.each_mem hR).mono fun v p ⟨hv, hp⟩ => ?_
    exact Dp.reads I p.2 p.1 v (hdp p hp) hv
  · have := hdep x hx
    omega
  · have pm : (ps.mergeSort (PySem.W.dataLe false fun p : V × PyData => p.2)).Perm ps := List.mergeSort_perm _ _
    have tot := PySem.W.sortLe_total (listOrd itemOrd) false fun p : V × PyData => PySem.W.keyToks p.2
    have so : (ps.mergeSort (PySem.W.dataLe false fun p : V × PyData => p.2)).Pairwise (fun x y => PySem.W.dataLe false (fun p : V × PyData => p.2) x y = true) :=
      PySem.W.sort_pairwise tot ps
    have hl2 : ((ps.mergeSort (PySem.W.dataLe false fun p : V × PyData => p.2)).map (·.1)).length ≤ sizeLine := by
      rw [List.length_map, pm.length_eq]
      exact hlen
    obtain ⟨e, hat⟩ := PyProof.Rows.sortedAll_at s.heap its out.toArray
    exact ⟨.ref _, upd H (s.heap.objs.size + 1) (.lst _), I.laid (t' := s.toks) (fun b u e => PyProof.Rows.sortedAll_old e) (Nat.le_succ _) ⟨hl2, out, e, fst_vals he, hat⟩, rfl, q _ _ pm so (I.hok.fresh (Nat.le_succ _))⟩
theorem rd_sortDt {K : PySem.W.Frag} {H : Hp} {Q : VK} {a : Addr} (ps : List (V × PyData)) (hs : SqL K H a (ps.map (·.1))) (hdp : ∀ p ∈ ps, Dp K H p.1 p.2) (hal : PySem.W.AllAlike (ps.map (·.2))) (hsr : PySem.W.Sortable (ps.map (·.2))) (hdep : ∀ p ∈ ps, p.2.depth ≤ 8)
    (q : ∀ (qs : List (V × PyData)) (b : Addr), qs.Perm ps → qs.Pairwise (fun x y => PySem.W.dataLe false (fun p : V × PyData => p.2) x y = true) → H b = none → Q (.ref b) (upd H b (.lst (qs.map (·.1))))) : rSortDt K [.ref a] H Q := ⟨a, ps, rfl, hs, hdp, hal, hsr, hdep, q⟩
theorem le_of_pair {x y : V × PyData} {i j : Int} {ds es : List PyData} (hx : x.2 = .tuple (.int i :: ds)) (hy : y.2 = .tuple (.int j :: es)) (h : PySem.W.dataLe false (fun p : V × PyData => p.2) x y = true) : i ≤ j := by
  have h2 : (!PyProof.Rows.lexLt itemOrd (PySem.W.keyToks y.2) (PySem.W.keyToks x.2)) = true := h
  rw [hx, hy] at h2
  have e1 : PySem.W.keyToks (.tuple (.int i :: ds)) = .inl 1 :: .inl i :: PySem.W.keyToksAll ds := by simp [PySem.W.keyToks, PySem.W.keyToksAll]
  have e2 : PySem.W.keyToks (.tuple (.int j :: es)) = .inl 1 :: .inl j :: PySem.W.keyToksAll es := by simp [PySem.W.keyToks, PySem.W.keyToksAll]
  rw [e1, e2, PyProof.Rows.lex_cons, PyProof.Rows.lex_cons] at h2
  refine Int.not_lt.mp fun c => ?_
  have b1 : itemOrd.blt (.inl j : Int ⊕ List Nat) (.inl i) = true := decide_eq_true c
  have b2 : itemOrd.blt (.inl 1 : Int ⊕ List Nat) (.inl 1) = false := by decide
  rw [b1, b2] at h2
  exact absurd h2 (by simp)
section
variable {K : PySem.W.Frag} {σ : L2.St} {H : Hp} {Q : VK} {tt : TT} {te : TE} {vs : List Nat} {j1 j2 k : Nat} {σx : V → V → L2.St} {a : Addr} {px py : Nat → V} {f : Nat → Bool} {g : Nat → V}
/-- a comprehension over a list of pairs -/
theorem lc_prL {xs : List V} (hk : k = 2) (hx : SqL K H a xs) (hz : xs.length ≤ 40000) (hp : ∀ i, i < xs.length → ∃ T, xs[i]? = some (.ref T) ∧ SqT K H T [px i, py i])
    (hσ : ∀ x y, ((wipe σ vs).set j1 (some x)).set j2 (some y) = σx x y) (hw : ∀ x y, wipe (σx x y) vs = wipe σ vs) (hs : ∀ i, i < xs.length → TurnP H tt te σx px py f g i)
    (hd : ∀ D H', Evl.Ex H H' → H D = none → H' D = some (.lst (((List.range xs.length).filter f).map g)) → Q (.ref D) H') : LcR (gTup K k (gCons (gName j1) (gCons (gName j2) gNil))) tt te vs σ Q (Itl K a) H := fun D hn =>
  lc_list (xs := xs) (fun i H' => Evl.Ex H H' ∧ H' D = some (.lst (((List.range i).filter f).map g))) ⟨Evl.Ex.new hn, upd_same⟩ (fun i H' _ ⟨ex, _⟩ => Evl.ex_l ex hx) (fun i x H' hi p => by
    obtain ⟨e, ed⟩ := p
    have hil := (List.getElem?_eq_some_iff.mp hi).1
    obtain ⟨T, hT, sT⟩ := hp i hil
    rw [hT] at hi
    cases hi
    have hlen : (((List.range i).filter f).map g).length < 100000 := by
      rw [List.length_map]
      have h1 := List.length_filter_le f (List.range i)
      rw [List.length_range] at h1
      omega
    refine rd_gtup2 (x := px i) (y := py i) (Evl.ex_t e sT) hk (hσ _ _) ⟨hw _ _, hs i hil _ _ _ e (fun hf H3 e3 => ?_) fun hf H3 e3 => ?_⟩
    · refine ⟨_, e3 D _ ed, Evl.sz_lt hlen, Evl.Ex.mut (e.trans e3) hn, ?_⟩
      rw [upd_same, range_snoc, if_pos hf]
    · refine ⟨e.trans e3, ?_⟩
      rw [range_snoc, if_neg (by rw [hf]; decide), List.append_nil]
      exact e3 D _ ed) fun H' p => hd D H' p.1 hn p.2
end
/-- pairs as cells: at place j a tuple of the int k and the value v -/
def Prs (H : Hp) (vs : List V) (ps : List (Int × V)) : Prop := vs.length = ps.length ∧ ∀ (j : Nat) (p : Int × V), ps[j]? = some p → ∃ b : Addr, vs[j]? = some (.ref b) ∧ H b = some (.tup [.int p.1, p.2])
theorem Prs.nil {H : Hp} : Prs H [] [] := ⟨rfl, fun j p h => by simp at h⟩
theorem Prs.ex {H H' : Hp} {vs : List V} {ps : List (Int × V)} (e : Evl.Ex H H') (h : Prs H vs ps) : Prs H' vs ps := ⟨h.1, fun j p hj => by
  obtain ⟨b, h3, h4⟩ := h.2 j p hj
  exact ⟨b, h3, e _ _ h4⟩⟩
theorem Prs.mut {H : Hp} {vs : List V} {ps : List (Int × V)} {D : Addr} {ys u : List V} (h : Prs H vs ps) (hD : H D = some (.lst ys)) : Prs (upd H D (.lst u)) vs ps := ⟨h.1, fun j p hj => by
  obtain ⟨b, h3, h4⟩ := h.2 j p hj
  refine ⟨b, h3, ?_⟩
  rw [upd_ne (fun e => by rw [e, hD] at h4; cases h4)]
  exact h4⟩
theorem Prs.snoc {H : Hp} {vs : List V} {ps : List (Int × V)} {b : Addr} {p : Int × V} (h : Prs H vs ps) (hb : H b = some (.tup [.int p.1, p.2])) : Prs H (vs ++ [.ref b]) (ps ++ [p]) := ⟨by rw [List.length_append, List.length_append, h.1] <;> rfl, fun j q hj => by
  rw [List.getElem?_append] at hj
  split at hj
  · next c =>
    obtain ⟨b2, h3, h4⟩ := h.2 j q hj
    exact ⟨b2, by rw [List.getElem?_append_left (by rw [h.1]; exact c)]; exact h3, h4⟩
  · next c =>
    have hj0 : j - ps.length = 0 := by
      have := (List.getElem?_eq_some_iff.mp hj).1
      rw [List.length_singleton] at this
      omega
    rw [hj0] at hj
    obtain rfl : p = q := Option.some.inj hj
    exact ⟨b, by rw [List.getElem?_append_right (by rw [h.1]; omega), h.1, hj0] <;> rfl, hb⟩⟩
/-- what is sorted: the pairs with their data -/
def prD (F : Int × V → PyData) (vs : List V) (ps : List (Int × V)) : List (V × PyData) := (vs.zip ps).map fun q => (q.1, F q.2)
theorem prD_fst {F : Int × V → PyData} {vs : List V} {ps : List (Int × V)} (h : vs.length = ps.length) : (prD F vs ps).map (·.1) = vs := by
  unfold prD
  rw [List.map_map]
  show (vs.zip ps).map Prod.fst = vs
  exact List.map_fst_zip (by omega)
/-- sorted(xs), xs a list of pairs (int, datum) -/
theorem rd_sortPrs {K : PySem.W.Frag} {H : Hp} {Q : VK} {a : Addr} {vs : List V} {ps : List (Int × V)} (E : V → PyData) (hs : SqL K H a vs) (hp : Prs H vs ps) (hE : ∀ p ∈ ps, Dp K H p.2 (E p.2)) (hal : ∀ p ∈ ps, ∀ q ∈ ps, PySem.W.alike (E p.2) (E q.2) = true) (hd : ∀ p ∈ ps, (E p.2).depth ≤ 4)
    (q : ∀ (us : List V) (qs : List (Int × V)) (b : Addr), qs.Perm ps → qs.Pairwise (fun x y => x.1 ≤ y.1) → Prs H us qs → H b = none → Q (.ref b) (upd H b (.lst us))) : rSortDt K [.ref a] H Q := by
  let F : Int × V → PyData := fun p => .tuple [.int p.1, E p.2]
  have hzip : ∀ t ∈ vs.zip ps, t.2 ∈ ps ∧ ∃ b, t.1 = .ref b ∧ H b = some (.tup [.int t.2.1, t.2.2]) := fun t ht => by
    obtain ⟨j, hj⟩ := List.mem_iff_getElem?.mp ht
    rw [List.getElem?_zip_eq_some] at hj
    obtain ⟨b, h3, h4⟩ := hp.2 j t.2 hj.2
    rw [hj.1] at h3
    exact ⟨List.mem_of_getElem? hj.2, b, Option.some.inj h3, h4⟩
  refine rd_sortDt (prD F vs ps) (by rw [prD_fst hp.1]; exact hs) (fun p hm => ?_) (fun d hm e hm2 => ?_) (.inl fun d hm => ?_) (fun p hm => ?_) fun qs b pm so hb => ?_
  · obtain ⟨t, ht, rfl⟩ := List.mem_map.mp hm
    obtain ⟨h1, b, h2, h3⟩ := hzip t ht
    show Dp K H t.1 (.tuple [.int t.2.1, E t.2.2])
    rw [h2]
    exact .tup (SqT.of h3) (.cons (.int _) (.cons (hE _ h1) .nil))
  · obtain ⟨p, hp1, rfl⟩ := List.mem_map.mp hm
    obtain ⟨t, ht, rfl⟩ := List.mem_map.mp hp1
    obtain ⟨p2, hp2, rfl⟩ := List.mem_map.mp hm2
    obtain ⟨t2, ht2, rfl⟩ := List.mem_map.mp hp2
    show PySem.W.alike (.tuple [.int t.2.1, E t.2.2]) (.tuple [.int t2.2.1, E t2.2.2]) = true
    have := hal _ (hzip t ht).1 _ (hzip t2 ht2).1
    simp [PySem.W.alike, PySem.W.alikeAll, this]
  · obtain ⟨p, hp1, rfl⟩ := List.mem_map.mp hm
    obtain ⟨t, ht, rfl⟩ := List.mem_map.mp hp1
    exact ⟨_, _, rfl⟩
  · obtain ⟨t, ht, rfl⟩ := List.mem_map.mp hm
    have h1 := hd _ (hzip t ht).1
    have e : (F t.2).depth = (PyData.tuple [.int t.2.1, E t.2.2]).depth := rfl
    show (PyData.tuple [.int t.2.1, E t.2.2]).depth ≤ 8
    simp only [PyData.depth, PyData.depthAll]
    omega
  · -- the pairs behind the sorted ones
    have hmem : ∀ x ∈ qs, ∃ t ∈ vs.zip ps, x = (t.1, F t.2) := fun x hx => by
      obtain ⟨t, ht, e⟩ := List.mem_map.mp (pm.mem_iff.mp hx)
      exact ⟨t, ht, e.symm⟩
    have pm2 : ∃ ts : List (V × (Int × V)), ts.Perm (vs.zip ps) ∧ qs = ts.map fun t => (t.1, F t.2) := perm_map_back _ pm
    obtain ⟨ts, pts, rfl⟩ := pm2
    have pz : (ts.map (·.2)).Perm ps := by
      have := pts.map (·.2)
      rwa [List.map_snd_zip (by rw [hp.1]; exact Nat.le_refl _)] at this
    have so2 : (ts.map (·.2)).Pairwise (fun x y => x.1 ≤ y.1) := by
      rw [List.pairwise_map] at so ⊢
      exact so.imp fun {x y} h => le_of_pair (x := (x.1, F x.2)) (y := (y.1, F y.2)) rfl rfl h
    have hu : Prs H (ts.map (·.1)) (ts.map (·.2)) := ⟨by rw [List.length_map, List.length_map], fun j p hj => by
      rw [List.getElem?_map] at hj
      obtain ⟨t, ht, rfl⟩ := Option.map_eq_some_iff.mp hj
      obtain ⟨_, b2, h2, h3⟩ := hzip t (pts.mem_iff.mp (List.mem_of_getElem? ht))
      exact ⟨b2, by rw [List.getElem?_map, ht]; show some t.1 = _; rw [h2], h3⟩⟩
    have e : (ts.map fun t => (t.1, F t.2)).map (·.1) = ts.map (·.1) := by rw [List.map_map] <;> rfl
    rw [e]
    exact q _ _ b pz so2 hu hb
end Ea
set_option Elab.async false
set_option linter.all false
set_option maxRecDepth 100000
set_option maxHeartbeats 400000
/-! Fors over enumerate and zip of lists with a pair within the pair; three names set at once. -/
namespace Ea
open PySem PySem.Spec PyProof PyProof.Rows L2
theorem pi_zipK {X : Cx} {K : PySem.W.Frag} (hKK : X.K = K) {e e2 : Expr} {ta : TA} {p pos tpos : Pos} {elts : List Expr} {kk : Nat} (hg : L2.Gl X "zip") (hm : X.mg "zip" = none) (ha : PA X [e, e2] ta)
    (hs : starEach [e, e2] X.env = (false, eval e X.env) :: starEach [e2] X.env := by rfl) (hpl : (backTo pos (starEach [e2] X.env)).any (·.1) = false := by rfl) :
    PI X (.Tuple elts kk tpos) (.Call (.Name "zip" p) [e, e2] [] pos) (iZip K ta) := hKK ▸ pi_zip hg hm ha hs hpl
theorem rd_iZipL {K : PySem.W.Frag} {ta : TA} {R : It → Hp → Prop} {σ : L2.St} {H : Hp} (h : ta σ H fun vs H1 => ∃ a b xs ys, vs = [.ref a, .ref b] ∧ SqL K H1 a xs ∧ SqL K H1 b ys ∧ R (Itz K a b) H1) : iZip K ta σ H R := h
section
variable {K : PySem.W.Frag} {σ : L2.St} {H : Hp} {tb : TS} {D : Ends} {j k : Nat} {g : TG}
/-- for i, (..) in enumerate(xs) -/
theorem fr_enumLN {a : Addr} {xs : List V} (hk : k = 2) (Pv : Nat → L2.St → Hp → Prop) (h0 : Pv 0 σ H) (hl : ∀ i σ H, Pv i σ H → SqL K H a xs)
    (hs : ∀ i σ H1 T, i < xs.length → Pv i σ H1 → H1 T = none → g (xs.getD i .non) (σ.set j (some (.int (i : Nat)))) (upd H1 T (.tup [.int (i : Nat), xs.getD i .non])) fun σ' H' => gNil [] σ' H' (tb { D with nx := Pv (i + 1), ct := Pv (i + 1), bk := D.nx }))
    (hd : ∀ σ H, Pv xs.length σ H → D.nx σ H) : ForR (gTup K k (gCons (gName j) (gCons g gNil))) tb D σ (Ite K a) H := by
  refine ⟨fun i m σ' H' => i + m = xs.length ∧ Pv i σ' H', ⟨xs.length, by omega, h0⟩, fun i m σ' H' hW => ?_⟩
  obtain ⟨em, hp⟩ := hW
  by_cases hi : i < xs.length
  · refine .inr ⟨⟨xs, xs[i], hl i σ' H' hp, List.getElem?_eq_getElem hi⟩, Pv (i + 1), fun σ2 H2 h2 => ⟨m - 1, by omega, by omega, h2⟩, fun x H2 hy => ?_⟩
    obtain ⟨T, y, rfl, hT, rfl, h⟩ := hy
    have h := h xs (hl i σ' H' hp)
    have ey : xs.getD i .non = y := by rw [List.getD_eq_getElem?_getD, h] <;> rfl
    have q := hs i σ' H' T hi hp hT
    rw [ey] at q
    exact ⟨T, _, rfl, SqT.of upd_same, hk.symm, _, _, rfl, _, _, rfl, q⟩
  · have hin : i = xs.length := by omega
    subst hin
    exact .inl ⟨⟨xs, hl _ σ' H' hp, Nat.le_refl _⟩, hd σ' H' hp⟩
/-- for (..), y in zip(xs, ys) -/
theorem fr_zipLN {a b : Addr} {xs ys : List V} (hk : k = 2) (he : xs.length = ys.length) (Pv : Nat → L2.St → Hp → Prop) (h0 : Pv 0 σ H) (hl : ∀ i σ H, Pv i σ H → SqL K H a xs ∧ SqL K H b ys)
    (hs : ∀ i σ H1 T, i < xs.length → Pv i σ H1 → H1 T = none → g (xs.getD i .non) σ (upd H1 T (.tup [xs.getD i .non, ys.getD i .non])) fun σ' H' => gCons (gName j) gNil [ys.getD i .non] σ' H' (tb { D with nx := Pv (i + 1), ct := Pv (i + 1), bk := D.nx }))
    (hd : ∀ σ H, Pv xs.length σ H → D.nx σ H) : ForR (gTup K k (gCons g (gCons (gName j) gNil))) tb D σ (Itz K a b) H := by
  refine ⟨fun i m σ' H' => i + m = xs.length ∧ Pv i σ' H', ⟨xs.length, by omega, h0⟩, fun i m σ' H' hW => ?_⟩
  obtain ⟨em, hp⟩ := hW
  by_cases hi : i < xs.length
  · refine .inr ⟨⟨xs, ys, xs[i], ys[i]'(by omega), (hl i σ' H' hp).1, (hl i σ' H' hp).2, List.getElem?_eq_getElem hi, List.getElem?_eq_getElem (by omega)⟩, Pv (i + 1), fun σ2 H2 h2 => ⟨m - 1, by omega, by omega, h2⟩, fun x H2 hy => ?_⟩
    obtain ⟨T, x, y, rfl, hT, rfl, hx, hy⟩ := hy
    have hx := hx xs (hl i σ' H' hp).1
    have hy := hy ys (hl i σ' H' hp).2
    have ex : xs.getD i .non = x := by rw [List.getD_eq_getElem?_getD, hx] <;> rfl
    have ey : ys.getD i .non = y := by rw [List.getD_eq_getElem?_getD, hy] <;> rfl
    have q := hs i σ' H' T hi hp hT
    rw [ex, ey] at q
    exact ⟨T, _, rfl, SqT.of upd_same, hk.symm, _, _, rfl, q⟩
  · have hin : i = xs.length := by omega
    subst hin
    exact .inl ⟨⟨xs, ys, (hl _ σ' H' hp).1, (hl _ σ' H' hp).2, .inl (Nat.le_refl _)⟩, hd σ' H' hp⟩
end
end Ea
set_option Elab.async false
set_option linter.all false
set_option maxRecDepth 100000
set_option maxHeartbeats 400000
namespace KA
open PySem PySem.Spec PyProof.Rows L2 PySem.Froz
/-! A set of texts: new, add, and its members in some order. -/
structure TxR (P : Program) (w : World) (D : SD) (l : List Str) : Prop where
  ok : TxOk P w D l
  ris : Ris D.2.2.place.toList
  led : w.params.followText "set-order" = true ∨ D.2.2.led = true
theorem TxR.new (P : Program) (w : World) : TxR P w (#[], 0, .fresh 0 0 (!w.params.followText "set-order")) [] := by
  refine ⟨TxOk.nil (by rfl), List.Pairwise.nil, ?_⟩
  show _ ∨ (!w.params.followText "set-order") = true
  cases w.params.followText "set-order"
  · exact .inr rfl
  · exact .inl rfl
theorem tail_ris {ep : Nat} {es : Array (Int × Value)} {t : SetTable} {b : Bool} (h : Ris t.place.toList) : Ris (tailTx ep es t b).2.2.place.toList := by
  unfold tailTx
  split
  · exact relayAll_ris t es _
  · exact h
theorem tail_led {ep : Nat} {es : Array (Int × Value)} {t : SetTable} {b : Bool} : (tailTx ep es t b).2.2.led = t.led := by
  unfold tailTx
  split
  · exact relayAll_led t es _
  · rfl
theorem TxR.add {P : Program} {w : World} {D : SD} {l : List Str} {k : Str} (u : Tok) (F : TxR P w D l) : TxR P w (addTx (hashStr w k) (.str k u) D) (k :: l) := by
  refine ⟨add_ok u F.ok, ?_, ?_⟩
  · unfold addTx
    refine tail_ris ?_
    have h := layNew_ris D.2.2 D.1 (hashStr w k) (.str k u) F.ris
    split
    · exact h
    · exact h
  · unfold addTx
    rw [tail_led]
    have h := layNew_led D.2.2 D.1 (hashStr w k) (.str k u)
    refine F.led.imp id fun z => ?_
    split
    · exact h.trans z
    · exact h.trans z
section
variable {P : Program} {w : World} {A : Around} {E : Value → Shared → Prop} {s : Shared} {a : Addr} {T : String} {D : SD} {l : List Str} {k : Str} {u : Tok}
/-- a text that is there already -/
theorem add_there {Q : Bool → Shared → Prop} (ho : s.heap.get? a = some (sObj T D)) (F : TxOk P w D l) (hk : k ∈ l) (hb : l.length < scanBound) (h : Q false s) : wpAny (model P w) A (setAddHashed a (.str k u) (hashStr w k)) Q E s := by
  obtain ⟨es, ep, t⟩ := D
  have hd : (sObj T (es, ep, t)).data = .set es ep t := rfl
  have hf : t.fits es.size = true := F.fit
  have hel : ElemsOf (strKind P w) es.toList := F.el
  have hsz : es.size = l.length := F.sz
  have hkey : (strKind P w).is k (.str k u) = true := is_str k u
  unfold setAddHashed setAddHashedIn
  refine wpAny_holding (wpAny_bind (wpAny_setState_of ho hd hf ?_))
  dsimp only
  rw [byScan_of rfl (by omega) hel]
  simp only [↓reduceIte]
  unfold setAddByScan
  refine wpAny_bind ?_
  refine wpAny_bind (wpAny_rule ?_)
  refine wpAny_bind (wpAny_setScan_of (knd := strKind P w) (k := k) hkey ho hd hf hel ?_)
  cases hfi : List.findIdx? (fun e => (strKind P w).is k e.2) es.toList with
  | some j => exact wpAny_pure (wpAny_pure h)
  | none =>
    exfalso
    obtain ⟨e, he, q⟩ := (F.mem k).mp hk
    have c := List.findIdx?_eq_none_iff.mp hfi e he
    rw [q] at c
    cases c
def putS (k : Str) (l : List Str) : List Str := if k ∈ l then l else k :: l
/-- a text is added -/
theorem addS {Q : Bool → Shared → Prop} (ho : s.heap.get? a = some (sObj T D)) (F : TxR P w D l) (hb : l.length + 1 < scanBound)
    (h : ∀ D' h', h'.get? a = some (sObj T D') → TxR P w D' (putS k l) → Heap.SameBut a s.heap h' → ∀ b, Q b { s with heap := h' }) : wpAny (model P w) A (setAddHashed a (.str k u) (hashStr w k)) Q E s := by
  by_cases c : k ∈ l
  · refine add_there ho F.ok c (by omega) ?_
    have := h D s.heap ho (by unfold putS; rw [if_pos c]; exact F) (Heap.SameBut.refl a s.heap) false
    exact this
  · refine add_x ho F.ok c hb ?_
    exact h _ _ (get_upd _ ho rfl) (by unfold putS; rw [if_neg c]; exact F.add u) (Heap.SameBut.update s.heap a _) true
end
end KA
set_option Elab.async false
set_option linter.all false
set_option maxRecDepth 100000
set_option maxHeartbeats 400000
namespace KA
open PySem PySem.Spec PySem.W PySem.Calls PyProof PyProof.Rows L2 PySem.Froz
/-! The members of a set of texts, sorted. -/
section
variable {P : Program} {w : World} {A : Around} {E : Value → Shared → Prop} {s : Shared} {a : Addr} {D : SD} {l : List Str}
theorem strs_ex : ∀ {vs : List Value}, (∀ v ∈ vs, ∃ k t, v = Value.str k t) → ∃ ts, StrsAre vs ts
  | [], _ => ⟨[], .nil⟩
  | v :: r, h => by
    obtain ⟨k, t, rfl⟩ := h v List.mem_cons_self
    obtain ⟨ts, h2⟩ := strs_ex fun u hu => h u (List.mem_cons_of_mem _ hu)
    exact ⟨k :: ts, .cons k t h2⟩
theorem strs_mem : ∀ {vs : List Value} {ts : List Str} {k : Str}, StrsAre vs ts → (k ∈ ts ↔ ∃ t, Value.str k t ∈ vs)
  | _, _, k, .nil => by simp
  | _, _, k, .cons y t h => by
    rw [List.mem_cons, strs_mem h]
    constructor
    · rintro (rfl | ⟨u, hu⟩)
      · exact ⟨t, List.mem_cons_self⟩
      · exact ⟨u, List.mem_cons_of_mem _ hu⟩
    · rintro ⟨u, hu⟩
      rcases List.mem_cons.mp hu with e | hu
      · injection e with e1 e2
        exact .inl e1
      · exact .inr ⟨u, hu⟩
theorem strs_len : ∀ {vs : List Value} {ts : List Str}, StrsAre vs ts → vs.length = ts.length
  | _, _, .nil => rfl
  | _, _, .cons _ _ h => congrArg (· + 1) (strs_len h)
theorem is_strE {k : Str} {v : Value} (h : (strKind P w).is k v = true) : ∃ t, v = .str k t := by
  have h : Value.isStrOf k v = true := h
  cases v <;> simp [Value.isStrOf] at h
  exact ⟨_, by rw [h]⟩
theorem perm_of_len : ∀ {l m : List Str}, l.Nodup → (∀ x ∈ l, x ∈ m) → m.length = l.length → m.Perm l
  | [], m, _, _, h => by
    cases m with
    | nil => exact .nil
    | cons _ _ => cases h
  | x :: t, m, nd, hm, hl => by
    obtain ⟨h1, h2⟩ := List.nodup_cons.mp nd
    have hx := hm x List.mem_cons_self
    have p := List.perm_cons_erase hx
    refine p.trans ((perm_of_len h2 (fun y hy => ?_) ?_).cons x)
    · have : y ≠ x := fun e => h1 (e ▸ hy)
      exact (List.mem_erase_of_ne this).mpr (hm y (List.mem_cons_of_mem _ hy))
    · rw [List.length_erase_of_mem hx, hl] <;> rfl
/-- the entries in any order are the texts -/
theorem TxR.out (F : TxR P w D l) (nd : l.Nodup) {out : List Value} (p : out.Perm (D.1.toList.map (·.2))) : ∃ ts, StrsAre out ts ∧ ts.Perm l := by
  obtain ⟨ts, h⟩ := strs_ex (vs := out) fun v hv => by
    obtain ⟨e, he, rfl⟩ := List.mem_map.mp (p.mem_iff.mp hv)
    obtain ⟨⟨k, hk, _⟩, _⟩ := F.ok.el e he
    obtain ⟨t, e⟩ := is_strE hk
    exact ⟨k, t, e⟩
  refine ⟨ts, h, perm_of_len nd (fun k hk => ?_) ?_⟩
  · obtain ⟨e, he, q⟩ := (F.ok.mem k).mp hk
    obtain ⟨t, e2⟩ := is_strE q
    exact (strs_mem h).mpr ⟨t, p.mem_iff.mpr (List.mem_map.mpr ⟨e, he, e2⟩)⟩
  · rw [← strs_len h, p.length_eq, List.length_map, Array.length_toList]
    exact F.ok.sz
def leS (x y : Str) : Prop := x.cps.toList ≤ y.cps.toList
theorem strs_each : ∀ {vs : List Value} {ts : List Str}, StrsAre vs ts → EachIs (fun v (k : Str) => ∃ t, v = Value.str k t) vs ts
  | _, _, .nil => .nil
  | _, _, .cons y t h => .cons ⟨t, rfl⟩ (strs_each h)
theorem each_strs : ∀ {vs : List Value} {ts : List Str}, EachIs (fun v (k : Str) => ∃ t, v = Value.str k t) vs ts → StrsAre vs ts
  | _, _, .nil => .nil
  | _, _, .cons h r => by
    obtain ⟨t, rfl⟩ := h
    exact .cons _ t (each_strs r)
theorem sorted_texts {Q : Value → Shared → Prop} (ho : s.heap.get? a = some (sObj "set" D)) (F : TxR P w D l) (nd : l.Nodup) (hb : l.length < scanBound) (hh : A.handled = none) (hu : A.units + 10 < cLine)
    (hQ : ∀ s' p (out : List Value) (c : Nat) (ts : List Str), (∀ b o, s.heap.get? b = some o → s'.heap.get? b = some o) → s'.gens = s.gens → s'.os = s.os → s.heap.objs.size ≤ p →
      s'.heap.get? p = some (seqObj "list" out.toArray c) → StrsAre out ts → ts.Perm l → ts.Pairwise leS → Q (.ref p) s') :
    wpAny (model P w) A (call (.builtin "sorted") [.ref a]) Q E s := by
  refine Calls.call_function_entry kind_sorted plain_sorted entry_sorted (args_sorted1 _) ?_
  unfold Builtin.«sorted»
  refine wpAny_bind (m := checkCount "sorted" 1 1 _) (wpAny_pure ?_)
  have hsz : D.1.size = l.length := F.ok.sz
  refine wpAny_bind (collect_set (A := A.in1) (es := D.1) (ep := D.2.1) (t := D.2.2) hh ⟨_, ho, rfl, rfl⟩ F.ok.fit (by omega) F.ris F.led fun s1 vs k1 hz g1 o1 pm => ?_)
  obtain ⟨ts, hts, pts⟩ := F.out nd pm
  have hvl : vs.length = l.length := by rw [strs_len hts, pts.length_eq]
  have hL : vs.length ≤ sizeLine := by rw [hvl, sizeLine_eq]; unfold scanBound at hb; omega
  refine wpAny_bind (wpAny_newList ?_ hL)
  have hoL : (s1.heap.push (seqObj "list" vs.toArray 0)).get? s1.heap.objs.size = some (seqObj "list" vs.toArray 0) := Heap.get?_push_size _ rfl
  have e := strs_each hts
  have er : EachIs (fun v (k : Str) => ∃ as, Reads (sortingHeap (s1.heap.push (seqObj "list" vs.toArray 0)) s1.heap.objs.size vs) v (PyData.str k) as) vs ts := e.mono fun v k ⟨t, h⟩ => ⟨[], by rw [h]; exact .str _ _⟩
  have hal : AllAlike (ts.map PyData.str) := AllAlike.of fun _ _ => by simp [alike]
  have hk : Sortable (ts.map PyData.str) := Sortable.others fun b => ⟨nofun, nofun⟩
  have S : SortsAt P w A.in1.in1 { s1 with heap := sortingHeap (s1.heap.push (seqObj "list" vs.toArray 0)) s1.heap.objs.size vs } (dataKind (sortingHeap (s1.heap.push (seqObj "list" vs.toArray 0)) s1.heap.objs.size vs) (ts.map PyData.str)) vs := SortsAt.data (s := { s1 with heap := sortingHeap (s1.heap.push (seqObj "list" vs.toArray 0)) s1.heap.objs.size vs }) (each_map (R := fun v d => ∃ as, Reads (sortingHeap (s1.heap.push (seqObj "list" vs.toArray 0)) s1.heap.objs.size vs) v d as) (fun k : Str => PyData.str k) er) hal hk (fun d hd => by
    obtain ⟨k, _, rfl⟩ := List.mem_map.mp hd
    have : (PyData.str k).depth = 0 := by simp [PyData.depth]
    have e1 : A.in1.in1.units = A.units + 2 := rfl
    omega)
  refine wpAny_bind (wpAny_holding (wpAny_call_entry slot_list_sort ⟨_, hoL, rfl⟩ entry_list_sort (list_sort_vals (s := { s1 with heap := s1.heap.push (seqObj "list" vs.toArray 0) }) hoL S hL ⟨_, rfl, ?_⟩) (args_list_sort _)))
  have eo := sortVals_data (h' := sortingHeap (s1.heap.push (seqObj "list" vs.toArray 0)) s1.heap.objs.size vs) false e er hal
  generalize sortVals (dataKind (sortingHeap (s1.heap.push (seqObj "list" vs.toArray 0)) s1.heap.objs.size vs) (ts.map PyData.str)) false vs vs = out at eo ⊢
  obtain ⟨c, hc⟩ := sortedHeap_at (vs := vs) (out := out.toArray) hoL
  refine wpAny_pure ⟨_, rfl, hQ _ s1.heap.objs.size out c _ (fun b u q => ?_) g1 o1 hz hc (each_strs eo) ((List.mergeSort_perm _ _).trans pts) ?_⟩
  · have q := k1 b u q
    have hlt := Heap.lt_size q
    show (sortedHeap (s1.heap.push (seqObj "list" vs.toArray 0)) s1.heap.objs.size vs out.toArray).get? b = some u
    rw [sortedHeap_old (Nat.ne_of_lt hlt) (by rw [size_push']; exact Nat.lt_succ_of_lt hlt)]
    exact Heap.get?_push_of_some _ q
  · rw [dataLe_str fun k : Str => k]
    have := List.pairwise_mergeSort (le := fun a b : Str => decide (a.cps.toList ≤ b.cps.toList)) (fun x y z h1 h2 => decide_eq_true (List.le_trans (of_decide_eq_true h1) (of_decide_eq_true h2))) (fun x y => by
      rcases List.le_total x.cps.toList y.cps.toList with h | h
      · rw [decide_eq_true h] <;> rfl
      · rw [decide_eq_true h, Bool.or_true]) ts
    exact this.imp fun {x y} h => (of_decide_eq_true h : x.cps.toList ≤ y.cps.toList)
/-- sorted unlike texts are one row -/
theorem sorted_one : ∀ {x y : List Str}, x.Perm y → x.Pairwise leS → y.Pairwise leS → x = y
  | [], y, p, _, _ => (List.nil_perm.mp p).symm
  | a :: x, [], p, _, _ => absurd p.length_eq (by simp)
  | a :: x, b :: y, p, h1, h2 => by
    obtain ⟨p1, p2⟩ := List.pairwise_cons.mp h1
    obtain ⟨q1, q2⟩ := List.pairwise_cons.mp h2
    have e : a = b := by
      rcases List.mem_cons.mp (p.mem_iff.mp List.mem_cons_self) with e | e
      · exact e
      · rcases List.mem_cons.mp (p.mem_iff.mpr (List.mem_cons_self (a := b) (l := y))) with e2 | e2
        · exact e2.symm
        · have := List.le_antisymm (p1 b e2) (q1 a e)
          cases a
          cases b
          rw [Str.mk.injEq]
          exact Array.toList_inj.mp this
    subst e
    rw [sorted_one (List.Perm.cons_inv p) p2 q2]
end
end KA
set_option Elab.async false
set_option linter.all false
set_option maxRecDepth 100000
set_option maxHeartbeats 400000
namespace KA
open PySem PySem.Spec PyProof PyProof.Rows L2 PySem.Froz
/-! A set of texts as a thing of memory; sorted of it. -/
/-- the set of the texts l at a -/
def SetSO (P : Program) (w : World) (a : Addr) (l : List Str) : HO := .ext fun h => ∃ D, h.get? a = some (sObj "set" D) ∧ TxR P w D l
section
variable {X : Cx} {pins : List (Addr × Obj)} {σ : L2.St} {H : Hp} {s : Shared} {a : Addr} {l : List Str}
theorem setS_new {P : Program} {w : World} {h : Heap} {D : SD} (ho : h.get? a = some (sObj "set" D)) (F : TxR P w D l) : ObjOk P w H h a (SetSO P w a l) :=
  ⟨⟨D, ho, F⟩, ⟨_, ho⟩, fun h1 h2 ⟨D2, p, q⟩ k => ⟨D2, k _ p, q⟩⟩
theorem setS_get (I : Inv X pins σ H s) (ha : H a = some (SetSO X.prog X.w a l)) : ∃ D, s.heap.get? a = some (sObj "set" D) ∧ TxR X.prog X.w D l := (I.hok a _ ha).1
def rSortedS (P : Program) (w : World) : List V → Hp → VK → Prop := fun vs H Q => ∃ (a : Addr) (l : List Str), vs = [V.ref a] ∧ H a = some (SetSO P w a l) ∧ l.Nodup ∧ l.length < scanBound ∧
  ∀ (ts : List Str) (p : Addr), ts.Perm l → ts.Pairwise leS → H p = none → Q (.ref p) (upd H p (.lst (ts.map V.str)))
theorem cr_sortedS (hc : X.calm = true) (hu : X.A.units + 10 < cLine) : CallR X (.builtin "sorted") (rSortedS X.prog X.w) := by
  intro pins s σ H vs us Q I r h
  obtain ⟨a, l, rfl, ha, nd, hb, q⟩ := h
  obtain ⟨D, ho, F⟩ := setS_get I ha
  rw [Vals.ref1 r]
  refine sorted_texts ho F nd hb (I.ok.hd hc) hu fun s' p out c ts k g o hp hg hi pm so => ?_
  have hlen : (ts.map V.str).length ≤ sizeLine := by
    rw [List.length_map, pm.length_eq, sizeLine_eq]
    unfold scanBound at hb
    omega
  have hn : H p = none := I.hok.fresh hp
  have J : Inv X pins σ (upd H p (.lst (ts.map V.str))) { s with heap := s'.heap, gens := s'.gens, drawn := s'.drawn, toks := s'.toks } :=
    I.call (ch := []) (Un.laid k hp hn) (I.hok.laid k hp ⟨hlen, out, c, vals_of_strs hi, hg⟩) (by rw [g]; exact I.bare) (fun _ z => nomatch z)
  have e : s' = { s with heap := s'.heap, gens := s'.gens, drawn := s'.drawn, toks := s'.toks } := by
    cases s'
    cases s
    cases o
    rfl
  rw [e]
  exact ⟨.ref p, _, J, rfl, q ts p pm so hn⟩
end
end KA
set_option Elab.async false
set_option linter.all false
set_option maxRecDepth 100000
set_option maxHeartbeats 400000
namespace KA
open PySem PySem.Spec PyProof PyProof.Rows L2 PySem.Froz
/-! A text is added to a set that lies in memory. -/
section
variable {P : Program} {w : World} {A : Around} {E : Value → Shared → Prop} {s : Shared} {a : Addr} {D : SD} {l : List Str} {k : Str} {u : Tok}
theorem call_addS {Q : Value → Shared → Prop} (ho : s.heap.get? a = some (sObj "set" D)) (G : TxR P w D l) (hb : l.length + 1 < scanBound)
    (h : ∀ D' h', h'.get? a = some (sObj "set" D') → TxR P w D' (putS k l) → Heap.SameBut a s.heap h' → Q .none { s with heap := h', toks := s.toks + 1 }) : wpAny (model P w) A (call (.builtin "set.add") [.ref a, .str k u]) Q E s := by
  refine wpAny_call_entry PySem.F.slot_set_add (T := "set") ⟨_, ho, rfl⟩ PySem.F.entry_set_add ?_ (PySem.F.args_set_add_2 _ _)
  unfold Builtin.«set.add» Builtin.Frozenset.oneOther
  simp only [List.isEmpty_nil, bind_assoc]
  unfold Builtin.Frozenset.addrOf setAdd
  refine wpAny_bind (wpAny_pure ?_)
  try dsimp only
  refine wpAny_bind (wpAny_pure ?_)
  try dsimp only
  refine wpAny_bind ?_
  refine wpAny_holding ?_
  refine wpAny_bind ((strKind P w).pyHash (is_str k u) ?_)
  refine addS (s := { s with toks := s.toks + 1 }) ho G hb fun D' h' q1 q2 sb b => ?_
  show wpAny _ _ (ret Value.none) _ _ _
  exact wpAny_pure ⟨_, rfl, h D' h' q1 q2 sb⟩
end
section
variable {X : Cx} {pins : List (Addr × Obj)} {σ : L2.St} {H : Hp} {s : Shared} {E : Value → Shared → Prop} {D : Addr} {l : List Str} {k : Str} {u : Tok}
theorem addS_ok {Q : Value → Shared → Prop} (I : Inv X pins σ H s) (hD : H D = some (SetSO X.prog X.w D l)) (hb : l.length + 1 < scanBound)
    (h : ∀ s', Inv X pins σ (upd H D (SetSO X.prog X.w D (putS k l))) s' → Q .none s') : wpAny (model X.prog X.w) X.A (call (.builtin "set.add") [.ref D, .str k u]) Q E s := by
  obtain ⟨D0, ho, F⟩ := setS_get I hD
  refine call_addS ho F hb fun D' h' q1 q2 sb => ?_
  exact h _ (I.write (e := D) (t' := s.toks + 1) (by rw [hD]; trivial) (.inl rfl) (fun b u hb hu => (sb.2 b hb).trans hu) ⟨_, q1⟩ (setS_new q1 q2))
end
end KA
set_option Elab.async false
set_option linter.all false
set_option maxRecDepth 100000
set_option maxHeartbeats 400000
namespace KA
open PySem PySem.Spec PyProof PyProof.Rows L2
/-! The turns of a set comprehension of two clauses. -/
abbrev sc2 (elt t0 i0 t1 i1 : Expr) (c0 c1 : List Expr) (scope : Scope) (pos : Pos) : Expr := .SetComp elt [⟨t0, i0, c0, 0⟩, ⟨t1, i1, c1, 0⟩] scope pos
theorem sturn_out (elt t0 i0 t1 i1 : Expr) (c0 c1 : List Expr) (scope : Scope) (pos : Pos) (it acc : Value) (env : Env) :
    compTurn (sc2 elt t0 i0 t1 i1 c0 c1 scope pos) 0 it acc env = (do
      standAt i0.pos
      match ← pyNext it with
      | none => pure (.done .next)
      | some v =>
        letOwnedTupleGo t0 it v
        assign t0 env v
        let mut ok := true
        for c in c0 do
          if ok then ok ← isTrue c env (eval c env)
        if ok then
          let x ← eval i1 env
          standAt i1.pos
          let x ← foldedSetIterable i1 env x
          let _ ← runOwn (.compStart (sc2 elt t0 i0 t1 i1 c0 c1 scope pos) 1 (← holding [x] (pyIter x)) acc env) env
        again (.compLoop (sc2 elt t0 i0 t1 i1 c0 c1 scope pos) 0 it acc env)) := by rfl
theorem sturn_in (elt t0 i0 t1 i1 : Expr) (c0 c1 : List Expr) (scope : Scope) (pos : Pos) (it acc : Value) (env : Env) :
    compTurn (sc2 elt t0 i0 t1 i1 c0 c1 scope pos) 1 it acc env = (do
      standAt i1.pos
      match ← pyNext it with
      | none => pure (.done .next)
      | some v =>
        letOwnedTupleGo t1 it v
        assign t1 env v
        let mut ok := true
        for c in c1 do
          if ok then ok ← isTrue c env (eval c env)
        if ok then
          (do let v ← eval elt env; standAt elt.pos; let _ ← call (.builtin "set.add") [acc, v])
        again (.compLoop (sc2 elt t0 i0 t1 i1 c0 c1 scope pos) 1 it acc env)) := by rfl
section
variable {prog : Program} {w : World} {A : Around} {R : Result → Shared → Prop} {s : Shared} {elt t0 i0 t1 i1 : Expr} {c0 c1 : List Expr} {scope : Scope} {pos : Pos} {it acc : Value} {env : Env}
/-- what a raise in the block comes to -/
abbrev scE (prog : Program) (w : World) (A : Around) (env : Env) (R : Result → Shared → Prop) : Value → Shared → Prop := notedBy (model prog w) A env fun e s' => R (.error e) s'
/-- the tests of a clause, behind its store -/
def scHead (prog : Program) (w : World) (A : Around) (env : Env) (R : Result → Shared → Prop) (tg : Expr) (cs : List Expr) (it v : Value) (T F : Shared → Prop) (s : Shared) : Prop :=
  wpAny (model prog w) A (letOwnedTupleGo tg it v) (fun _ s1 => wpAny (model prog w) A (assign tg env v) (fun _ s2 =>
    wpAny (model prog w) A (forIn cs true fun c r => if r = true then do let ok ← isTrue c env (eval c env); pure (ForInStep.yield ok) else pure (ForInStep.yield r)) (fun ok s3 => if ok = true then T s3 else F s3) (scE prog w A env R) s2) (scE prog w A env R) s1) (scE prog w A env R) s
theorem sloop_out (hs : ∀ x, foldedSetIterable i1 env x = pure x) (I : Nat → Shared → Prop)
    (turn : ∀ n s, I n s → wpAny (model prog w) A (pyNext it) (fun r s₁ => match r with
      | none => R (.ok .next) s₁
      | some v => scHead prog w A env R t0 c0 it v (fun s₃ => wpAny (model prog w) A (eval i1 env) (fun x s₄ => wpAny (model prog w) A (pyIter x) (fun it1 s₅ =>
              codeAny (model prog w) A (.compStart (sc2 elt t0 i0 t1 i1 c0 c1 scope pos) 1 it1 acc env) (fun r s' => match r with
                | .ok _ => ∃ m, m < n ∧ I m s'
                | .error _ => False) s₅) (scE prog w A env R) s₄) (scE prog w A env R) s₃) (fun s₃ => ∃ m, m < n ∧ I m s₃) s₁) (scE prog w A env R) s)
    (n : Nat) (h : I n s) : codeAny (model prog w) A (.compLoop (sc2 elt t0 i0 t1 i1 c0 c1 scope pos) 0 it acc env) R s := by
  refine codeAny_loop rfl I (fun n s hI => ?_) n h
  show wpAny _ A ((compTurn (sc2 elt t0 i0 t1 i1 c0 c1 scope pos) 0 it acc env).onRaise (fun x => do noteFrame x env; theTreesLotGoes x)) _ _ s
  refine wpAny_noted ?_
  rw [sturn_out]
  refine wpAny_bind (wpAny_standAt (wpAny_bind (wpAny_mono (turn n s hI) (fun r s₁ h₁ => ?_) fun _ _ h' => h')))
  cases r with
  | none => exact wpAny_pure h₁
  | some v =>
    unfold scHead at h₁
    refine wpAny_bind (wpAny_mono h₁ (fun _ s2 h2 => wpAny_bind (wpAny_mono h2 (fun _ s3 h3 => wpAny_bind (wpAny_mono h3 (fun ok s4 h4 => ?_) fun _ _ h' => h')) fun _ _ h' => h')) fun _ _ h' => h')
    cases ok with
    | false => exact wpAny_pure ⟨rfl, h4⟩
    | true =>
      refine wpAny_bind (wpAny_mono h4 (fun x s5 h5 => ?_) fun _ _ h' => h')
      refine wpAny_bind (wpAny_standAt (wpAny_bind (wpAny_of_eq (hs x) (wpAny_bind (wpAny_holding (wpAny_mono h5 (fun it1 s6 h6 => ?_) fun _ _ h' => h'))))))
      refine wpAny_bind (wpAny_runOwn ?_)
      rw [Around.mark_none]
      refine codeAny_mono h6 fun r s' hr => ?_
      cases r with
      | ok f => first | exact wpAny_pure ⟨rfl, hr⟩ | exact wpAny_bind (wpAny_pure (wpAny_pure ⟨rfl, hr⟩))
      | error e => exact hr.elim
theorem sloop_in (I : Nat → Shared → Prop)
    (turn : ∀ n s, I n s → wpAny (model prog w) A (pyNext it) (fun r s₁ => match r with
      | none => R (.ok .next) s₁
      | some v => scHead prog w A env R t1 c1 it v (fun s₃ => wpAny (model prog w) A (eval elt env) (fun x s₄ =>
              wpAny (model prog w) A (call (.builtin "set.add") [acc, x]) (fun _ s₅ => ∃ m, m < n ∧ I m s₅) (scE prog w A env R) s₄) (scE prog w A env R) s₃) (fun s₃ => ∃ m, m < n ∧ I m s₃) s₁) (scE prog w A env R) s)
    (n : Nat) (h : I n s) : codeAny (model prog w) A (.compLoop (sc2 elt t0 i0 t1 i1 c0 c1 scope pos) 1 it acc env) R s := by
  refine codeAny_loop rfl I (fun n s hI => ?_) n h
  show wpAny _ A ((compTurn (sc2 elt t0 i0 t1 i1 c0 c1 scope pos) 1 it acc env).onRaise (fun x => do noteFrame x env; theTreesLotGoes x)) _ _ s
  refine wpAny_noted ?_
  rw [sturn_in]
  refine wpAny_bind (wpAny_standAt (wpAny_bind (wpAny_mono (turn n s hI) (fun r s₁ h₁ => ?_) fun _ _ h' => h')))
  cases r with
  | none => exact wpAny_pure h₁
  | some v =>
    unfold scHead at h₁
    refine wpAny_bind (wpAny_mono h₁ (fun _ s2 h2 => wpAny_bind (wpAny_mono h2 (fun _ s3 h3 => wpAny_bind (wpAny_mono h3 (fun ok s4 h4 => ?_) fun _ _ h' => h')) fun _ _ h' => h')) fun _ _ h' => h')
    cases ok with
    | false => exact wpAny_pure ⟨rfl, h4⟩
    | true => exact wpAny_bind (wpAny_bind (wpAny_mono h4 (fun x s5 h5 => wpAny_bind (wpAny_standAt (wpAny_bind (wpAny_mono h5 (fun _ s6 h6 => wpAny_pure (wpAny_pure ⟨rfl, h6⟩)) fun _ _ h' => h')))) fun _ _ h' => h'))
end
end KA
set_option Elab.async false
set_option linter.all false
set_option maxRecDepth 100000
set_option maxHeartbeats 400000
namespace KA
open PySem PySem.Spec PyProof PyProof.Rows L2
/-! The start of the second clause. -/
section
variable {prog : Program} {w : World} {A : Around} {R : Result → Shared → Prop} {s : Shared} {elt t0 i0 t1 i1 : Expr} {c0 c1 : List Expr} {scope : Scope} {pos : Pos} {it acc : Value} {env : Env}
theorem sstart1 (h0 : codeAny (model prog w) A (.compLoop (sc2 elt t0 i0 t1 i1 c0 c1 scope pos) 1 it acc env) R s)
    (h : wpAny (model prog w) A (pyIter it) (fun it' s' => codeAny (model prog w) A (.compLoop (sc2 elt t0 i0 t1 i1 c0 c1 scope pos) 1 it' acc env) R s') (scE prog w A env R) s) :
    codeAny (model prog w) A (.compStart (sc2 elt t0 i0 t1 i1 c0 c1 scope pos) 1 it acc env) R s := by
  refine codeAny_of_tree ?_
  show wpAny _ _ ((compStart (sc2 elt t0 i0 t1 i1 c0 c1 scope pos) 1 it acc env).onRaise (fun x => do noteFrame x env; standAt theWindowsPlace)) _ _ s
  refine wpAny_notedAt ?_
  unfold compStart
  show wpAny _ _ (ask >>= _) _ _ s
  refine wpAny_bind (wpAny_askSetting (wpAny_ite ?_))
  split
  · first | exact wpAny_bind (wpAny_pure (wpAny_pure (And.intro rfl h0))) | exact wpAny_pure (And.intro rfl h0)
  · refine wpAny_bind (wpAny_rule ?_)
    show wpAny _ _ (standAt i1.pos >>= _) _ _ s
    exact wpAny_bind (wpAny_standAt (wpAny_bind (wpAny_mono h (fun it' s' h' => wpAny_pure (And.intro rfl h')) fun _ _ x => x)))
end
end KA
set_option Elab.async false
set_option linter.all false
set_option maxRecDepth 100000
set_option maxHeartbeats 400000
namespace KA
open PySem PySem.Spec PyProof PyProof.Rows L2 PySem.Froz
/-! A set comprehension of two clauses that adds texts: what a reader has to say. -/
section
variable {X : Cx}
/-- {elt for tg in iter if .. for tg1 in iter1 if ..}, elt a text: D the new set -/
def tSc2 (P : Program) (w : World) (wi : TI) (g : TG) (tt : TT) (wi1 : TI) (g1 : TG) (tt1 : TT) (te : TE) (vs vs1 : List Nat) : TE := fun σ H Q => wi σ H fun J H1 => ∀ D, H1 D = none → ∃ W : Nat → Nat → Hp → Prop, (∃ m, W 0 m (upd H1 D (SetSO P w D []))) ∧ ∀ i m H, W i m H →
  (J.stop i H ∧ Q (.ref D) H) ∨ (J.go i H ∧ ∃ Nx : Hp → Prop, (∀ H', Nx H' → ∃ m', m' < m ∧ W (i + 1) m' H') ∧ ∀ x H', J.yld i H x H' → g x (wipe σ vs) H' fun σ2 H2 => wipe σ2 vs = wipe σ vs ∧ tt σ2 H2 fun b H3 =>
    if b = true then wi1 σ2 H3 fun J1 H4 => ∃ W1 : Nat → Nat → Hp → Prop, (∃ m, W1 0 m H4) ∧ ∀ j k H, W1 j k H →
      (J1.stop j H ∧ Nx H) ∨ (J1.go j H ∧ ∃ Nx1 : Hp → Prop, (∀ H', Nx1 H' → ∃ k', k' < k ∧ W1 (j + 1) k' H') ∧ ∀ x H', J1.yld j H x H' → g1 x (wipe σ2 vs1) H' fun σ3 H5 => wipe σ3 vs1 = wipe σ2 vs1 ∧ tt1 σ3 H5 fun b H6 =>
        if b = true then te σ3 H6 fun y H7 => ∃ (k : Str) (l : List Str), y = .str k ∧ H7 D = some (SetSO P w D l) ∧ l.length + 1 < scanBound ∧ Nx1 (upd H7 D (SetSO P w D (putS k l))) else Nx1 H6)
    else Nx H3)
theorem setS_fresh {P : Program} {w : World} {H : Hp} {h : Heap} : ObjOk P w H (h.push { cls := .type "set", dict := none, data := .set #[] 0 (.fresh 0 0 (!w.params.followText "set-order")) }) h.objs.size (SetSO P w h.objs.size []) :=
  setS_new (D := (#[], 0, .fresh 0 0 (!w.params.followText "set-order"))) (Heap.get?_push_size _ rfl) (TxR.new P w)
end
end KA
set_option Elab.async false
set_option linter.all false
set_option maxRecDepth 100000
set_option maxHeartbeats 400000
namespace KA
open PySem PySem.Spec PyProof.Rows L2
/-! The core of a set comprehension of two clauses over texts. -/
section
variable {X : Cx}
theorem sc2_core {pins : List (Addr × Obj)} {s : Shared} {σ : L2.St} {H : Hp} {Q : VK} {elt tg iter tg1 iter1 : Expr} {ifs ifs1 : List Expr} {scope : Scope} {own : List (Str × Nat)} {vs1 : List Nat} {pos pos' : Pos} {wi wi1 : TI} {g g1 : TG} {tt tt1 : TT} {te : TE} {use : Option (Value → Sem Unit)} {Qf : Value → Shared → Prop}
    (hc : X.calm = true) (hN : X.N.Nodup) (I : Inv X pins σ H s) (hi : PI X tg iter wi) (ok : BlkOk X.N X.env.scope scope own) (hv : ∀ i ∈ vs1, i ∈ own.map (·.2))
    (hg : ∀ (s : Shared) (H : Hp) (C : Addr) (cl : List (Str × Addr)) (fp : List Addr), PG (X.blk s H scope (compEnvC scope cl C X.env) fp) tg g) (ht : ∀ (s : Shared) (H : Hp) (C : Addr) (cl : List (Str × Addr)) (fp : List Addr), PTs (X.blk s H scope (compEnvC scope cl C X.env) fp) ifs tt)
    (he : ∀ (s : Shared) (H : Hp) (C : Addr) (cl : List (Str × Addr)) (fp : List Addr), PE (X.blk s H scope (compEnvC scope cl C X.env) fp) elt te) (hs : ∀ x, foldedSetIterable iter X.env x = pure x)
    (hi1 : ∀ (s : Shared) (H : Hp) (C : Addr) (cl : List (Str × Addr)) (fp : List Addr), PI (X.blk s H scope (compEnvC scope cl C X.env) fp) tg1 iter1 wi1)
    (hg1 : ∀ (s : Shared) (H : Hp) (C : Addr) (cl : List (Str × Addr)) (fp : List Addr), PG (X.blk s H scope (compEnvC scope cl C X.env) fp) tg1 g1)
    (ht1 : ∀ (s : Shared) (H : Hp) (C : Addr) (cl : List (Str × Addr)) (fp : List Addr), PTs (X.blk s H scope (compEnvC scope cl C X.env) fp) ifs1 tt1)
    (hs1 : ∀ env x, foldedSetIterable iter1 env x = pure x)
    (h : tSc2 X.prog X.w wi g tt wi1 g1 tt1 te (own.map (·.2)) vs1 σ H Q)
    (hRR : ∀ D C s' m H', Inv X pins σ H' s' → Q (.ref D) H' → s'.heap.Ns C m → FpOk X pins H' C → compPost (model X.prog X.w) X.A X.xe use Qf (.ref D) C (.ok .next) s') :
    wpAny (model X.prog X.w) X.A (comprehension (sc2 elt tg iter tg1 iter1 ifs ifs1 scope pos) scope X.env pos' (newSet (.type "set")) false (eval iter X.env) use) Qf X.xe s := by
  have hfree : ∀ y ∈ scope.names, y.2 = .free → ∃ c, X.env.cells.lookup y.1 = some c := fun y hy e => by
    rcases ok.free y hy e with k | k
    · exact I.ok.has _ (.inl k)
    · exact I.ok.has _ (.inr k)
  refine wpAny_comprehension_free (use := use) rfl hs (closure_ok hfree) ok.kind (fun y hy e => by rw [ok.uniq y hy, e])
    (thn (hi.run pins s σ H _ I h) fun xv s1 hx => thn hx fun itv s2 h2 => ?_)
  obtain ⟨it, fp, tn, J, H2, e, I2, T, st2, f2, q⟩ := h2
  subst e
  refine PpSet.newSet_ok (newEnv_comp ?_)
  generalize hD : s2.heap.objs.size = D
  have hDn : H2 D = none := I2.hok.fresh (Nat.le_of_eq hD)
  obtain ⟨W, ⟨m0, w0⟩, turn⟩ := q D hDn
  generalize hs3 : ({ s2 with heap := s2.heap.push { cls := .type "set", dict := none, data := .set #[] 0 (.fresh 0 0 (!X.w.params.followText "set-order")) } } : Shared) = s3
  have I3 : Inv X pins σ (upd H2 D (SetSO X.prog X.w D [])) s3 := by
    rw [← hs3]
    refine I2.laid (t' := s2.toks) (fun b o e => Heap.get?_push_of_some _ e) (Nat.le_of_eq hD) ?_
    rw [← hD]
    exact setS_fresh
  have h3 : s3.heap = s2.heap.push { cls := .type "set", dict := none, data := .set #[] 0 (.fresh 0 0 (!X.w.params.followText "set-order")) } := by rw [← hs3]
  have sz : ∀ b ∈ fp, b < s2.heap.objs.size := fun b hb => by
    obtain ⟨o, e, _⟩ := T.obj _ _ st2 b hb
    exact Heap.lt_size e
  have f3 : ∀ b ∈ fp, FpOk X pins (upd H2 D (SetSO X.prog X.w D [])) b ∧ b < s3.heap.objs.size := fun b hb => by
    have hlt := sz b hb
    refine ⟨⟨?_, (f2 b hb).2⟩, by rw [h3, Heap.size_push]; exact Nat.lt_succ_of_lt hlt⟩
    rw [upd_ne (by rw [← hD]; exact Nat.ne_of_lt hlt)]
    exact (f2 b hb).1
  have st3 : tn 0 s3.heap := T.keep _ _ _ st2 fun b _ o e => by rw [h3]; exact Heap.get?_push_of_some _ e
  have I4 := block_start I3 ok hN f3
  generalize hH3 : upd H2 D (SetSO X.prog X.w D []) = H3 at I3 I4 w0 f3
  have pg := hg s3 H3 s3.heap.objs.size (cellsFrom (s3.heap.objs.size + 1) scope.names (cloFrom X.env.cells scope.names [])) fp
  have pt := ht s3 H3 s3.heap.objs.size (cellsFrom (s3.heap.objs.size + 1) scope.names (cloFrom X.env.cells scope.names [])) fp
  have pe := he s3 H3 s3.heap.objs.size (cellsFrom (s3.heap.objs.size + 1) scope.names (cloFrom X.env.cells scope.names [])) fp
  have pi1 := hi1 s3 H3 s3.heap.objs.size (cellsFrom (s3.heap.objs.size + 1) scope.names (cloFrom X.env.cells scope.names [])) fp
  have pg1 := hg1 s3 H3 s3.heap.objs.size (cellsFrom (s3.heap.objs.size + 1) scope.names (cloFrom X.env.cells scope.names [])) fp
  have pt1 := ht1 s3 H3 s3.heap.objs.size (cellsFrom (s3.heap.objs.size + 1) scope.names (cloFrom X.env.cells scope.names [])) fp
  show codeAny _ _ (.compStart (sc2 elt tg iter tg1 iter1 ifs ifs1 scope pos) 0 (.ref it) (.ref D) (compEnvC scope (cellsFrom (s3.heap.objs.size + 1) scope.names (cloFrom X.env.cells scope.names [])) s3.heap.objs.size X.env)) (compPost (model X.prog X.w) X.A X.xe use Qf (.ref D) s3.heap.objs.size) { s3 with heap := pushCells (s3.heap.push { cls := .type "dict", data := .dict #[] }) scope.names }
  have nfp : ∀ b ∈ fp, H3 b = none := fun b hb => (f3 b hb).1.1
  generalize hce : compEnvC scope (cellsFrom (s3.heap.objs.size + 1) scope.names (cloFrom X.env.cells scope.names [])) s3.heap.objs.size X.env = ce at I4 pg pt pe pi1 pg1 pt1 ⊢
  have cL : ce.locals = s3.heap.objs.size := by subst hce; rfl
  generalize hs4 : ({ s3 with heap := pushCells (s3.heap.push { cls := .type "dict", data := .dict #[] }) scope.names } : Shared) = s4 at I4 ⊢
  have st4 : tn 0 s4.heap := T.keep _ _ _ st3 fun b _ o e => by rw [← hs4]; exact pushCells_keeps _ _ _ _ (Heap.get?_push_of_some _ e)
  have stat : ∀ {σ' : L2.St} {H' : Hp} {s' : Shared}, Inv (X.blk s3 H3 scope ce fp) [] σ' H' s' → (∀ b ∈ fp, H' b = none) → ∀ b ∈ fp, FpOk (X.blk s3 H3 scope ce fp) [] H' b := fun {σ' H' s'} I' hn b hb =>
    ⟨hn b hb, (I'.ok.exf b hb).1, I'.ok.exfs b hb, .inl hb, fun x c e => (I'.ok.exf b hb).2 x c e, fun p hp => absurd (show p ∈ ([] : List (Addr × Obj)) ++ [] from hp) (by simp)⟩
  have loop : codeAny (model X.prog X.w) X.A (.compLoop (sc2 elt tg iter tg1 iter1 ifs ifs1 scope pos) 0 (.ref it) (.ref D) ce) (compPost (model X.prog X.w) X.A X.xe use Qf (.ref D) s3.heap.objs.size) s4 := by
    refine sloop_out (hs1 ce) (fun n s' => ∃ i H', Inv (X.blk s3 H3 scope ce fp) [] (wipe σ (own.map (·.2))) H' s' ∧ tn i s'.heap ∧ (∀ b ∈ fp, H' b = none) ∧ W i n H') ?_ m0 ⟨0, H3, I4, st4, nfp, w0⟩
    rintro n s5 ⟨i, H5, I5, st5, n5, w5⟩
    rcases turn i n H5 w5 with ⟨stop, qq⟩ | ⟨go, Nx, hNx, step⟩
    · have td := T.done (X.blk s3 H3 scope ce fp) rfl rfl rfl hc i [] s5 _ H5 (fun _ _ => False) I5 (stat I5 n5) st5 stop
      refine thnF td fun r s6 ⟨hr, I6⟩ => ?_
      subst hr
      have I7 : Inv X pins σ H5 s6 := I3.call' (ch := fp) I6.os I6.base I6.hok I6.bare fun b hb => ⟨(f3 b hb).1.2.2.2.1, (f3 b hb).1.2.1, (f3 b hb).1.2.2.2.2.1, (f3 b hb).1.2.2.2.2.2⟩
      have nC : H5 s3.heap.objs.size = none := by
        have z : H5 ce.locals = none := I6.free
        rw [cL] at z
        exact z
      obtain ⟨m, hn, _⟩ := I6.loc
      have hn : s6.heap.Ns ce.locals m := hn
      rw [cL] at hn
      exact hRR D s3.heap.objs.size s6 m H5 I7 qq hn (I3.fpOk (Nat.le_refl _) nC)
    · have ti := T.item (X.blk s3 H3 scope ce fp) rfl rfl rfl hc i [] s5 _ H5 (fun _ _ => False) I5 (stat I5 n5) st5 go
      refine thnF ti fun r s6 ⟨u, hr, h6⟩ => ?_
      subst hr
      refine thnF h6 fun _ s7 ⟨x, H7, I7, r7, y7, st7, n7⟩ => ?_
      have I7' := I7.pinned (stat I7 n7) (T.obj _ _ st7)
      refine thnF (pg.run _ s7 _ H7 x u _ I7' r7 (step x H7 y7)) fun _ s8 ⟨σ8, H8, I8, hw8, q8⟩ => ?_
      refine thnF (pt.run _ s8 σ8 H8 _ I8 q8) fun b s9 ⟨H9, I9, q9⟩ => ?_
      have fin : ∀ {σ9 : L2.St} {s' : Shared} {H' : Hp}, Inv (X.blk s3 H3 scope ce fp) ([] ++ pinsAt fp s7.heap) σ9 H' s' → (wipe σ (own.map (·.2))).length = σ9.length → (∀ (j : Nat) v, (wipe σ (own.map (·.2)))[j]? = some (some v) → σ9[j]? = some (some v)) → Nx H' →
          ∃ m, m < n ∧ ∃ i H', Inv (X.blk s3 H3 scope ce fp) [] (wipe σ (own.map (·.2))) H' s' ∧ tn i s'.heap ∧ (∀ b ∈ fp, H' b = none) ∧ W i m H' := fun {σ9 s' H'} I' hl hk nx => by
        obtain ⟨m', hm, w'⟩ := hNx H' nx
        have pin' : ∀ b ∈ fp, ∀ o, s7.heap.get? b = some o → s'.heap.get? b = some o ∧ H' b = none := fun b hb o e =>
          let z := I'.pin (b, o) (List.mem_append_right _ (List.mem_append_right _ (mem_pinsAt hb e)))
          ⟨z.1, z.2.1⟩
        refine ⟨m', hm, i + 1, H', (I'.unpinned (pins := [])).weak hl hk, T.keep _ _ _ st7 fun b hb o e => (pin' b hb o e).1, fun b hb => ?_, w'⟩
        obtain ⟨o, e, _⟩ := T.obj _ _ st7 b hb
        exact (pin' b hb o e).2
      have hl8 : (wipe σ (own.map (·.2))).length = σ8.length := by rw [← hw8, wipe_length]
      have hk8 : ∀ (j : Nat) v, (wipe σ (own.map (·.2)))[j]? = some (some v) → σ8[j]? = some (some v) := fun j v e => by
        rw [← hw8] at e
        exact (wipe_some e).1
      have hk9 : ∀ (j : Nat) v, (wipe σ (own.map (·.2)))[j]? = some (some v) → (wipe σ8 vs1)[j]? = some (some v) := fun j v e => by
        rw [← hw8] at e
        obtain ⟨e1, e2⟩ := wipe_some e
        rw [wipe_out fun z => e2 (hv j z)]
        exact e1
      cases b with
      | false =>
        simp only [Bool.false_eq_true, if_false] at q9 ⊢
        exact fin I9 hl8 hk8 q9
      | true =>
        simp only [if_true] at q9 ⊢
        refine thnF (pi1.run _ s9 σ8 H9 _ I9 q9) fun xv s10 hx => thnF hx fun itv s11 h11 => ?_
        obtain ⟨it1, fp1, tn1, J1, H11, e1, I11, T1, st11, f11, W1, ⟨m1, w1⟩, turn1⟩ := h11
        subst e1
        have stat1 : ∀ {H' : Hp}, (∀ b ∈ fp1, H' b = none) → ∀ b ∈ fp1, FpOk (X.blk s3 H3 scope ce fp) ([] ++ pinsAt fp s7.heap) H' b := fun hn b hb => ⟨hn b hb, (f11 b hb).2⟩
        have loop1 : codeAny (model X.prog X.w) X.A (.compLoop (sc2 elt tg iter tg1 iter1 ifs ifs1 scope pos) 1 (.ref it1) (.ref D) ce)
            (fun r s' => match r with
              | .ok _ => ∃ m, m < n ∧ ∃ i H', Inv (X.blk s3 H3 scope ce fp) [] (wipe σ (own.map (·.2))) H' s' ∧ tn i s'.heap ∧ (∀ b ∈ fp, H' b = none) ∧ W i m H'
              | .error _ => False) s11 := by
          refine sloop_in (fun k s' => ∃ j H', Inv (X.blk s3 H3 scope ce fp) ([] ++ pinsAt fp s7.heap) (wipe σ8 vs1) H' s' ∧ tn1 j s'.heap ∧ (∀ b ∈ fp1, H' b = none) ∧ W1 j k H') ?_ m1 ⟨0, H11, I11.weak (wipe_length _ _) (fun j v e => (wipe_some e).1), st11, fun b hb => (f11 b hb).1, w1⟩
          rintro k s12 ⟨j, H12, I12, st12, n12, w12⟩
          rcases turn1 j k H12 w12 with ⟨stop1, nx1⟩ | ⟨go1, Nx1, hNx1, step1⟩
          · refine thnF (T1.done (X.blk s3 H3 scope ce fp) rfl rfl rfl hc j _ s12 (wipe σ8 vs1) H12 (fun _ _ => False) I12 (stat1 n12) st12 stop1) fun r s13 ⟨hr, I13⟩ => ?_
            subst hr
            exact fin I13 (hl8.trans (wipe_length σ8 vs1).symm) hk9 nx1
          · refine thnF (T1.item (X.blk s3 H3 scope ce fp) rfl rfl rfl hc j _ s12 (wipe σ8 vs1) H12 (fun _ _ => False) I12 (stat1 n12) st12 go1) fun r s13 ⟨u1, hr, h13⟩ => ?_
            subst hr
            refine thnF h13 fun _ s14 ⟨x1, H14, I14, r14, y14, st14, n14⟩ => ?_
            have I14' := I14.pinned (stat1 n14) (T1.obj _ _ st14)
            refine thnF (pg1.run _ s14 (wipe σ8 vs1) H14 x1 u1 _ I14' r14 (step1 x1 H14 y14)) fun _ s15 ⟨σ15, H15, I15, hw15, q15⟩ => ?_
            refine thnF (pt1.run _ s15 σ15 H15 _ I15 q15) fun b1 s16 ⟨H16, I16, q16⟩ => ?_
            have fin1 : ∀ {s' : Shared} {H' : Hp}, Inv (X.blk s3 H3 scope ce fp) (([] ++ pinsAt fp s7.heap) ++ pinsAt fp1 s14.heap) σ15 H' s' → Nx1 H' → ∃ m, m < k ∧ ∃ j H', Inv (X.blk s3 H3 scope ce fp) ([] ++ pinsAt fp s7.heap) (wipe σ8 vs1) H' s' ∧ tn1 j s'.heap ∧ (∀ b ∈ fp1, H' b = none) ∧ W1 j m H' := fun {s' H'} I' nx => by
              obtain ⟨m', hm, w'⟩ := hNx1 H' nx
              have pin' : ∀ b ∈ fp1, ∀ o, s14.heap.get? b = some o → s'.heap.get? b = some o ∧ H' b = none := fun b hb o e =>
                let z := I'.pin (b, o) (List.mem_append_right _ (List.mem_append_right _ (mem_pinsAt hb e)))
                ⟨z.1, z.2.1⟩
              refine ⟨m', hm, j + 1, H', I'.unpinned.weak (by rw [← hw15, wipe_length]) (fun j v e => by rw [← hw15] at e; exact (wipe_some e).1), T1.keep _ _ _ st14 fun b hb o e => (pin' b hb o e).1, fun b hb => ?_, w'⟩
              obtain ⟨o, e, _⟩ := T1.obj _ _ st14 b hb
              exact (pin' b hb o e).2
            cases b1 with
            | false =>
              simp only [Bool.false_eq_true, if_false] at q16 ⊢
              exact fin1 I16 q16
            | true =>
              simp only [if_true] at q16 ⊢
              refine thnF (pe.run _ s16 σ15 H16 _ I16 q16) fun z s17 ⟨yv, H17, I17, r17, kk, ll, ey, hD17, hz17, nx⟩ => ?_
              subst ey
              obtain ⟨tk, rfl⟩ : ∃ tk, z = Value.str kk tk := r17
              exact addS_ok (X := X.blk s3 H3 scope ce fp) I17 hD17 hz17 fun s18 I18 => fin1 I18 nx
        exact sstart1 loop1 (T1.self X.A 0 _ _ _ st11 loop1)
  exact PpSet.codeAny_compStart_set loop (T.self X.A 0 _ _ _ st4 loop)
end
end KA
set_option Elab.async false
set_option linter.all false
set_option maxRecDepth 100000
set_option maxHeartbeats 400000
namespace KA
open PySem PySem.Spec PyProof.Rows L2
/-! The rule of a set comprehension of two clauses over texts. -/
section
variable {X : Cx}
theorem pe_sc2 {elt tg iter tg1 iter1 : Expr} {ifs ifs1 : List Expr} {scope : Scope} {own : List (Str × Nat)} {vs1 : List Nat} {pos : Pos} {wi wi1 : TI} {g g1 : TG} {tt tt1 : TT} {te : TE} (hc : X.calm = true) (hN : X.N.Nodup) (hi : PI X tg iter wi) (ok : BlkOk X.N X.env.scope scope own) (hv : ∀ i ∈ vs1, i ∈ own.map (·.2))
    (hg : ∀ (s : Shared) (H : Hp) (C : Addr) (cl : List (Str × Addr)) (fp : List Addr), PG (X.blk s H scope (compEnvC scope cl C X.env) fp) tg g) (ht : ∀ (s : Shared) (H : Hp) (C : Addr) (cl : List (Str × Addr)) (fp : List Addr), PTs (X.blk s H scope (compEnvC scope cl C X.env) fp) ifs tt)
    (hi1 : ∀ (s : Shared) (H : Hp) (C : Addr) (cl : List (Str × Addr)) (fp : List Addr), PI (X.blk s H scope (compEnvC scope cl C X.env) fp) tg1 iter1 wi1)
    (hg1 : ∀ (s : Shared) (H : Hp) (C : Addr) (cl : List (Str × Addr)) (fp : List Addr), PG (X.blk s H scope (compEnvC scope cl C X.env) fp) tg1 g1) (ht1 : ∀ (s : Shared) (H : Hp) (C : Addr) (cl : List (Str × Addr)) (fp : List Addr), PTs (X.blk s H scope (compEnvC scope cl C X.env) fp) ifs1 tt1)
    (he : ∀ (s : Shared) (H : Hp) (C : Addr) (cl : List (Str × Addr)) (fp : List Addr), PE (X.blk s H scope (compEnvC scope cl C X.env) fp) elt te) (hs : ∀ x, foldedSetIterable iter X.env x = pure x := by intro _; rfl) (hs1 : ∀ env x, foldedSetIterable iter1 env x = pure x := by intro _ _; rfl) :
    PE X (sc2 elt tg iter tg1 iter1 ifs ifs1 scope pos) (tSc2 X.prog X.w wi g tt wi1 g1 tt1 te (own.map (·.2)) vs1) := by
  refine ⟨fun pins s σ H Q I h => ?_⟩
  rw [PpSet.eval_SetComp]
  refine sc2_core hc hN I hi ok hv hg ht he hs hi1 hg1 ht1 hs1 h fun D C s' m H' I' q hn f => ⟨m, hn, fun h'' sb => ?_⟩
  obtain ⟨f0, f1, f2, f3, f4, f5⟩ := f
  exact ⟨.ref D, H', I'.turned (t' := s'.toks) (fun b o hb e => (sb.2 b hb).trans e) f0 f1 f3 f4 f5, rfl, q⟩
end
end KA
set_option Elab.async false
set_option linter.all false
set_option maxRecDepth 100000
set_option maxHeartbeats 400000
/-! Instances: fields as targets; fields, methods, makers read. -/
namespace Ea
open PySem PySem.Spec PyProof PyProof.Rows L2
/-- o.f as a target -/
def gFld (K : PySem.W.Frag) (ta : TE) (f : Str) : TG := fun v σ H Q => ta σ H fun x H2 => ∃ a C dx fs, x = .ref a ∧ H2 a = some (.ins C dx fs) ∧ Cls K C ∧ NoAttr K C f ∧ fs.length < 1000 ∧ Q σ (upd H2 a (.ins C dx (putF f v fs)))
theorem pg_fld {X : Cx} {o : Expr} {f : Str} {pos : Pos} {ta : TE} (ha : PE X o ta) : PG X (.Attribute o f pos) (gFld X.K ta f) := by
  refine ⟨fun pins s σ H v u Q I r h => ?_⟩
  rw [assign_Attribute]
  refine wpAny_bind (wpAny_holding (thn (ha.run pins s σ H _ I h) fun ov s1 ⟨x, H1, I1, r1, a, C, dx, fs, ex, ea, c, n, l, q⟩ => ?_))
  subst ex
  obtain rfl : ov = Value.ref a := r1
  refine wpAny_bind (wpAny_standAt (wpAny_bind (wpAny_holding (setattr_ok I1 ea c n l r fun s3 I3 => ?_))))
  exact wpAny_release ⟨σ, _, I3, q⟩
theorem pg_fldK {X : Cx} {K : PySem.W.Frag} {o : Expr} {f : Str} {pos : Pos} {ta : TE} (hK : X.K = K) (ha : PE X o ta) : PG X (.Attribute o f pos) (gFld K ta f) := hK ▸ pg_fld ha
theorem pe_fldK {X : Cx} {K : PySem.W.Frag} {e : Expr} {f : Str} {pos : Pos} {ta : TE} (hK : X.K = K) (he : PE X e ta) (hb : attributeBase e f X.env (eval e X.env) = eval e X.env) : PE X (.Attribute e f pos) (tFld K ta f) := hK ▸ pe_fld he hb
theorem ps_fldK {X : Cx} {K : PySem.W.Frag} {o value : Expr} {f : Str} {pos pos' : Pos} {ta tv : TE} (hK : X.K = K) (ha : PE X o ta) (hv : PE X value tv) (hs : swapsWith value (some (.Attribute o f pos')) pos.line X.env = pure false) : PS X (.Assign [.Attribute o f pos'] value pos) (sFld K ta tv f) := hK ▸ ps_fld ha hv hs
section
variable {K : PySem.W.Frag} {σ : L2.St} {H : Hp} {Q : VK} {ta tv : TE} {t : TA} {f m : Str} {a C dx : Addr} {fs : List (Str × V)} {v : V} {E : XK} {sp : Sp} {D : Ends}
theorem rd_fld (h : ta σ H fun x H1 => ∃ a C dx fs v, x = .ref a ∧ H1 a = some (.ins C dx fs) ∧ Cls K C ∧ NoAttr K C f ∧ fs.lookup f = some v ∧ Q v H1) : tFld K ta f σ H Q := h
theorem rd_getf (hH : H a = some (.ins C dx fs)) (c : Cls K C) (n : NoAttr K C f) (l : fs.lookup f = some v) (q : Q v H) : ∃ a' C' dx' fs' v', V.ref a = .ref a' ∧ H a' = some (.ins C' dx' fs') ∧ Cls K C' ∧ NoAttr K C' f ∧ fs'.lookup f = some v' ∧ Q v' H := ⟨a, C, dx, fs, v, rfl, hH, c, n, l, q⟩
theorem rd_sfld (h : tv σ H fun y H1 => ta σ H1 fun x H2 => ∃ a C dx fs, x = .ref a ∧ H2 a = some (.ins C dx fs) ∧ Cls K C ∧ NoAttr K C f ∧ fs.length < 1000 ∧ D.nx σ (upd H2 a (.ins C dx (putF f y fs)))) : sFld K ta tv f D σ H := h
theorem rd_putf {R : Hp → Prop} (hH : H a = some (.ins C dx fs)) (c : Cls K C) (n : NoAttr K C f) (l : fs.length < 1000) (q : R (upd H a (.ins C dx (putF f v fs)))) : ∃ a' C' dx' fs', V.ref a = .ref a' ∧ H a' = some (.ins C' dx' fs') ∧ Cls K C' ∧ NoAttr K C' f ∧ fs'.length < 1000 ∧ R (upd H a' (.ins C' dx' (putF f v fs'))) := ⟨a, C, dx, fs, rfl, hH, c, n, l, q⟩
theorem rd_gfld {N : L2.St → Hp → Prop} (h : ta σ H fun x H2 => ∃ a C dx fs, x = .ref a ∧ H2 a = some (.ins C dx fs) ∧ Cls K C ∧ NoAttr K C f ∧ fs.length < 1000 ∧ N σ (upd H2 a (.ins C dx (putF f v fs)))) : gFld K ta f v σ H N := h
theorem rd_meth (h : ta σ H fun x H1 => ∃ a dx fs, x = .ref a ∧ H1 a = some (.ins C dx fs) ∧ fs.lookup m = none ∧ t σ H1 fun vs H2 => sp (x :: vs) H2 Q E) : tMeth C m sp [] E ta t σ H Q := by
  unfold tMeth
  simp only [List.append_nil]
  exact h
theorem rd_callm {R : List V → Hp → Prop} (hH : H a = some (.ins C dx fs)) (l : fs.lookup m = none) (q : t σ H fun vs H2 => R vs H2) : ∃ a' dx' fs', V.ref a = .ref a' ∧ H a' = some (.ins C dx' fs') ∧ fs'.lookup m = none ∧ t σ H fun vs H2 => R vs H2 := ⟨a, dx, fs, rfl, hH, l, q⟩
theorem rd_make (h : t σ H fun vs H1 => ∀ x dx, H1 x = none → H1 dx = none → dx ≠ x → sp (.ref x :: vs) (upd (upd H1 dx (.own x)) x (.ins C dx [])) (fun v H2 => v = .non ∧ Q (.ref x) H2) E) : tMake C sp [] E t σ H Q := by
  unfold tMake
  simp only [List.append_nil]
  exact h
theorem rd_gtupG {k : Nat} {g : List V → L2.St → Hp → (L2.St → Hp → Prop) → Prop} {xs : List V} {N : L2.St → Hp → Prop} (s : SqT K H a xs) (hk : xs.length = k) (h : g xs σ H N) : gTup K k g (.ref a) σ H N := ⟨a, xs, rfl, s, hk, h⟩
end
theorem rd_dget2 {td ty tx : TE} {σ : L2.St} {H : Hp} {Q : VK} (h : td σ H fun x H1 => ∃ a, x = .ref a ∧ IsD H1 a ∧ ty σ H1 fun y H2 => tx σ H2 fun z H3 => ∃ o, DGet H3 a y o ∧ Q (o.getD z) H3) : tDGet2 td ty tx σ H Q := h
theorem rd_setl {H : Hp} {N : Hp → Prop} {p : Addr} {xs : List V} {k : Int} {j : Nat} {v : V} (h : H p = some (.lst xs)) (hj : ixN xs.length k = some j) (q : N (upd H p (.lst (xs.set j v)))) : rSetL (.ref p) (.int k) v H N := ⟨p, xs, k, j, rfl, rfl, h, hj, q⟩
theorem ixn_nat {n j : Nat} {k : Int} (h : k = (j : Int)) (hj : j < n) : ixN n k = some j := by
  subst h
  unfold ixN
  simp [hj]
/-- how a method stands in its class -/
structure CalM (K : PySem.W.Frag) (C : Addr) (m : Str) (f : Addr) (fd : FuncData) (ps : List Str) : Prop where
  m : Meth K C m f
  b : Binds K fd ps []
/-- how a class stands among the module's names -/
structure ClsC (K : PySem.W.Frag) (mg : Str → Option Value) (x : Str) (C : Addr) (fs : List Str) : Prop where
  cl : Cls K C
  mg : mg x = some (.ref C)
  no : ∀ f ∈ fs, NoAttr K C f
/-- all but one cell -/
def Kx (x : Addr) (H H' : Hp) : Prop := ∀ p o, p ≠ x → H p = some o → H' p = some o
theorem Kx.refl {x : Addr} {H : Hp} : Kx x H H := fun _ _ _ e => e
theorem Kx.trans {x : Addr} {H H1 H2 : Hp} (a : Kx x H H1) (b : Kx x H1 H2) : Kx x H H2 := fun p o n e => b p o n (a p o n e)
theorem Kx.ex {x : Addr} {H H1 : Hp} (a : Evl.Ex H H1) : Kx x H H1 := fun p o _ e => a p o e
theorem Kx.at {x : Addr} {H : Hp} {o : HO} : Kx x H (upd H x o) := fun p q n e => by rw [upd_ne n]; exact e
theorem Kx.mut {x p : Addr} {o : HO} {H H1 : Hp} (a : Kx x H H1) (e : H p = none) : Kx x H (upd H1 p o) := fun b q n h => by
  rw [upd_ne (ne_of_none h e)]
  exact a b q n h
theorem Kx.out {x : Addr} {H H1 : Hp} (a : Kx x H H1) (e : H x = none) : Evl.Ex H H1 := fun p o h => a p o (ne_of_none h e) h
theorem Kx.tup {K : PySem.W.Frag} {x C dx : Addr} {fs : List (Str × V)} {H H1 : Hp} (k : Kx x H H1) (hx : H x = some (.ins C dx fs)) {a : Addr} {xs : List V} (t : SqT K H a xs) : SqT K H1 a xs := by
  have hn : ∀ {o : HO}, H a = some o → (∀ C dx fs, o ≠ .ins C dx fs) → H1 a = some o := fun e c => k a _ (fun z => by rw [z, hx] at e; cases e; exact c _ _ _ rfl) e
  rcases t with (t | ⟨o, t⟩) | t
  · exact .inl (.inl (hn t nofun))
  · exact .inl (.inr ⟨o, hn t nofun⟩)
  · exact .inr t
theorem cshl1 {p : Nat} (h : p ≤ 1000) : CShl 1 (p : Int) := ⟨by omega, by
  have : (Builtin.Int.intBits 1 : Int) = 1 := by decide +kernel
  rw [this]
  omega⟩
end Ea
set_option Elab.async false
set_option linter.all false
set_option maxRecDepth 100000
set_option maxHeartbeats 400000
/-! A walk over the keys of a written dict of texts. -/
namespace Ea
open PySem PySem.Spec PyProof PyProof.Rows L2
inductive KeyL : List DictEntry → List (Str × Value) → Prop
  | nil : KeyL [] []
  | cons {e : DictEntry} {kv : Str × Value} {es : List DictEntry} {kvs : List (Str × Value)} : (∃ t, e.key = .str kv.1 t) → e.val = kv.2 → KeyL es kvs → KeyL (e :: es) (kv :: kvs)
structure KWd (K : PySem.W.Frag) (w : World) (d : Addr) (ks : List Str) : Prop where
  ns : (d == sysModules) = false
  ex : ∃ (es : Array DictEntry) (n : Nat) (vs : List (Str × Value)), K.lookup d = some ⟨.type "dict", none, .dict es n, #[]⟩ ∧ PySem.W.KeysLit w.params es.toList ∧ KeyL es.toList vs ∧ vs.map (·.1) = ks ∧ ks.Nodup
theorem keyL_pairs {P : Program} {w : World} : ∀ {es : List DictEntry} {vs : List (Str × Value)}, KeyL es vs → Pairs (strKind P w) es vs
  | _, _, .nil => .nil
  | _, _, .cons (kv := kv) h1 h2 t => by
    obtain ⟨tk, h1⟩ := h1
    exact .cons (by rw [h1]; exact strKind_is P w kv.1 tk) h2 (keyL_pairs t)
theorem dictAt_W {P : Program} {w : World} {K : PySem.W.Frag} {h : Heap} {d : Addr} {es : Array DictEntry} {n : Nat} {vs : List (Str × Value)} (X : K.In h) (hl : K.lookup d = some ⟨.type "dict", none, .dict es n, #[]⟩) (hk : PySem.W.KeysLit w.params es.toList) (hp : KeyL es.toList vs) (hn : (vs.map (·.1)).Nodup) : h.DictAt (strKind P w) d vs n :=
  ⟨_, es, X _ _ hl, ⟨rfl, rfl, rfl⟩, rfl, fun e he => by
    obtain ⟨x, t, e1, e2⟩ := hk.all e (Array.mem_toList_iff.mpr he)
    exact ⟨x, by rw [e1]; exact strKind_is P w x t, e2⟩, keyL_pairs hp, hn⟩
def Itw (ks : List Str) : It := ⟨fun i _ => i < ks.length, fun i H x H' => H' = H ∧ ∃ k, ks[i]? = some k ∧ x = .str k, fun i _ => ks.length ≤ i⟩
theorem turn_keysW {P : Program} {w : World} {K : PySem.W.Frag} {tg : Expr} {d : Addr} {es : Array DictEntry} {n : Nat} {vs : List (Str × Value)} (it : Addr) (hl : K.lookup d = some ⟨.type "dict", none, .dict es n, #[]⟩) (hk : PySem.W.KeysLit w.params es.toList) (hp : KeyL es.toList vs) (hn : (vs.map (·.1)).Nodup) :
    L2.Turn P w K tg (Itw (vs.map (·.1))) [it] it (fun i h => h.IsKeyIter it d i vs.length n) where
  mem := by simp
  obj := fun i h st b hb => by
    have e : b = it := by simpa using hb
    subst e
    obtain ⟨oi, e, c, dd⟩ := st
    exact ⟨oi, e, fun v z => by rw [dd] at z; cases z⟩
  keep := fun i h h' st k => st.at fun oi e => k it (by simp) oi e
  item := by
    intro X hP hw hK hc i pins s σ H E I hf st hg
    subst hP hw hK
    obtain ⟨f0, f1, f2, f3, f4, f5⟩ := hf it (by simp)
    have hm := dictAt_W (P := X.prog) (w := X.w) I.kIn hl hk hp hn
    have hi : i < vs.length := by
      have := hg
      rw [show (Itw (vs.map (·.1))).go i H = (i < (vs.map (·.1)).length) from rfl, List.length_map] at this
      exact this
    obtain ⟨⟨k, v⟩, hkv⟩ : ∃ p, vs[i]? = some p := ⟨vs[i], List.getElem?_eq_getElem hi⟩
    refine wpAny_pyNext_dict_item st hm hkv fun key h' hkey st' sb => ?_
    have I1 : Inv X pins σ H { s with heap := h' } := I.turned (t' := s.toks) (fun b ob hb e => (sb.2 b hb).trans e) f0 f1 f3 f4 f5
    obtain ⟨oi, e, c, dd⟩ := id st'
    have hkey2 : ∃ t, key = .str k t := by
      cases key <;> first
        | exact absurd hkey Bool.false_ne_true
        | (rename_i x t; exact ⟨t, by rw [show k = x from by
            have := (strKind X.prog X.w).inj _ _ _ hkey (strKind_is X.prog X.w x t)
            exact this]⟩)
    obtain ⟨t, hkey2⟩ := hkey2
    exact ⟨key, rfl, go_of (s := { s with heap := h' }) e c dd (by decide) ⟨.str k, H, I1, by rw [hkey2]; exact ⟨t, rfl⟩, ⟨rfl, k, by rw [List.getElem?_map, hkv] <;> rfl, rfl⟩, st', fun b hb => (hf b hb).1⟩⟩
  done := by
    intro X hP hw hK hc i pins s σ H E I hf st hg
    subst hP hw hK
    obtain ⟨f0, f1, f2, f3, f4, f5⟩ := hf it (by simp)
    have hm := dictAt_W (P := X.prog) (w := X.w) I.kIn hl hk hp hn
    have hi : vs.length ≤ i := by
      have := hg
      rw [show (Itw (vs.map (·.1))).stop i H = ((vs.map (·.1)).length ≤ i) from rfl, List.length_map] at this
      exact this
    exact wpAny_pyNext_dict_end (I.ok.hd hc) st hm (List.getElem?_eq_none hi) fun h' eb => ⟨rfl, I.turned (t' := s.toks) (fun b ob hb e => eb b ob hb e) f0 f1 f3 f4 f5⟩
  self := fun A i s Q E st h => wpAny_pyIter_keyiter st h
def iKeysW (d : Addr) (ks : List Str) (td : TE) : TI := fun σ H R => td σ H fun x H1 => x = .ref d ∧ R (Itw ks) H1
theorem pi_keysW {X : Cx} {tg e : Expr} {td : TE} {d : Addr} {ks : List Str} (F : KWd X.K X.w d ks) (he : PE X e td) : PI X tg e (iKeysW d ks td) := by
  refine ⟨fun pins s σ H R I h => ?_⟩
  refine thn (he.run pins s σ H _ I h) fun u s1 ⟨x, H1, I1, rx, ex, q⟩ => ?_
  subst ex
  obtain rfl : u = Value.ref d := rx
  obtain ⟨hs, es, n, vs, hl, hk, hp, rfl, hn⟩ := F
  have hsz : es.size = vs.length := by
    rw [← (keyL_pairs (P := X.prog) (w := X.w) hp).length, Array.length_toList]
  refine iter_keys hs (I1.kIn _ _ hl) ⟨rfl, rfl, rfl⟩ rfl (pi_one (tk := s1.toks) I1 _ (turn_keysW _ hl hk hp hn) ⟨_, Heap.get?_push_size _ rfl, rfl, ?_⟩ q)
  rw [hsz] <;> rfl
theorem pi_keysWK {X : Cx} {K : PySem.W.Frag} {w : World} {tg e : Expr} {td : TE} {d : Addr} {ks : List Str} (hK : X.K = K) (hw : X.w = w) (F : KWd K w d ks) (he : PE X e td) : PI X tg e (iKeysW d ks td) := by
  subst hK hw
  exact pi_keysW F he
/-- name = {..: .. for ..}, the name a local -/
theorem ps_setDc {X : Cx} {i : Nat} {y : Str} {py : Pos} {kx vx tg iter : Expr} {ifs : List Expr} {scope : Scope} {own : List (Str × Nat)} {pos spos : Pos} {wi : TI} {g : TG} {tt : TT} {tk tv : TE} (hc : X.calm = true) (hN : X.N.Nodup) (hy : X.N[i]? = some y) (hyl : X.env.scope.names.lookup y = some .local)
    (hsw : swapsWith (.DictComp kx vx [⟨tg, iter, ifs, 0⟩] scope pos) (some (.Name y py)) spos.line X.env = pure true) (hi : PI X tg iter wi) (ok : BlkOk X.N X.env.scope scope own)
    (hg : ∀ (s : Shared) (H : Hp) (C : Addr) (cl : List (Str × Addr)) (fp : List Addr), PG (X.blk s H scope (compEnvC scope cl C X.env) fp) tg g) (ht : ∀ (s : Shared) (H : Hp) (C : Addr) (cl : List (Str × Addr)) (fp : List Addr), PTs (X.blk s H scope (compEnvC scope cl C X.env) fp) ifs tt)
    (hk : ∀ (s : Shared) (H : Hp) (C : Addr) (cl : List (Str × Addr)) (fp : List Addr), PE (X.blk s H scope (compEnvC scope cl C X.env) fp) kx tk)
    (he : ∀ (s : Shared) (H : Hp) (C : Addr) (cl : List (Str × Addr)) (fp : List Addr), PE (X.blk s H scope (compEnvC scope cl C X.env) fp) vx tv) (hs : ∀ x, foldedSetIterable iter X.env x = pure x := by intro _; rfl) :
    PS X (.Assign [.Name y py] (.DictComp kx vx [⟨tg, iter, ifs, 0⟩] scope pos) spos) (tAsg (tDc wi g tt tk tv (own.map (·.2))) (gName i)) := by
  refine ⟨fun pins s σ H D I h => ?_⟩
  rw [exec_Assign_Name_used _ _ _ _ hsw]
  refine wpAny_bind (wpAny_standAt (wpAny_bind ?_))
  show wpAny _ X.A (do let _ ← comprehension (.DictComp kx vx [⟨tg, iter, ifs, 0⟩] scope pos) scope X.env (firstIterPos [⟨tg, iter, ifs, 0⟩] pos) newDict false (eval iter X.env) (some (assign (.Name y py) X.env))) _ _ s
  have h : tDc wi g tt tk tv (own.map (·.2)) σ H (fun x H1 => gName i x σ H1 D.nx) := h
  refine wpAny_bind (thn (dc_core (Qf := fun _ s' => SP X pins D .next s') hc hN I hi ok hg ht hk he hs h fun L C s' m H' I' q hn f => ?_) fun _ s' hq => wpAny_pure (wpAny_pure hq))
  show wpAny _ _ (assign (.Name y py) X.env (.ref L)) _ _ _
  refine wpAny_assign_Name (store_ok2 (v := V.ref L) I' hN hy (.inl hyl) rfl (fun s2 I2 ⟨a, sb, ha⟩ => ?_) (.inr hyl))
  obtain ⟨f0, f1, f2, f3, f4, f5⟩ := f
  have haC : C ≠ a := by
    rcases ha with z | z
    · rw [z]; exact f1
    · exact fun e => f4 y a z e.symm
  refine ⟨m, hn.sameBut sb haC, fun h3 sb3 => ?_⟩
  exact ⟨_, H', I2.turned (t' := s2.toks) (fun b o hb e => (sb3.2 b hb).trans e) f0 f1 f3 f4 f5, q⟩
theorem swD_true {kx vx : Expr} {gs : List Comprehension} {scope : Scope} {pos py : Pos} {y : Str} {l : Nat} {env : Env} (hk : env.scope.kind = .function) (hy : env.scope.names.lookup y = some .local) (hl : (py.line == pos.line) = true)
    (ha : (scope.names.any fun (n, k) => n == y && (k == .local || k == .cell)) = false) : swapsWith (.DictComp kx vx gs scope pos) (some (.Name y py)) l env = pure true := by
  have ky : env.kindOf y = some .local := hy
  have hb : env.blockKind = .function := by unfold Env.blockKind; rw [hk]; rfl
  unfold swapsWith
  simp only [hb, ky, ha, Expr.pos, hl]
  rfl
/-- a dict comprehension over a written dict -/
theorem dc_keysW {ks : List Str} {g : TG} {tt : TT} {tk tv : TE} {vs : List Nat} {σ : L2.St} {Q : VK} {H : Hp} (Pv : Addr → Nat → Hp → Prop) (h0 : ∀ D, H D = none → Pv D 0 (upd H D (.dK [])))
    (hs : ∀ D i k H', ks[i]? = some k → Pv D i H' → g (.str k) (wipe σ vs) H' fun σ2 H2 => wipe σ2 vs = wipe σ vs ∧ tt σ2 H2 fun b H3 => if b = true then tk σ2 H3 fun y H4 => tv σ2 H4 fun z H5 => ∃ kvs k, y = kV k ∧ H5 D = some (.dK kvs) ∧ kvs.length < sizeLine ∧ Pv D (i + 1) (upd H5 D (.dK (putK kvs k z))) else Pv D (i + 1) H3)
    (hd : ∀ D H', Pv D ks.length H' → Q (.ref D) H') : DcR g tt tk tv vs σ Q (Itw ks) H := fun D hD => by
  refine ⟨fun i m H => m = ks.length - i ∧ i ≤ ks.length ∧ Pv D i H, ⟨ks.length, by simp, Nat.zero_le _, h0 D hD⟩, ?_⟩
  rintro i m H' ⟨rfl, hi, p⟩
  by_cases hlt : i < ks.length
  · refine .inr ⟨hlt, Pv D (i + 1), fun H2 p' => ⟨ks.length - (i + 1), by omega, rfl, hlt, p'⟩, fun x H2 y => ?_⟩
    obtain ⟨rfl, k, hk, rfl⟩ := y
    exact hs D i k _ hk p
  · have : i = ks.length := by omega
    subst this
    exact .inl ⟨Nat.le_refl _, hd D H' p⟩
theorem rd_iKeysW {d : Addr} {ks : List Str} {td : TE} {σ : L2.St} {H : Hp} {R : It → Hp → Prop} (h : td σ H fun x H1 => x = .ref d ∧ R (Itw ks) H1) : iKeysW d ks td σ H R := h
end Ea
set_option Elab.async false
set_option linter.all false
set_option maxRecDepth 100000
set_option maxHeartbeats 1000000
/-! zip of two tuples. -/
namespace Ea
open PySem PySem.Spec PyProof.Rows L2
/-- the tuple at a and the list at b, the items in new pairs -/
def ItzT (K : PySem.W.Frag) (a b : Addr) : It :=
  ⟨fun i H => ∃ (xs ys : List V) (x y : V), SqT K H a xs ∧ SqT K H b ys ∧ xs[i]? = some x ∧ ys[i]? = some y,
    fun i H v H' => ∃ T x y, v = .ref T ∧ H T = none ∧ H' = upd H T (.tup [x, y]) ∧ (∀ xs, SqT K H a xs → xs[i]? = some x) ∧ ∀ ys, SqT K H b ys → ys[i]? = some y,
    fun i H => ∃ xs ys : List V, SqT K H a xs ∧ SqT K H b ys ∧ i ≤ xs.length ∧ i ≤ ys.length ∧ (i = xs.length ∨ i = ys.length)⟩
theorem cells_sepT {h : Heap} {z TI TO i1 i2 a b : Addr} {k1 k2 : Nat} {xs ys : Array Value} {x y : Value} (C : Cells z TI TO i1 i2) (hz : IsZip h z TI TO .none) (hTO : IsTupOf2 h TO x y)
    (h1 : h.IsTupleIter i1 a k1) (h2 : h.IsTupleIter i2 b k2) (ha : h.IsTuple a xs) (hb : h.IsTuple b ys) (hTa : TO ≠ a) (nTb : TO ≠ b) : ZipSep2 z TI TO i1 i2 [i1, a] [i2, b] ∧ a ≠ i1 ∧ b ≠ i2 := by
  obtain ⟨o1, e1, c1, _⟩ := h1
  obtain ⟨o2, e2, c2, _⟩ := h2
  obtain ⟨oa, ea, ca, _⟩ := ha
  obtain ⟨ob, eb, cb, _⟩ := hb
  have nza : z ≠ a := apart hz ea (by rw [ca]; show Value.type "zip" ≠ Value.type "tuple"; decide)
  have nzb : z ≠ b := apart hz eb (by rw [cb]; show Value.type "zip" ≠ Value.type "tuple"; decide)
  have n1b : i1 ≠ b := apart e1 eb (by rw [c1, cb]; decide)
  have n2a : i2 ≠ a := apart e2 ea (by rw [c2, ca]; decide)
  have na1 : a ≠ i1 := apart ea e1 (by rw [ca, c1]; decide)
  have nb2 : b ≠ i2 := apart eb e2 (by rw [cb, c2]; decide)
  refine ⟨{ TIz := C.TIz, TOz := C.TOz, TITO := C.TITO, TIi1 := C.TIi1, mem1 := by simp, zf1 := ?_, Tf1 := ?_, TIi2 := C.TIi2, mem2 := by simp, zf2 := ?_, Tf2 := ?_, sep1_2 := ?_, sep2_1 := ?_ }, na1, nb2⟩
  · simp [C.zi1, nza]
  · simp [C.TOi1, hTa]
  · simp [C.zi2, nzb]
  · simp [C.TOi2, nTb]
  · simp [C.i12, n1b]
  · simp [C.i12.symm, n2a]
theorem turn_zipT {P : Program} {w : World} {K : PySem.W.Frag} {elts : List Expr} {kk : Nat} {tpos : Pos} {a b z TI TO i1 i2 : Addr} (C : Cells z TI TO i1 i2) (hTa : TO ≠ a) (hTb : TO ≠ b) :
    L2.Turn P w K (.Tuple elts kk tpos) (ItzT K a b) [z, TI, TO, i1, i2] z (fun i h => IsZip h z TI TO .none ∧ IsTupOf2 h TI (.ref i1) (.ref i2) ∧ (∃ x y, IsTupOf2 h TO x y) ∧ h.IsTupleIter i1 a i ∧ h.IsTupleIter i2 b i) where
  mem := by simp
  obj := fun i h st c hc => by
    obtain ⟨hz, hTI, ⟨x, y, hTO⟩, ⟨o1, e1, _, d1⟩, ⟨o2, e2, _, d2⟩⟩ := st
    have e' : c = z ∨ c = TI ∨ c = TO ∨ c = i1 ∨ c = i2 := by simpa using hc
    rcases e' with rfl | rfl | rfl | rfl | rfl
    · exact ⟨_, hz, fun v q => nomatch q⟩
    · exact ⟨_, hTI, fun v q => nomatch q⟩
    · exact ⟨_, hTO, fun v q => nomatch q⟩
    · exact ⟨o1, e1, fun v q => by rw [d1] at q; cases q⟩
    · exact ⟨o2, e2, fun v q => by rw [d2] at q; cases q⟩
  keep := fun i h h' st k => by
    obtain ⟨hz, hTI, ⟨x, y, hTO⟩, h1, h2⟩ := st
    exact ⟨k z (by simp) _ hz, k TI (by simp) _ hTI, ⟨x, y, k TO (by simp) _ hTO⟩, h1.at fun o q => k i1 (by simp) o q, h2.at fun o q => k i2 (by simp) o q⟩
  item := by
    intro X hP hw hK hc i pins s σ H E I hf st hg
    subst hP hw hK
    obtain ⟨hz, hTI, ⟨x0, y0, hTO⟩, h1, h2⟩ := st
    obtain ⟨xs, ys, x, y, hqx, hqy, hx, hy⟩ := hg
    obtain ⟨its, rv, p, _⟩ := I.tuple hqx
    obtain ⟨its2, rv2, p2, _⟩ := I.tuple hqy
    obtain ⟨u, hu, ru⟩ := rv.get hx
    obtain ⟨u2, hu2, ru2⟩ := rv2.get hy
    have pt : s.heap.IsTuple a its.toArray := p
    have pt2 : s.heap.IsTuple b its2.toArray := p2
    obtain ⟨S, na1, nb2⟩ := cells_sepT C hz hTO h1 h2 pt pt2 hTa hTb
    have hzl : z < s.heap.objs.size := Heap.lt_size hz
    have hlt1 : i < its.toArray.size := by
      have := (List.getElem?_eq_some_iff.mp hu).1
      simpa using this
    have hlt2 : i < its2.toArray.size := by
      have := (List.getElem?_eq_some_iff.mp hu2).1
      simpa using this
    refine wpAny_pyNext_zipD2_item S (Draws.tuple (prog := X.prog) (w := X.w) (A := X.A.in1) (I.ok.hd hc) i1 a na1 its.toArray) (Draws.tuple (prog := X.prog) (w := X.w) (A := X.A.in1) (I.ok.hd hc) i2 b nb2 its2.toArray) hz hTI hTO ⟨h1, pt⟩ ⟨h2, pt2⟩ hlt1 hlt2 fun x1 x2 h' tk hP1 hP2 z' TO' st1 st2 hT hsz hk => ?_
    obtain rfl : u = x1 := by
      have q : its[i]? = some x1 := by simpa using hP1
      rw [hu] at q
      exact Option.some.inj q
    obtain rfl : u2 = x2 := by
      have q : its2[i]? = some x2 := by simpa using hP2
      rw [hu2] at q
      exact Option.some.inj q
    refine ⟨_, rfl, wpAny_letOwnedTupleGo_zip (s := { s with heap := h', toks := tk }) z' fun h'' z'' sb => ?_⟩
    have hT2 : h''.get? s.heap.objs.size = some { cls := .type "tuple", data := .seq #[u, u2] } := (sb.2 _ (Nat.ne_of_gt hzl)).trans hT
    have new : ObjOk X.prog X.w (upd H s.heap.objs.size (.tup [x, y])) h'' s.heap.objs.size (.tup [x, y]) :=
      ⟨by show 2 ≤ sizeLine; decide, [u, u2], .cons ru (.cons ru2 .nil), ⟨_, hT2, rfl, _, rfl⟩⟩
    have I1 : Inv X pins σ (upd H s.heap.objs.size (.tup [x, y])) { s with heap := h'', toks := tk } :=
      I.turnedNew (ch := [z, TI, TO, i1, i2]) (fun c o hb q => (sb.2 c (fun q' => hb (by simp [q']))).trans (hk c o (fun q' => hb (by simp [q'])) (fun q' => hb (by simp [q'])) (fun q' => hb (by simp [q'])) (fun q' => hb (by simp [q'])) q)) hf (Nat.le_refl _) new
    refine ⟨.ref s.heap.objs.size, _, I1, rfl, ⟨_, x, y, rfl, I.hok.fresh (Nat.le_refl _), rfl, fun l hl => by rw [I.tuple_inj hl hqx]; exact hx, fun l hl => by rw [I.tuple_inj hl hqy]; exact hy⟩, ⟨z'', ?_, ⟨u, u2, ?_⟩, ?_, ?_⟩, fun c hcm => ?_⟩
    · exact (sb.2 _ C.TIz).trans (hk _ _ C.TIz C.TITO C.TIi1 C.TIi2 hTI)
    · exact (sb.2 _ C.TOz).trans TO'
    · exact st1.1.at fun o q => (sb.2 _ C.zi1.symm).trans q
    · exact st2.1.at fun o q => (sb.2 _ C.zi2.symm).trans q
    · have hlt : c < s.heap.objs.size := by
        have e' : c = z ∨ c = TI ∨ c = TO ∨ c = i1 ∨ c = i2 := by simpa using hcm
        rcases e' with rfl | rfl | rfl | rfl | rfl
        · exact hzl
        · exact Heap.lt_size hTI
        · exact Heap.lt_size hTO
        · obtain ⟨_, e1, _⟩ := h1
          exact Heap.lt_size e1
        · obtain ⟨_, e2, _⟩ := h2
          exact Heap.lt_size e2
      rw [upd_ne (Nat.ne_of_lt hlt)]
      exact (hf c hcm).1
  done := by
    intro X hP hw hK hc i pins s σ H E I hf st hg
    subst hP hw hK
    obtain ⟨hz, hTI, ⟨x0, y0, hTO⟩, h1, h2⟩ := st
    obtain ⟨xs, ys, hqx, hqy, l1, l2, hend⟩ := hg
    obtain ⟨its, rv, p, _⟩ := I.tuple hqx
    obtain ⟨its2, rv2, p2, _⟩ := I.tuple hqy
    have pt : s.heap.IsTuple a its.toArray := p
    have pt2 : s.heap.IsTuple b its2.toArray := p2
    obtain ⟨S, na1, nb2⟩ := cells_sepT C hz hTO h1 h2 pt pt2 hTa hTb
    have k1 := rv.length
    have k2 := rv2.length
    have m1 : i ≤ its.toArray.size := by rw [List.size_toArray]; omega
    have m2 : i ≤ its2.toArray.size := by rw [List.size_toArray]; omega
    have m3 : i = its.toArray.size ∨ i = its2.toArray.size := by rw [List.size_toArray, List.size_toArray]; omega
    exact wpAny_pyNext_zipD2_end S (Draws.tuple (prog := X.prog) (w := X.w) (A := X.A.in1) (I.ok.hd hc) i1 a na1 its.toArray) (Draws.tuple (prog := X.prog) (w := X.w) (A := X.A.in1) (I.ok.hd hc) i2 b nb2 its2.toArray) hz hTI hTO ⟨h1, pt⟩ ⟨h2, pt2⟩ m1 m2 m3 fun h' tk hk => ⟨rfl, I.turnedL (t' := tk) (ch := [z, TI, TO, i1, i2]) (fun c o hb q =>
      hk c o (fun q' => hb (by simp [q'])) (fun q' => hb (by simp [q'])) (fun q' => hb (by simp [q'])) (fun q' => hb (by simp [q'])) q) hf⟩
  self := fun A i s Q E st h => wpAny_pyIter_zip st.1 h
def iZipT (K : PySem.W.Frag) (ta : TA) : TI := fun σ H R => ta σ H fun vs H1 => ∃ a b xs ys, vs = [.ref a, .ref b] ∧ SqT K H1 a xs ∧ SqT K H1 b ys ∧ R (ItzT K a b) H1
theorem pi_zipT {X : Cx} {K : PySem.W.Frag} (hKK : X.K = K) {e e2 : Expr} {ta : TA} {p pos tpos : Pos} {elts : List Expr} {kk : Nat} (hg : L2.Gl X "zip") (hm : X.mg "zip" = none) (ha : PA X [e, e2] ta)
    (hs : starEach [e, e2] X.env = (false, eval e X.env) :: starEach [e2] X.env := by rfl) (hpl : (backTo pos (starEach [e2] X.env)).any (·.1) = false := by rfl) :
    PI X (.Tuple elts kk tpos) (.Call (.Name "zip" p) [e, e2] [] pos) (iZipT K ta) := by
  subst hKK
  refine ⟨fun pins s σ H R I h => ?_⟩
  refine Call_ (ld_blt I hg hm PyProof.Rows.boot_zip (PyProof.Rows.callWith_type1 (thn (ha.run pos pins s σ H _ I h) fun us s1 ⟨vs, H1, I1, r1, q1⟩ => ?_) hs hpl))
  obtain ⟨a, b, xs, ys, ex, hqx, hqy, q⟩ := q1
  subst ex
  cases r1 with
  | cons r rr =>
    cases rr with
    | cons r' rr =>
      cases rr
      cases r
      cases r'
      obtain ⟨its, rv, p1, _⟩ := I1.tuple hqx
      obtain ⟨its2, rv2, p2, _⟩ := I1.tuple hqy
      obtain ⟨o1, ho1, _⟩ := id p1
      obtain ⟨o2, ho2, _⟩ := id p2
      refine zip_begins2 (begins_tuple a its.toArray) (begins_tuple b its2.toArray) (show s1.heap.IsTuple a its.toArray from p1) (show s1.heap.IsTuple b its2.toArray from p2) fun h' hz hTI hTO h1 h2 hsz hk => wpAny_pyIter_zip hz ?_
      have I2 : Inv X pins σ H1 { s1 with heap := h' } := I1.kept (t' := s1.toks) hk
      have C : Cells (s1.heap.objs.size + 4) (s1.heap.objs.size + 2) (s1.heap.objs.size + 3) s1.heap.objs.size (s1.heap.objs.size + 1) := by
        constructor <;> (intro e; have e : (_ : Nat) = _ := e; omega)
      have hTa : (s1.heap.objs.size + 3 : Nat) ≠ a := Nat.ne_of_gt (Nat.lt_of_lt_of_le (Heap.lt_size ho1) (Nat.le_add_right _ _))
      have hTb : (s1.heap.objs.size + 3 : Nat) ≠ b := Nat.ne_of_gt (Nat.lt_of_lt_of_le (Heap.lt_size ho2) (Nat.le_add_right _ _))
      refine ⟨s1.heap.objs.size + 4, [s1.heap.objs.size + 4, s1.heap.objs.size + 2, s1.heap.objs.size + 3, s1.heap.objs.size, s1.heap.objs.size + 1], _, _, H1, rfl, I2, turn_zipT C hTa hTb, ⟨hz, hTI, ⟨_, _, hTO⟩, ⟨_, h1, rfl, rfl⟩, ⟨_, h2, rfl, rfl⟩⟩, fun c hcm => ?_, q⟩
      have e' : c = s1.heap.objs.size + 4 ∨ c = s1.heap.objs.size + 2 ∨ c = s1.heap.objs.size + 3 ∨ c = s1.heap.objs.size ∨ c = s1.heap.objs.size + 1 := by simpa using hcm
      have hle : s1.heap.objs.size ≤ c := by
        rcases e' with rfl | rfl | rfl | rfl | rfl
        · exact Nat.le_add_right _ _
        · exact Nat.le_add_right _ _
        · exact Nat.le_add_right _ _
        · exact Nat.le_refl _
        · exact Nat.le_add_right _ _
      exact I1.fpOk hle (I1.hok.fresh hle)
section
variable {K : PySem.W.Frag} {σ : L2.St} {H : Hp} {Q : VK} {tt : TT} {te : TE} {vs : List Nat} {j1 j2 k : Nat} {σx : V → V → L2.St} {a b : Addr} {n : Nat} {px py : Nat → V} {f : Nat → Bool} {g : Nat → V} {J : It}
theorem lc_zipT {xs ys : List V} (hk : k = 2) (hx : SqT K H a xs) (hy : SqT K H b ys) (hl : ys.length ≤ xs.length) (hz : ys.length ≤ 40000) (hσ : ∀ x y, ((wipe σ vs).set j1 (some x)).set j2 (some y) = σx x y) (hw : ∀ x y, wipe (σx x y) vs = wipe σ vs)
    (f : Nat → Bool) (g : Nat → V) (hs : ∀ i, i < ys.length → TurnP H tt te σx (fun i => xs.getD i .non) (fun i => ys.getD i .non) f g i)
    (hd : ∀ D H', Evl.Ex H H' → H D = none → H' D = some (.lst (((List.range ys.length).filter f).map g)) → Q (.ref D) H') : LcR (gTup K k (gCons (gName j1) (gCons (gName j2) gNil))) tt te vs σ Q (ItzT K a b) H :=
  lc_pairs hk hz (fun i H' e hi => ⟨xs, ys, xs[i]'(Nat.lt_of_lt_of_le hi hl), ys[i], Evl.ex_t e hx, Evl.ex_t e hy, List.getElem?_eq_getElem _, List.getElem?_eq_getElem hi⟩)
    (fun H' e => ⟨xs, ys, Evl.ex_t e hx, Evl.ex_t e hy, hl, Nat.le_refl _, .inr rfl⟩)
    (fun i H1 x H2 e hi hq => by
      obtain ⟨T, u, v, rfl, hT, rfl, h1, h2⟩ := hq
      have q1 := h1 xs (Evl.ex_t e hx)
      have q2 := h2 ys (Evl.ex_t e hy)
      refine ⟨T, rfl, hT, ?_⟩
      show _ = upd H1 T (.tup [xs.getD i .non, ys.getD i .non])
      rw [List.getD_eq_getElem?_getD, q1, List.getD_eq_getElem?_getD, q2] <;> rfl) hσ hw hs hd
theorem rd_iZipT {R : It → Hp → Prop} {ta : TA} {σ : L2.St} {H : Hp} {K : PySem.W.Frag} (h : ta σ H fun vs H1 => ∃ a b xs ys, vs = [.ref a, .ref b] ∧ SqT K H1 a xs ∧ SqT K H1 b ys ∧ R (ItzT K a b) H1) : iZipT K ta σ H R := h
end
end Ea
set_option Elab.async false
set_option linter.all false
set_option maxRecDepth 100000
set_option maxHeartbeats 4000000
/-! set(a tuple or a list of texts). -/
namespace KA
open PySem PySem.Spec PyProof PyProof.Rows L2 PySem.Froz
/-- a set of the first i of the texts ts at S -/
def TxAt (P : Program) (w : World) (h : Heap) (S : Addr) (m : List Str) : Prop := ∃ (D : SD) (l : List Str), h.get? S = some (sObj "set" D) ∧ TxR P w D l ∧ l.Nodup ∧ l.length ≤ m.length ∧ ∀ z, z ∈ l ↔ z ∈ m
theorem TxAt.at {P : Program} {w : World} {h h2 : Heap} {S : Addr} {m : List Str} (x : TxAt P w h S m) (k : ∀ o, h.get? S = some o → h2.get? S = some o) : TxAt P w h2 S m := by
  obtain ⟨D, l, e, r⟩ := x
  exact ⟨D, l, k _ e, r⟩
theorem txput_mem {k z : Str} {l : List Str} : z ∈ putS k l ↔ z = k ∨ z ∈ l := by
  unfold putS
  by_cases c : k ∈ l
  · rw [if_pos c]
    exact ⟨.inr, fun h => h.elim (fun e => e ▸ c) id⟩
  · rw [if_neg c, List.mem_cons]
theorem txput_nodup {k : Str} {l : List Str} (h : l.Nodup) : (putS k l).Nodup := by
  unfold putS
  by_cases c : k ∈ l
  · rw [if_pos c]
    exact h
  · rw [if_neg c]
    exact List.nodup_cons.mpr ⟨c, h⟩
theorem txput_len {k : Str} {l : List Str} : (putS k l).length ≤ l.length + 1 := by
  unfold putS
  split
  · omega
  · rw [List.length_cons]
    exact Nat.le_refl _
section
variable {P : Program} {w : World} {A : Around} {E : Value → Shared → Prop} {s : Shared}
theorem fill_texts {I : Addr} {fp wr : List Addr} {G : Array GenState → Array GenState → Prop} {n : Nat} {Pv : Nat → Value → Prop} {St : Nat → Shared → Prop} {R : Result → Shared → Prop}
    (W : WalksS P w A.in1 I fp wr G n Pv St) (S : Addr) (far : S ∉ fp) (ts : List Str) (hn : n = ts.length) (hb : ts.length + 1 < scanBound) (txt : ∀ i v, Pv i v → ∃ k t, ts[i]? = some k ∧ v = .str k t) :
    ∀ (k i : Nat) (s : Shared), n - i = k → i ≤ n → St i s → TxAt P w s.heap S (ts.take i) →
      (∀ s', Moved (S :: wr) G s s' → TxAt P w s'.heap S ts → R (.ok (.ret .none)) s') →
      codeAny (model P w) A (.builtin "set.update.loop" ⟨[.ref S, .ref I], []⟩) R s := by
  have farW : S ∉ wr := fun h => far (W.sub _ h)
  have wide : ∀ b ∈ wr, b ∈ S :: wr := fun b hb => List.mem_cons_of_mem _ hb
  intro k
  induction k with
  | zero =>
    intro i s left hi hst tx done
    obtain rfl : i = n := by omega
    refine codeAny_builtin F.entry_set_update_loop ?_
    rw [Around.under_plainId F.plain_set_update_loop _]
    show wpAny _ A.in1 (pyNext (.ref I) >>= fun _ => _) _ _ s
    refine wpAny_bind (W.done s _ _ hst fun s' mv => ?_)
    show wpAny _ A.in1 (ret Value.none) _ _ s'
    rw [List.take_of_length_le (Nat.le_of_eq hn.symm)] at tx
    exact wpAny_pure (done s' (mv.mono wide) (tx.at fun o e => mv.heap S o farW e))
  | succ k ih =>
    intro i s left hi hst tx done
    have more : i < n := by omega
    refine codeAny_builtin F.entry_set_update_loop ?_
    rw [Around.under_plainId F.plain_set_update_loop _]
    show wpAny _ A.in1 (pyNext (.ref I) >>= fun _ => _) _ _ s
    refine wpAny_bind (W.item i s _ _ more hst fun v s' pv st' mv => ?_)
    obtain ⟨z, t, hz, rfl⟩ := txt i v pv
    obtain ⟨D, l, ho, hr, nd, hl, hm⟩ := tx.at (h2 := s'.heap) fun o e => mv.heap S o farW e
    show wpAny _ A.in1 (holding [Value.str z t] (setAdd S (.str z t)) >>= fun _ => _) _ _ s'
    refine wpAny_bind (wpAny_holding ?_)
    unfold setAdd
    refine wpAny_holding ?_
    refine wpAny_bind ((strKind P w).pyHash (is_str z t) ?_)
    have hlt : l.length ≤ i := Nat.le_trans hl (List.length_take_le _ _)
    refine addS (s := { s' with toks := s'.toks + 1 }) ho hr (by omega) fun D2 h2 q1 q2 sb b => ?_
    have tx2 : TxAt P w h2 S (ts.take (i + 1)) := by
      refine ⟨D2, _, q1, q2, txput_nodup nd, ?_, fun y => ?_⟩
      · have := txput_len (k := z) (l := l)
        rw [List.length_take] at *
        have := (List.getElem?_eq_some_iff.mp hz).1
        omega
      · rw [txput_mem, hm, List.take_add_one, hz, show (some z).toList = [z] from rfl, List.mem_append, List.mem_singleton]
        exact Or.comm
    refine wpAny_pure ⟨plainId_quiet F.plain_set_update_loop _, ih (i + 1) _ (by omega) more (W.frame _ s' _ _ st' (Nat.le_succ _) fun b hb o e => ?_) tx2 fun s3 mv3 tx3 => ?_⟩
    · exact (sb.2 b fun q : b = S => far (q ▸ hb)).trans e
    · exact done s3 (Moved.trans W.gtrans ((mv.mono wide).then_heap (Nat.le_succ _) fun b o hb e => (sb.2 b fun q => hb (q ▸ List.mem_cons_self)).trans e) mv3) tx3
theorem txAt_new {h : Heap} {a : Addr} (ho : h.get? a = some { cls := .type "set", dict := none, data := .set #[] 0 (.fresh 0 0 (!w.params.followText "set-order")) }) : TxAt P w h a [] :=
  ⟨(#[], 0, .fresh 0 0 (!w.params.followText "set-order")), [], ho, TxR.new P w, List.nodup_nil, Nat.le_refl _, fun _ => Iff.rfl⟩
set_option maxHeartbeats 3200000 in
theorem set_of_tup {l : Addr} {items : Array Value} (ts : List Str) {Q : Value → Shared → Prop} (calm : A.handled = none) (hl : s.heap.IsTuple l items) (hit : StrsAre items.toList ts) (hb : ts.length + 1 < scanBound)
    (h : ∀ (h2 : Heap) (tk : Nat), TxAt P w h2 s.heap.objs.size ts → (∀ b o, s.heap.get? b = some o → h2.get? b = some o) → Q (.ref s.heap.objs.size) { s with heap := h2, toks := tk }) :
    wpAny (model P w) A (call (.type "set") [.ref l]) Q E s := by
  have many : items.size = ts.length := by
    rw [← Array.length_toList]
    exact StrsAre.len_eq hit
  obtain ⟨_, _, hmro⟩ := F.called_set.mro
  have hmade := F.called_set.made
  have hsub := F.called_set.sub
  refine wpAny_call (codeAny_of_tree ?_)
  show wpAny _ _ (callAny (Value.type "set") _) _ _ _
  refine wpAny_pure ⟨Code.quiet_builtin _ (by decide +kernel), codeAny_builtin F.entry_type_call ?_⟩
  rw [Around.under_plain (weight_type_call_type "set" [.ref l] []) rfl]
  have u1 := F.called_set.notType
  have u2 := F.called_set.canCreate
  have u3 := F.typeCall_set_1 (.ref l)
  repeat (any_goals (first | assumption | wp_step))
  refine codeAny_mono (code_set_led1 (.ref l) (E := E) (Q₁ := fun x sx => x = .ref s.heap.objs.size ∧ sx = { s with heap := s.heap.push ({ cls := .type "set", dict := none, data := .set #[] 0 (.fresh 0 0 (!w.params.followText "set-order")) } : Obj) }) ⟨rfl, rfl⟩) fun r sr hr => ?_
  cases r with
  | error e => exact hr
  | ok fl =>
    cases fl with
    | ret x =>
      obtain ⟨rfl, rfl⟩ := hr
      have hS : (s.heap.push ({ cls := .type "set", dict := none, data := .set #[] 0 (.fresh 0 0 (!w.params.followText "set-order")) } : Obj)).get? s.heap.objs.size = some ({ cls := .type "set", dict := none, data := .set #[] 0 (.fresh 0 0 (!w.params.followText "set-order")) } : Obj) := Heap.get?_push_size _ (rfl)
      have hT : Shared.TypeIs { s with heap := s.heap.push ({ cls := .type "set", dict := none, data := .set #[] 0 (.fresh 0 0 (!w.params.followText "set-order")) } : Obj) } (.ref s.heap.objs.size) "set" := ⟨_, hS, rfl⟩
      have v1 := F.called_set.init.lookup
      have v2 := F.called_set.init.bind (.ref s.heap.objs.size)
      repeat (any_goals (first | assumption | wp_step))
      refine codeAny_mono (codeAny_call_builtin (R := wants (fun r sx => r = .none ∧ ∃ h2 tk, sx = { s with heap := h2, toks := tk } ∧ TxAt P w h2 s.heap.objs.size ts ∧ (∀ b o, s.heap.get? b = some o → h2.get? b = some o)) E) F.called_set.init.plain F.entry_set_init (check_set_init_1 hT ?_)) fun r2 s2 hr2 => ?_
      · obtain ⟨ol, hol, hcl, nl, hdl⟩ := hl
        obtain ⟨ocls, odict, odata, oslots⟩ := ol
        simp only at hcl hdl
        subst hcl hdl
        have hol2 : (s.heap.push ({ cls := .type "set", dict := none, data := .set #[] 0 (.fresh 0 0 (!w.params.followText "set-order")) } : Obj)).get? l = some { cls := .type "tuple", dict := odict, data := .seq items nl, slots := oslots } := Heap.get?_push_of_some _ hol
        have w1 := F.sub_tuple_set
        have w2 := F.sub_tuple_frozenset
        have w3 : (Value.type "tuple" == Value.type "dict") = false := by decide
        have hl1 : (s.heap.push ({ cls := .type "set", dict := none, data := .set #[] 0 (.fresh 0 0 (!w.params.followText "set-order")) } : Obj)).IsTuple l items := ⟨_, hol2, rfl, nl, rfl⟩
        unfold Builtin.«set.__init__» noKeywords Builtin.Frozenset.updateFrom
        generalize hPI : pyIter = PI
        wp_walk
        subst hPI
        refine wpAny_pyIter_tuple hl1 ?_
        refine wpAny_bind (wpAny_runValue ?_)
        have low : l < s.heap.objs.size := Heap.lt_size hol
        have calm3 : A.in1.in1.in1.handled = none := by simp [calm]
        have sz : (s.heap.push ({ cls := .type "set", dict := none, data := .set #[] 0 (.fresh 0 0 (!w.params.followText "set-order")) } : Obj)).objs.size = s.heap.objs.size + 1 := Heap.size_push ..
        have apartI : l ≠ (s.heap.push ({ cls := .type "set", dict := none, data := .set #[] 0 (.fresh 0 0 (!w.params.followText "set-order")) } : Obj)).objs.size := by rw [sz]; exact Nat.ne_of_lt (Nat.lt_succ_of_lt low)
        have far : s.heap.objs.size ∉ [(s.heap.push ({ cls := .type "set", dict := none, data := .set #[] 0 (.fresh 0 0 (!w.params.followText "set-order")) } : Obj)).objs.size, l] := by
          rw [sz]
          simp only [List.mem_cons, List.not_mem_nil, or_false, not_or]
          exact ⟨Nat.ne_of_lt (Nat.lt_succ_self _), Nat.ne_of_gt low⟩
        have txt : ∀ (i : Nat) (v : Value), items[i]? = some v → ∃ k t, ts[i]? = some k ∧ v = .str k t := fun i v hv => by
          have hi : i < ts.length := by rw [← many]; exact (Array.getElem?_eq_some_iff.mp hv).1
          obtain ⟨t, e⟩ := SS.strs_at hit i v (by rw [Array.getElem?_toList]; exact hv)
          refine ⟨ts[i], t, List.getElem?_eq_getElem hi, ?_⟩
          rw [e, List.getD_eq_getElem?_getD, List.getElem?_eq_getElem hi] <;> rfl
        refine fill_texts ((Walks.tuple calm3 _ l apartI items).toS) s.heap.objs.size far ts many hb txt (items.size - 0) 0 _ (by omega) (Nat.zero_le _) ⟨⟨_, Heap.get?_push_size _ rfl, rfl, rfl⟩, (hl1.push _)⟩ ?start ?fin
        case start =>
          refine (txAt_new (P := P) (h := s.heap.push ({ cls := .type "set", dict := none, data := .set #[] 0 (.fresh 0 0 (!w.params.followText "set-order")) } : Obj)) hS).at fun o e => ?_
          exact Heap.get?_push_of_some _ e
        case fin =>
          intro s3 mv tx
          obtain ⟨h3, g3, d3, tk3, os3⟩ := s3
          have e1 : g3 = s.gens := mv.gens
          have e2 : d3 = s.drawn := mv.drawn
          have e3 : os3 = s.os := mv.os
          subst e1 e2 e3
          show wpAny _ _ _ _ _ _
          refine wpAny_pure ?_
          show wpAny _ _ (ret Value.none) _ _ _
          refine wpAny_pure ⟨rfl, h3, tk3, rfl, tx, fun b o e => ?_⟩
          have b0 : b < s.heap.objs.size := Heap.lt_size e
          have b2 : b ≠ (s.heap.push ({ cls := .type "set", dict := none, data := .set #[] 0 (.fresh 0 0 (!w.params.followText "set-order")) } : Obj)).objs.size := by rw [sz]; exact Nat.ne_of_lt (Nat.lt_succ_of_lt b0)
          exact mv.heap b o (by simp only [List.mem_cons, List.not_mem_nil, or_false, not_or]; exact ⟨Nat.ne_of_lt b0, b2⟩) (Heap.get?_push_of_some _ (Heap.get?_push_of_some _ e))
      · cases r2 with
        | error e => exact hr2
        | ok fl2 =>
          cases fl2 with
          | ret x =>
            obtain ⟨rfl, h2, tk, rfl, tx, kp⟩ := hr2
            repeat (any_goals (first | assumption | wp_step))
            exact h _ _ tx kp
          | _ => exact hr2.elim
    | _ => exact hr.elim
set_option maxHeartbeats 3200000 in
theorem set_of_list {l : Addr} {items : Array Value} (ts : List Str) {Q : Value → Shared → Prop} (calm : A.handled = none) (hl : s.heap.IsList l items) (hit : StrsAre items.toList ts) (hb : ts.length + 1 < scanBound)
    (h : ∀ (h2 : Heap) (tk : Nat), TxAt P w h2 s.heap.objs.size ts → (∀ b o, s.heap.get? b = some o → h2.get? b = some o) → Q (.ref s.heap.objs.size) { s with heap := h2, toks := tk }) :
    wpAny (model P w) A (call (.type "set") [.ref l]) Q E s := by
  have many : items.size = ts.length := by
    rw [← Array.length_toList]
    exact StrsAre.len_eq hit
  obtain ⟨_, _, hmro⟩ := F.called_set.mro
  have hmade := F.called_set.made
  have hsub := F.called_set.sub
  refine wpAny_call (codeAny_of_tree ?_)
  show wpAny _ _ (callAny (Value.type "set") _) _ _ _
  refine wpAny_pure ⟨Code.quiet_builtin _ (by decide +kernel), codeAny_builtin F.entry_type_call ?_⟩
  rw [Around.under_plain (weight_type_call_type "set" [.ref l] []) rfl]
  have u1 := F.called_set.notType
  have u2 := F.called_set.canCreate
  have u3 := F.typeCall_set_1 (.ref l)
  repeat (any_goals (first | assumption | wp_step))
  refine codeAny_mono (code_set_led1 (.ref l) (E := E) (Q₁ := fun x sx => x = .ref s.heap.objs.size ∧ sx = { s with heap := s.heap.push ({ cls := .type "set", dict := none, data := .set #[] 0 (.fresh 0 0 (!w.params.followText "set-order")) } : Obj) }) ⟨rfl, rfl⟩) fun r sr hr => ?_
  cases r with
  | error e => exact hr
  | ok fl =>
    cases fl with
    | ret x =>
      obtain ⟨rfl, rfl⟩ := hr
      have hS : (s.heap.push ({ cls := .type "set", dict := none, data := .set #[] 0 (.fresh 0 0 (!w.params.followText "set-order")) } : Obj)).get? s.heap.objs.size = some ({ cls := .type "set", dict := none, data := .set #[] 0 (.fresh 0 0 (!w.params.followText "set-order")) } : Obj) := Heap.get?_push_size _ (rfl)
      have hT : Shared.TypeIs { s with heap := s.heap.push ({ cls := .type "set", dict := none, data := .set #[] 0 (.fresh 0 0 (!w.params.followText "set-order")) } : Obj) } (.ref s.heap.objs.size) "set" := ⟨_, hS, rfl⟩
      have v1 := F.called_set.init.lookup
      have v2 := F.called_set.init.bind (.ref s.heap.objs.size)
      repeat (any_goals (first | assumption | wp_step))
      refine codeAny_mono (codeAny_call_builtin (R := wants (fun r sx => r = .none ∧ ∃ h2 tk, sx = { s with heap := h2, toks := tk } ∧ TxAt P w h2 s.heap.objs.size ts ∧ (∀ b o, s.heap.get? b = some o → h2.get? b = some o)) E) F.called_set.init.plain F.entry_set_init (check_set_init_1 hT ?_)) fun r2 s2 hr2 => ?_
      · obtain ⟨ol, hol, hcl, nl, hdl⟩ := hl
        obtain ⟨ocls, odict, odata, oslots⟩ := ol
        simp only at hcl hdl
        subst hcl hdl
        have hol2 : (s.heap.push ({ cls := .type "set", dict := none, data := .set #[] 0 (.fresh 0 0 (!w.params.followText "set-order")) } : Obj)).get? l = some { cls := .type "list", dict := odict, data := .seq items nl, slots := oslots } := Heap.get?_push_of_some _ hol
        have w1 := F.sub_list_set
        have w2 := F.sub_list_frozenset
        have w3 : (Value.type "list" == Value.type "dict") = false := by decide
        have hl1 : (s.heap.push ({ cls := .type "set", dict := none, data := .set #[] 0 (.fresh 0 0 (!w.params.followText "set-order")) } : Obj)).IsList l items := ⟨_, hol2, rfl, nl, rfl⟩
        unfold Builtin.«set.__init__» noKeywords Builtin.Frozenset.updateFrom
        generalize hPI : pyIter = PI
        wp_walk
        subst hPI
        refine wpAny_pyIter_list hl1 ?_
        refine wpAny_bind (wpAny_runValue ?_)
        have low : l < s.heap.objs.size := Heap.lt_size hol
        have calm3 : A.in1.in1.in1.handled = none := by simp [calm]
        have sz : (s.heap.push ({ cls := .type "set", dict := none, data := .set #[] 0 (.fresh 0 0 (!w.params.followText "set-order")) } : Obj)).objs.size = s.heap.objs.size + 1 := Heap.size_push ..
        have apartI : l ≠ (s.heap.push ({ cls := .type "set", dict := none, data := .set #[] 0 (.fresh 0 0 (!w.params.followText "set-order")) } : Obj)).objs.size := by rw [sz]; exact Nat.ne_of_lt (Nat.lt_succ_of_lt low)
        have far : s.heap.objs.size ∉ [(s.heap.push ({ cls := .type "set", dict := none, data := .set #[] 0 (.fresh 0 0 (!w.params.followText "set-order")) } : Obj)).objs.size, l] := by
          rw [sz]
          simp only [List.mem_cons, List.not_mem_nil, or_false, not_or]
          exact ⟨Nat.ne_of_lt (Nat.lt_succ_self _), Nat.ne_of_gt low⟩
        have txt : ∀ (i : Nat) (v : Value), items[i]? = some v → ∃ k t, ts[i]? = some k ∧ v = .str k t := fun i v hv => by
          have hi : i < ts.length := by rw [← many]; exact (Array.getElem?_eq_some_iff.mp hv).1
          obtain ⟨t, e⟩ := SS.strs_at hit i v (by rw [Array.getElem?_toList]; exact hv)
          refine ⟨ts[i], t, List.getElem?_eq_getElem hi, ?_⟩
          rw [e, List.getD_eq_getElem?_getD, List.getElem?_eq_getElem hi] <;> rfl
        refine fill_texts ((Walks.list calm3 _ l apartI items).toS) s.heap.objs.size far ts many hb txt (items.size - 0) 0 _ (by omega) (Nat.zero_le _) ⟨⟨_, Heap.get?_push_size _ rfl, rfl, rfl⟩, (hl1.push _)⟩ ?start ?fin
        case start =>
          refine (txAt_new (P := P) (h := s.heap.push ({ cls := .type "set", dict := none, data := .set #[] 0 (.fresh 0 0 (!w.params.followText "set-order")) } : Obj)) hS).at fun o e => ?_
          exact Heap.get?_push_of_some _ e
        case fin =>
          intro s3 mv tx
          obtain ⟨h3, g3, d3, tk3, os3⟩ := s3
          have e1 : g3 = s.gens := mv.gens
          have e2 : d3 = s.drawn := mv.drawn
          have e3 : os3 = s.os := mv.os
          subst e1 e2 e3
          show wpAny _ _ _ _ _ _
          refine wpAny_pure ?_
          show wpAny _ _ (ret Value.none) _ _ _
          refine wpAny_pure ⟨rfl, h3, tk3, rfl, tx, fun b o e => ?_⟩
          have b0 : b < s.heap.objs.size := Heap.lt_size e
          have b2 : b ≠ (s.heap.push ({ cls := .type "set", dict := none, data := .set #[] 0 (.fresh 0 0 (!w.params.followText "set-order")) } : Obj)).objs.size := by rw [sz]; exact Nat.ne_of_lt (Nat.lt_succ_of_lt b0)
          exact mv.heap b o (by simp only [List.mem_cons, List.not_mem_nil, or_false, not_or]; exact ⟨Nat.ne_of_lt b0, b2⟩) (Heap.get?_push_of_some _ (Heap.get?_push_of_some _ e))
      · cases r2 with
        | error e => exact hr2
        | ok fl2 =>
          cases fl2 with
          | ret x =>
            obtain ⟨rfl, h2, tk, rfl, tx, kp⟩ := hr2
            repeat (any_goals (first | assumption | wp_step))
            exact h _ _ tx kp
          | _ => exact hr2.elim
    | _ => exact hr.elim
end
end KA
set_option Elab.async false
set_option linter.all false
set_option maxRecDepth 100000
set_option maxHeartbeats 400000
set_option pp.maxSteps 300
namespace KA
open PySem PySem.Spec PyProof.Rows L2 Ea
abbrev sparts_of : Stmt := topS 4
theorem scparts_of : FnScope ["formula", "word"] ["formula"] (defScope sparts_of) :=
  ⟨rfl, rfl, rfl, by decide +kernel, rfl, by decide +kernel, by decide +kernel⟩
local macro_rules | `(tactic| walk_at "rd") => `(tactic| first
  | (with_reducible refine rd_seq ?_) | (with_reducible refine rd_asg ?_) | (with_reducible refine rd_if ?_) | (with_reducible refine rd_ret ?_) | (with_reducible refine rd_next ?_)
  | (with_reducible refine rd_drop ?_) | ((with_reducible refine rd_name (σ' := ?ss) ?hs ?_); (case hs => (dsimp only [List.set]; exact rfl)))
  | ((with_reducible refine rd_var (v := ?vv) ?hv ?_); (case hv => exact rfl)) | (with_reducible refine rd_c ?_) | (with_reducible refine rd_op ?_) | (with_reducible refine rd_un ?_)
  | (with_reducible refine rd_I0 ?_) | (with_reducible refine rd_U ?_) | (with_reducible refine rd_test ?_) | (with_reducible refine rd_B ?_) | (with_reducible refine rd_k ?_)
  | (with_reducible refine rd_not ?_) | (with_reducible refine rd_and ?_) | (with_reducible refine rd_or ?_) | (with_reducible refine rd_ifE ?_)
  | (with_reducible refine rd_par ?_) | ((with_reducible refine rd_par2 (σ' := ?ss) ?hs ?_); (case hs => (dsimp only [List.set]; exact rfl)))
  | (with_reducible refine rd_gsub ?_) | (with_reducible refine rd_andV ?_) | (with_reducible refine rd_orV ?_) | (with_reducible refine rd_notV ?_)
  | (with_reducible refine rd_lc ?_) | (with_reducible refine rd_iTup ?_) | (with_reducible refine rd_iList ?_) | (with_reducible refine rd_iRng1 ?_) | (with_reducible refine rd_iRng2 ?_) | (with_reducible refine rd_iEnumT ?_) | (with_reducible refine rd_iEnum ?_) | (with_reducible refine rd_iZipM ?_) | (with_reducible refine rd_iEnumS ?_) | (with_reducible refine rd_iKeys ?_) | (with_reducible refine rd_din ?_) | (with_reducible refine rd_dnotin ?_)
  | (with_reducible refine rd_yes ?_) | (with_reducible refine rd_true ?_) | (with_reducible refine rd_false ?_) | (with_reducible refine rd_m1 ?_) | (with_reducible refine rd_isS ?_)
  | ((with_reducible refine rd_eq ?hs ?_); (case hs => exact rfl)) | ((with_reducible refine rd_ne ?hs ?_); (case hs => exact rfl))
  | (with_reducible refine rd_listRg ?_) | (with_reducible refine rd_rg2 ?_) | (with_reducible refine rd_rgk ?_)
  | (with_reducible refine rd_dnew ?_) | (with_reducible refine rd_ddel ?_) | (with_reducible refine rd_kw ?_) | (with_reducible refine rd_callS ?_) | (with_reducible refine rd_dc ?_) | (with_reducible refine rd_for ?_) | (with_reducible refine rd_tru ?_) | (with_reducible refine rd_truI ?_)
  | (with_reducible refine rd_nil ?_) | (with_reducible refine rd_cons ?_) | (with_reducible refine rd_call ?_) | (with_reducible refine rd_cb ?_)
  | (with_reducible refine rd_tup ?_) | (with_reducible refine rd_lst ?_) | (with_reducible refine rd_dget ?_) | (with_reducible refine rd_dput ?_) | (with_reducible refine rd_dget2 ?_) | (with_reducible refine rd_sl ?_)
  | (with_reducible refine rd_nopart ?_) | (with_reducible refine rd_part ?_) | (with_reducible refine rd_parti ?_) | (with_reducible refine rd_bm ?_) | (with_reducible refine rd_bm0 ?_)
  | (with_reducible refine rd_int ?_) | (with_reducible refine rd_intb ?_) | (with_reducible refine rd_abs ?_) | (with_reducible refine rd_min2 ?_) | (with_reducible refine rd_max2 ?_))
local macro_rules | `(tactic| walk_at "rds") => `(tactic| repeat (walk_at "rd"))
local macro_rules | `(tactic| walk_at "rq") => `(tactic| first
  | (with_reducible refine rd_seq ?_) | (with_reducible refine rd_asg ?_) | (with_reducible refine rd_ret ?_) | (with_reducible refine rd_next ?_)
  | (with_reducible refine rd_drop ?_) | ((with_reducible refine rd_name (σ' := ?ss) ?hs ?_); (case hs => (dsimp only [List.set]; exact rfl)))
  | ((with_reducible refine rd_var (v := ?vv) ?hv ?_); (case hv => exact rfl)) | (with_reducible refine rd_c ?_) | (with_reducible refine rd_op ?_) | (with_reducible refine rd_un ?_)
  | (with_reducible refine rd_I0 ?_) | (with_reducible refine rd_U ?_) | (with_reducible refine rd_test ?_) | (with_reducible refine rd_B ?_) | (with_reducible refine rd_k ?_)
  | (with_reducible refine rd_not ?_) | (with_reducible refine rd_and ?_) | (with_reducible refine rd_or ?_) | (with_reducible refine rd_ifE ?_)
  | (with_reducible refine rd_par ?_) | ((with_reducible refine rd_par2 (σ' := ?ss) ?hs ?_); (case hs => (dsimp only [List.set]; exact rfl)))
  | (with_reducible refine rd_gsub ?_) | (with_reducible refine rd_andV ?_) | (with_reducible refine rd_orV ?_) | (with_reducible refine rd_notV ?_)
  | (with_reducible refine rd_lc ?_) | (with_reducible refine rd_iTup ?_) | (with_reducible refine rd_iList ?_) | (with_reducible refine rd_iRng1 ?_) | (with_reducible refine rd_iRng2 ?_) | (with_reducible refine rd_iEnumT ?_) | (with_reducible refine rd_iEnum ?_) | (with_reducible refine rd_iZipM ?_) | (with_reducible refine rd_iEnumS ?_) | (with_reducible refine rd_iKeys ?_) | (with_reducible refine rd_din ?_) | (with_reducible refine rd_dnotin ?_)
  | (with_reducible refine rd_yes ?_) | (with_reducible refine rd_true ?_) | (with_reducible refine rd_false ?_) | (with_reducible refine rd_m1 ?_) | (with_reducible refine rd_isS ?_)
  | ((with_reducible refine rd_eq ?hs ?_); (case hs => exact rfl)) | ((with_reducible refine rd_ne ?hs ?_); (case hs => exact rfl))
  | (with_reducible refine rd_listRg ?_) | (with_reducible refine rd_rg2 ?_) | (with_reducible refine rd_rgk ?_)
  | (with_reducible refine rd_dnew ?_) | (with_reducible refine rd_ddel ?_) | (with_reducible refine rd_kw ?_) | (with_reducible refine rd_callS ?_) | (with_reducible refine rd_dc ?_) | (with_reducible refine rd_for ?_) | (with_reducible refine rd_tru ?_) | (with_reducible refine rd_truI ?_)
  | (with_reducible refine rd_nil ?_) | (with_reducible refine rd_cons ?_) | (with_reducible refine rd_call ?_) | (with_reducible refine rd_cb ?_)
  | (with_reducible refine rd_tup ?_) | (with_reducible refine rd_lst ?_) | (with_reducible refine rd_dget ?_) | (with_reducible refine rd_dput ?_) | (with_reducible refine rd_dget2 ?_) | (with_reducible refine rd_sl ?_)
  | (with_reducible refine rd_nopart ?_) | (with_reducible refine rd_part ?_) | (with_reducible refine rd_parti ?_) | (with_reducible refine rd_bm ?_) | (with_reducible refine rd_bm0 ?_)
  | (with_reducible refine rd_int ?_) | (with_reducible refine rd_intb ?_) | (with_reducible refine rd_abs ?_) | (with_reducible refine rd_min2 ?_) | (with_reducible refine rd_max2 ?_))
local macro_rules | `(tactic| walk_at "rqs") => `(tactic| repeat (walk_at "rq"))
local macro_rules | `(tactic| walk_at "rv") => `(tactic| first
  | (with_reducible refine rd_seq ?_) | (with_reducible refine rd_asg ?_) | (with_reducible refine rd_ret ?_) | (with_reducible refine rd_next ?_)
  | (with_reducible refine rd_drop ?_) | ((with_reducible refine rd_name (σ' := ?ss) ?hs ?_); (case hs => (dsimp only [List.set]; exact rfl)))
  | ((with_reducible refine rd_var (v := ?vv) ?hv ?_); (case hv => exact rfl)) | (with_reducible refine rd_c ?_) | (with_reducible refine rd_op ?_) | (with_reducible refine rd_un ?_)
  | (with_reducible refine rd_I0 ?_) | (with_reducible refine rd_U ?_) | (with_reducible refine rd_test ?_) | (with_reducible refine rd_B ?_) | (with_reducible refine rd_k ?_)
  | (with_reducible refine rd_not ?_) | (with_reducible refine rd_and ?_) | (with_reducible refine rd_or ?_)
  | (with_reducible refine rd_par ?_) | ((with_reducible refine rd_par2 (σ' := ?ss) ?hs ?_); (case hs => (dsimp only [List.set]; exact rfl)))
  | (with_reducible refine rd_gsub ?_) | (with_reducible refine rd_andV ?_) | (with_reducible refine rd_orV ?_) | (with_reducible refine rd_notV ?_)
  | (with_reducible refine rd_lc ?_) | (with_reducible refine rd_iTup ?_) | (with_reducible refine rd_iList ?_) | (with_reducible refine rd_iRng1 ?_) | (with_reducible refine rd_iRng2 ?_) | (with_reducible refine rd_iEnumT ?_) | (with_reducible refine rd_iEnum ?_) | (with_reducible refine rd_iZipM ?_) | (with_reducible refine rd_iEnumS ?_) | (with_reducible refine rd_iKeys ?_) | (with_reducible refine rd_din ?_) | (with_reducible refine rd_dnotin ?_)
  | (with_reducible refine rd_yes ?_) | (with_reducible refine rd_true ?_) | (with_reducible refine rd_false ?_) | (with_reducible refine rd_m1 ?_) | (with_reducible refine rd_isS ?_)
  | ((with_reducible refine rd_eq ?hs ?_); (case hs => exact rfl)) | ((with_reducible refine rd_ne ?hs ?_); (case hs => exact rfl))
  | (with_reducible refine rd_listRg ?_) | (with_reducible refine rd_rg2 ?_) | (with_reducible refine rd_rgk ?_)
  | (with_reducible refine rd_dnew ?_) | (with_reducible refine rd_ddel ?_) | (with_reducible refine rd_kw ?_) | (with_reducible refine rd_callS ?_) | (with_reducible refine rd_dc ?_) | (with_reducible refine rd_for ?_) | (with_reducible refine rd_tru ?_) | (with_reducible refine rd_truI ?_)
  | (with_reducible refine rd_nil ?_) | (with_reducible refine rd_cons ?_) | (with_reducible refine rd_call ?_) | (with_reducible refine rd_cb ?_)
  | (with_reducible refine rd_tup ?_) | (with_reducible refine rd_lst ?_) | (with_reducible refine rd_dget ?_) | (with_reducible refine rd_dput ?_) | (with_reducible refine rd_dget2 ?_) | (with_reducible refine rd_sl ?_)
  | (with_reducible refine rd_nopart ?_) | (with_reducible refine rd_part ?_) | (with_reducible refine rd_parti ?_) | (with_reducible refine rd_bm ?_) | (with_reducible refine rd_bm0 ?_)
  | (with_reducible refine rd_int ?_) | (with_reducible refine rd_intb ?_) | (with_reducible refine rd_abs ?_) | (with_reducible refine rd_min2 ?_) | (with_reducible refine rd_max2 ?_))
local macro_rules | `(tactic| walk_at "rvs") => `(tactic| repeat (walk_at "rv"))

theorem ps_off {X : Cx} {st : Stmt} : PS X st (fun _ _ _ => False) := ⟨fun _ _ _ _ _ _ h => h.elim⟩
/-- the three tuples of words -/
structure Gls (K : PySem.W.Frag) (mg : Str → Option Value) (jj nj qj : Addr) : Prop where
  jm : mg "JOINING" = some (.ref jj)
  nm : mg "NAMING" = some (.ref nj)
  qm : mg "QUANTIFIERS" = some (.ref qj)
  jt : ∀ H : Hp, SqT K H jj [.str "and", .str "or"]
  nt : ∀ H : Hp, SqT K H nj [.str "letter", .str "each", .str "some"]
  qt : ∀ H : Hp, SqT K H qj [.str "each", .str "some"]
theorem rd_inS {K : PySem.W.Frag} {H : Hp} {Q : VK} {p : Addr} {z : Str} {zs : List Str} (s : SqT K H p (zs.map V.str)) (h : Q (.bl (inV (.str z) (zs.map V.str))) H) : rIn K false (.str z) (.ref p) H Q :=
  ⟨p, zs.map V.str, rfl, .inr s, rfl, by rw [List.all_map]; exact List.all_eq_true.mpr fun _ _ => rfl, h⟩
theorem rd_notInS {K : PySem.W.Frag} {H : Hp} {Q : VK} {p : Addr} {z : Str} {zs : List Str} (s : SqT K H p (zs.map V.str)) (h : Q (.bl (!inV (.str z) (zs.map V.str))) H) : rIn K true (.str z) (.ref p) H Q :=
  ⟨p, zs.map V.str, rfl, .inr s, rfl, by rw [List.all_map]; exact List.all_eq_true.mpr fun _ _ => rfl, h⟩
theorem rd_bno {b : Bool} {A B : Prop} (hb : b = false) (h : B) : ∃ k, V.bl b = V.bl k ∧ if k = true then A else B := ⟨b, rfl, by rw [hb]; exact h⟩
theorem rd_byes {b : Bool} {A B : Prop} (hb : b = true) (h : A) : ∃ k, V.bl b = V.bl k ∧ if k = true then A else B := ⟨b, rfl, by rw [hb]; exact h⟩
/-- a formula's word -/
def wd : Fm → Str
  | .letter _ => "letter"
  | .no _ => "not"
  | .conn b _ => cw b
  | .same _ _ => "same"
  | .quan b _ _ => qw b
/-- the formulas in it -/
def kids : Fm → List Fm
  | .letter _ => []
  | .no f => [f]
  | .conn _ fs => fs
  | .same f g => [f, g]
  | .quan _ _ f => [f]
theorem nd_pos (f : Fm) : 1 ≤ nd f := by cases f <;> (rw [nd] <;> omega)
theorem nds_len (fs : List Fm) : fs.length ≤ nds fs := by
  induction fs with
  | nil => exact Nat.zero_le _
  | cons a t ih =>
    have := nd_pos a
    rw [nds, List.length_cons]
    omega
theorem nds_ge {fs : List Fm} {f : Fm} (h : f ∈ fs) : nd f ≤ nds fs := by
  induction fs with
  | nil => cases h
  | cons a t ih =>
    rw [nds]
    rcases List.mem_cons.mp h with rfl | h
    · omega
    · have := ih h
      omega
theorem kids_len (f : Fm) : (kids f).length ≤ nd f + 1 := by
  cases f with
  | letter z => exact Nat.zero_le _
  | no f => show 1 ≤ _; omega
  | conn b fs =>
    have := nds_len fs
    show fs.length ≤ nds fs + 1 + 1
    omega
  | same f g =>
    have := nd_pos f
    show 2 ≤ nd f + nd g + 1 + 1
    omega
  | quan b z f => show 1 ≤ _; omega
theorem kids_nd {f g : Fm} (h : g ∈ kids f) : nd g ≤ nd f := by
  cases f with
  | letter z => cases h
  | no f =>
    rw [List.mem_singleton.mp h, nd]
    omega
  | conn b fs =>
    have := nds_ge (show g ∈ fs from h)
    rw [nd]
    omega
  | same f g2 =>
    have h : g ∈ [f, g2] := h
    rw [nd]
    simp only [List.mem_cons, List.not_mem_nil, or_false] at h
    rcases h with rfl | rfl <;> omega
  | quan b z f =>
    rw [List.mem_singleton.mp h, nd]
    omega
theorem kids_dp {f g : Fm} {m : Nat} (hm : dp f ≤ m + 1) (hg : g ∈ kids f) : dp g ≤ m := by
  cases f with
  | letter z => cases hg
  | no f =>
    rw [dp] at hm
    rw [List.mem_singleton.mp hg]
    omega
  | conn b fs =>
    rw [dp] at hm
    have := dps_ge (show g ∈ fs from hg)
    omega
  | same f g2 =>
    rw [dp] at hm
    have h : g ∈ [f, g2] := hg
    simp only [List.mem_cons, List.not_mem_nil, or_false] at h
    rcases h with rfl | rfl <;> omega
  | quan b z f =>
    rw [dp] at hm
    rw [List.mem_singleton.mp hg]
    omega
theorem kids_qd {f g : Fm} (hg : g ∈ kids f) : qd g ≤ qd f := by
  cases f with
  | letter z => cases hg
  | no f => rw [List.mem_singleton.mp hg, qd]; omega
  | conn b fs =>
    have := qds_ge (show g ∈ fs from hg)
    rw [qd]
    omega
  | same f g2 =>
    have h : g ∈ [f, g2] := hg
    rw [qd]
    simp only [List.mem_cons, List.not_mem_nil, or_false] at h
    rcases h with rfl | rfl <;> omega
  | quan b z f => rw [List.mem_singleton.mp hg, qd]; omega
theorem dp_pos (f : Fm) : 1 ≤ dp f := by cases f <;> (rw [dp] <;> omega)
theorem kids_okf {f g : Fm} (h : okf f = true) (hg : g ∈ kids f) : okf g = true := by
  cases f with
  | letter z => cases hg
  | no f => rw [List.mem_singleton.mp hg]; exact h
  | conn b fs => exact okfs_mem h hg
  | same f g2 =>
    rw [okf, Bool.and_eq_true] at h
    have hg : g ∈ [f, g2] := hg
    simp only [List.mem_cons, List.not_mem_nil, or_false] at hg
    rcases hg with rfl | rfl
    · exact h.1
    · exact h.2
  | quan b z f =>
    rw [okf, Bool.and_eq_true] at h
    rw [List.mem_singleton.mp hg]
    exact h.2
section
variable {K : PySem.W.Frag} {H H' : Hp}
theorem dp_letter {v : V} {z : Str} (h : Dp K H v (dat (.letter z))) : ∃ a, v = .ref a ∧ SqT K H a [.str "letter", .str z] := by
  rw [dat] at h
  cases h with
  | tup hs ha =>
    cases ha with
    | cons h1 h2 =>
      cases h2 with
      | cons h3 h4 =>
        cases h4
        cases h1
        cases h3
        exact ⟨_, rfl, hs⟩
theorem dp_no {v : V} {f : Fm} (h : Dp K H v (dat (.no f))) : ∃ a x, v = .ref a ∧ SqT K H a [.str "not", x] ∧ Dp K H x (dat f) := by
  rw [dat] at h
  cases h with
  | tup hs ha =>
    cases ha with
    | cons h1 h2 =>
      cases h2 with
      | cons h3 h4 =>
        cases h4
        cases h1
        exact ⟨_, _, rfl, hs, h3⟩
theorem dp_conn {v : V} {b : Bool} {fs : List Fm} (h : Dp K H v (dat (.conn b fs))) : ∃ a c xs, v = .ref a ∧ SqT K H a [.str (cw b), .ref c] ∧ SqT K H c xs ∧ DpAll K H xs (dats fs) := by
  rw [dat] at h
  cases h with
  | tup hs ha =>
    cases ha with
    | cons h1 h2 =>
      cases h2 with
      | cons h3 h4 =>
        cases h4
        cases h1
        cases h3 with
        | tup hc hx => exact ⟨_, _, _, rfl, hs, hc, hx⟩
theorem dp_same {v : V} {f g : Fm} (h : Dp K H v (dat (.same f g))) : ∃ a x y, v = .ref a ∧ SqT K H a [.str "same", x, y] ∧ Dp K H x (dat f) ∧ Dp K H y (dat g) := by
  rw [dat] at h
  cases h with
  | tup hs ha =>
    cases ha with
    | cons h1 h2 =>
      cases h2 with
      | cons h3 h4 =>
        cases h4 with
        | cons h5 h6 =>
          cases h6
          cases h1
          exact ⟨_, _, _, rfl, hs, h3, h5⟩
theorem dp_quan {v : V} {b : Bool} {z : Str} {f : Fm} (h : Dp K H v (dat (.quan b z f))) : ∃ a x, v = .ref a ∧ SqT K H a [.str (qw b), .str z, x] ∧ Dp K H x (dat f) := by
  rw [dat] at h
  cases h with
  | tup hs ha =>
    cases ha with
    | cons h1 h2 =>
      cases h2 with
      | cons h3 h4 =>
        cases h4 with
        | cons h5 h6 =>
          cases h6
          cases h1
          cases h3
          exact ⟨_, _, rfl, hs, h5⟩
theorem noL_dats : ∀ fs : List Fm, (∀ f ∈ fs, noL (dat f) = true) → noLs (dats fs) = true
  | [], _ => rfl
  | f :: t, h => by
    show (noL (dat f) && noLs (dats t)) = true
    rw [h f List.mem_cons_self, noL_dats t fun x hx => h x (List.mem_cons_of_mem _ hx)] <;> rfl
mutual
theorem noL_dat : ∀ f : Fm, noL (dat f) = true
  | .letter z => rfl
  | .no f => by simp only [dat, noL, noLs, noL_dat f] <;> rfl
  | .conn b fs => by simp only [dat, noL, noLs, noL_dat2 fs] <;> rfl
  | .same f g => by simp only [dat, noL, noLs, noL_dat f, noL_dat g] <;> rfl
  | .quan b z f => by simp only [dat, noL, noLs, noL_dat f] <;> rfl
theorem noL_dat2 : ∀ fs : List Fm, noLs (dats fs) = true
  | [] => rfl
  | f :: t => by simp only [dats, noLs, noL_dat f, noL_dat2 t] <;> rfl
end
theorem dpF_ex {v : V} {f : Fm} (e : Evl.Ex H H') (h : Dp K H v (dat f)) : Dp K H' v (dat f) := dp_mono (fun _ _ t => Evl.ex_t e t) _ _ (noL_dat f) h
theorem dpF_gt {d l : Addr} {v : V} {f : Fm} (g : Gt d l H H') (hD : DeckT d l H) (h : Dp K H v (dat f)) : Dp K H' v (dat f) := dp_mono (fun _ _ t => g.tup hD t) _ _ (noL_dat f) h
theorem dpsF_ex {xs : List V} {fs : List Fm} (e : Evl.Ex H H') (h : DpAll K H xs (dats fs)) : DpAll K H' xs (dats fs) := dps_mono (fun _ _ t => Evl.ex_t e t) _ _ (noL_dat2 fs) h
theorem dpsF_gt {d l : Addr} {xs : List V} {fs : List Fm} (g : Gt d l H H') (hD : DeckT d l H) (h : DpAll K H xs (dats fs)) : DpAll K H' xs (dats fs) := dps_mono (fun _ _ t => g.tup hD t) _ _ (noL_dat2 fs) h
theorem dps_len : ∀ {xs : List V} {ds : List PyData}, DpAll K H xs ds → xs.length = ds.length
  | _, _, .nil => rfl
  | _, _, .cons _ h => congrArg (· + 1) (dps_len h)
theorem dps_get : ∀ {xs : List V} {fs : List Fm} {i : Nat} {x : V}, DpAll K H xs (dats fs) → xs[i]? = some x → ∃ f, fs[i]? = some f ∧ Dp K H x (dat f)
  | _, f :: _, 0, x, .cons h _, e => by
    obtain rfl : _ = x := Option.some.inj e
    exact ⟨f, rfl, h⟩
  | _, _ :: _, i + 1, _, .cons _ h, e => dps_get (i := i) h e
  | _, [], _, _, .nil, e => by simp at e
end
section
variable {P : Program} {w : World} {K : PySem.W.Frag} {mg : Str → Option Value} {base : Heap}
def spPartsOf (K : PySem.W.Frag) : Sp := fun vs H Q _ => ∃ (v : V) (f : Fm), vs = [v] ∧ Dp K H v (dat f) ∧
  ∀ (q : Addr) (xs : List V) (H' : Hp), Evl.Ex H H' → SqT K H' q xs → DpAll K H' xs (dats (kids f)) → Q (.ref q) H'
theorem ok_partsof {f jj nj qj : Addr} {fd : FuncData} (F : Fun K "parts_of" "parts_of" sparts_of f fd) (T : Bl mg) (GL : Gls K mg jj nj qj) : FnOk P w K mg base CX0 1 f fd ["formula"] (spPartsOf K) := by
  refine F.ok scparts_of (fun vs H Q E h => ?_) (fun cdv A outer s H vs Q E hr h => ?_)
  · obtain ⟨v, f, rfl, _⟩ := h
    rfl
  · obtain ⟨v, f, rfl, hv, q⟩ := h
    refine ⟨_, (pss_cons (ps_set (i := 1) scparts_of.nd rfl (Or.inl rfl) (pe_ix (ik_tup (K := K) rfl) (pv 0) pe_int (fun _ _ => rfl)))
 (pss_cons (ps_if (pt_cmpR (ok_in (K := K) rfl) (pv 1) (pe_glob (v := .ref jj) (by rfl) GL.jm rfl) (by rfl)) (pss_one (ps_ret (pe_ix (ik_tup (K := K) rfl) (pv 0) pe_int (fun _ _ => rfl)))) pss_nil)
 (pss_one (ps_ret (pe_ifExp (pt_cmpR (ok_in (K := K) rfl) (pv 1) (pe_glob (v := .ref nj) (by rfl) GL.nm rfl) (by rfl)) (pe_slice (sk_tup (K := K) rfl) (pv 0) (po_some pe_int) po_none) (pe_slice (sk_tup (K := K) rfl) (pv 0) (po_some pe_int) po_none)))))), ?_⟩
    refine rd_start (σ' := [some v, none]) rfl ?_
    cases f with
    | letter z =>
      obtain ⟨a, rfl, sa⟩ := dp_letter hv
      walk_at "rds"
      refine rd_ixT sa rfl ?_
      walk_at "rds"
      refine rd_inS (zs := ["and", "or"]) (GL.jt _) ?_
      refine rd_bno (by decide) ?_
      walk_at "rds"
      refine rd_inS (zs := ["letter", "each", "some"]) (GL.nt _) ?_
      refine rd_byes (by decide) ?_
      walk_at "rds"
      refine rd_slT sa fun p H1 e1 s1 => ?_
      exact q p _ _ e1 s1 .nil
    | no f =>
      obtain ⟨a, x, rfl, sa, hx⟩ := dp_no hv
      walk_at "rds"
      refine rd_ixT sa rfl ?_
      walk_at "rds"
      refine rd_inS (zs := ["and", "or"]) (GL.jt _) ?_
      refine rd_bno (by decide) ?_
      walk_at "rds"
      refine rd_inS (zs := ["letter", "each", "some"]) (GL.nt _) ?_
      refine rd_bno (by decide) ?_
      walk_at "rds"
      refine rd_slT sa fun p H1 e1 s1 => ?_
      exact q p _ _ e1 s1 (.cons (dpF_ex e1 hx) .nil)
    | conn b fs =>
      obtain ⟨a, c, xs, rfl, sa, sc, hx⟩ := dp_conn hv
      walk_at "rds"
      refine rd_ixT sa rfl ?_
      walk_at "rds"
      refine rd_inS (zs := ["and", "or"]) (GL.jt _) ?_
      refine rd_byes (by cases b <;> decide) ?_
      walk_at "rds"
      refine rd_ixT sa rfl ?_
      exact q c xs _ (Evl.Ex.refl _) sc hx
    | same f g =>
      obtain ⟨a, x, y, rfl, sa, hx, hy⟩ := dp_same hv
      walk_at "rds"
      refine rd_ixT sa rfl ?_
      walk_at "rds"
      refine rd_inS (zs := ["and", "or"]) (GL.jt _) ?_
      refine rd_bno (by decide) ?_
      walk_at "rds"
      refine rd_inS (zs := ["letter", "each", "some"]) (GL.nt _) ?_
      refine rd_bno (by decide) ?_
      walk_at "rds"
      refine rd_slT sa fun p H1 e1 s1 => ?_
      exact q p _ _ e1 s1 (.cons (dpF_ex e1 hx) (.cons (dpF_ex e1 hy) .nil))
    | quan b z f =>
      obtain ⟨a, x, rfl, sa, hx⟩ := dp_quan hv
      walk_at "rds"
      refine rd_ixT sa rfl ?_
      walk_at "rds"
      refine rd_inS (zs := ["and", "or"]) (GL.jt _) ?_
      refine rd_bno (by cases b <;> decide) ?_
      walk_at "rds"
      refine rd_inS (zs := ["letter", "each", "some"]) (GL.nt _) ?_
      refine rd_byes (by cases b <;> decide) ?_
      walk_at "rds"
      refine rd_slT sa fun p H1 e1 s1 => ?_
      exact q p _ _ e1 s1 (.cons (dpF_ex e1 hx) .nil)
end
/-! ### formulas are made -/
theorem mk_letter {K : PySem.W.Frag} {H : Hp} {z : Str} {q : Addr} (s : SqT K H q [.str "letter", .str z]) : Dp K H (.ref q) (dat (.letter z)) := by
  rw [dat]
  exact .tup s (.cons (.str _) (.cons (.str _) .nil))
theorem letter_new {K : PySem.W.Frag} {H : Hp} {z : Str} {p : Addr} (_hp : H p = none) : Dp K (upd H p (.tup [V.str "letter", .str z])) (.ref p) (dat (.letter z)) := mk_letter (SqT.of upd_same)
theorem mk_no {K : PySem.W.Frag} {H : Hp} {x : V} {f : Fm} {q : Addr} (s : SqT K H q [.str "not", x]) (h : Dp K H x (dat f)) : Dp K H (.ref q) (dat (.no f)) := by
  rw [dat]
  exact .tup s (.cons (.str _) (.cons h .nil))
theorem mk_conn {K : PySem.W.Frag} {H : Hp} {b : Bool} {xs : List V} {fs : List Fm} {p q : Addr} (s1 : SqT K H p xs) (h : DpAll K H xs (dats fs)) (s2 : SqT K H q [.str (cw b), .ref p]) : Dp K H (.ref q) (dat (.conn b fs)) := by
  rw [dat]
  exact .tup s2 (.cons (.str _) (.cons (.tup s1 h) .nil))
theorem mk_same {K : PySem.W.Frag} {H : Hp} {x y : V} {f g : Fm} {q : Addr} (s : SqT K H q [.str "same", x, y]) (h : Dp K H x (dat f)) (h2 : Dp K H y (dat g)) : Dp K H (.ref q) (dat (.same f g)) := by
  rw [dat]
  exact .tup s (.cons (.str _) (.cons h (.cons h2 .nil)))
theorem mk_quan {K : PySem.W.Frag} {H : Hp} {b : Bool} {z : Str} {x : V} {f : Fm} {q : Addr} (s : SqT K H q [.str (qw b), .str z, x]) (h : Dp K H x (dat f)) : Dp K H (.ref q) (dat (.quan b z f)) := by
  rw [dat]
  exact .tup s (.cons (.str _) (.cons (.str _) (.cons h .nil)))
theorem dpF_upd {K : PySem.W.Frag} {H : Hp} {D : Addr} {ys u : List V} {x : V} {f : Fm} (e : H D = some (.lst ys)) (h : Dp K H x (dat f)) : Dp K (upd H D (.lst u)) x (dat f) := dp_mono (fun _ _ t => tup_upd e lst_not t) _ _ (noL_dat f) h
theorem dps_upd {K : PySem.W.Frag} {H : Hp} {D : Addr} {ys u : List V} {xs : List V} {fs : List Fm} (e : H D = some (.lst ys)) (h : DpAll K H xs (dats fs)) : DpAll K (upd H D (.lst u)) xs (dats fs) := dps_mono (fun _ _ t => tup_upd e lst_not t) _ _ (noL_dat2 fs) h
theorem dps_snoc {K : PySem.W.Frag} {H : Hp} : ∀ {xs : List V} {fs : List Fm} {x : V} {f : Fm}, DpAll K H xs (dats fs) → Dp K H x (dat f) → DpAll K H (xs ++ [x]) (dats (fs ++ [f]))
  | _, [], _, _, .nil, h => .cons h .nil
  | _, _ :: _, _, _, .cons a b, h => .cons a (dps_snoc b h)
/-- the first two things of a formula's tuple -/
theorem dp_word {K : PySem.W.Frag} {H : Hp} {v : V} {f : Fm} (hv : Dp K H v (dat f)) : ∃ a x t, v = .ref a ∧ SqT K H a (.str (wd f) :: x :: t) := by
  cases f with
  | letter z =>
    obtain ⟨a, rfl, sa⟩ := dp_letter hv
    exact ⟨a, _, _, rfl, sa⟩
  | no f =>
    obtain ⟨a, x, rfl, sa, hx⟩ := dp_no hv
    exact ⟨a, _, _, rfl, sa⟩
  | conn b fs =>
    obtain ⟨a, c, xs, rfl, sa, sc, hx⟩ := dp_conn hv
    exact ⟨a, _, _, rfl, sa⟩
  | same f g =>
    obtain ⟨a, x, y, rfl, sa, hx, hy⟩ := dp_same hv
    exact ⟨a, _, _, rfl, sa⟩
  | quan b z f =>
    obtain ⟨a, x, rfl, sa, hx⟩ := dp_quan hv
    exact ⟨a, _, _, rfl, sa⟩
theorem rd_ifI {tt : TT} {ts tz : TS} {D : Ends} {σ : L2.St} {H : Hp} (I : L2.St → Hp → Prop) (h1 : ∀ N : L2.St → Hp → Prop, (∀ σ' H', I σ' H' → N σ' H') → tIfS tt ts tz { D with nx := N } σ H) (h : ∀ σ' H', I σ' H' → D.nx σ' H') : tIfS tt ts tz D σ H := h1 D.nx h
end KA
set_option Elab.async false
set_option linter.all false
set_option maxRecDepth 100000
set_option maxHeartbeats 400000
/-! Bits; dicts with texts for keys; a set comprehension of two clauses over tuples. -/
namespace KA
open PySem PySem.Spec PyProof PyProof.Rows L2 Ea
/-! ### bits -/
theorem xor_and (a b : Nat) : (a ^^^ b) + (a &&& b) = a ||| b := by
  induction a using Nat.strongRecOn generalizing b with
  | _ a ih =>
    by_cases h : a = 0
    · subst h; simp
    · have h1 := ih (a / 2) (by omega) (b / 2)
      have x1 := Nat.xor_div_two_pow (a := a) (b := b) (n := 1)
      have x2 := Nat.and_div_two_pow (a := a) (b := b) (n := 1)
      have x3 := Nat.or_div_two_pow (a := a) (b := b) (n := 1)
      have y1 := Nat.xor_mod_two_pow (a := a) (b := b) (n := 1)
      have y2 := Nat.and_mod_two_pow (a := a) (b := b) (n := 1)
      have y3 := Nat.or_mod_two_pow (a := a) (b := b) (n := 1)
      rw [Nat.pow_one] at x1 x2 x3 y1 y2 y3
      have zz : ∀ p < 2, ∀ q < 2, (p ^^^ q) + (p &&& q) = p ||| q := by decide
      have := zz (a % 2) (Nat.mod_lt _ (by decide)) (b % 2) (Nat.mod_lt _ (by decide))
      omega
theorem bAnd (a b : Nat) : Builtin.bitAnd (a : Int) (b : Int) = ((a &&& b : Nat) : Int) := rfl
theorem bOr (a b : Nat) : Builtin.bitOr (a : Int) (b : Int) = ((a ||| b : Nat) : Int) := by
  have e1 : decide ((0 : Int) ≤ Builtin.bitNot (a : Int)) = false := decide_eq_false (by unfold Builtin.bitNot; omega)
  have e2 : decide ((0 : Int) ≤ Builtin.bitNot (b : Int)) = false := decide_eq_false (by unfold Builtin.bitNot; omega)
  have n2 : ∀ i : Int, Builtin.bitNot (Builtin.bitNot i) = i := fun i => by unfold Builtin.bitNot; omega
  unfold Builtin.bitOr Builtin.bitAnd
  rw [e1, e2]
  show Builtin.bitNot (Builtin.bitNot _) = _
  rw [n2, n2, n2]
  rfl
theorem bXor (a b : Nat) : Builtin.bitXor (a : Int) (b : Int) = ((a ^^^ b : Nat) : Int) := by
  unfold Builtin.bitXor
  rw [bOr, bAnd]
  have := xor_and a b
  omega
theorem bShr (a : Nat) (j : Nat) : (a : Int) / 2 ^ j = ((a >>> j : Nat) : Int) := by
  rw [Nat.shiftRight_eq_div_pow, Int.natCast_ediv, Int.natCast_pow] <;> rfl
theorem bShl (a : Nat) (j : Nat) : (a : Int) * 2 ^ j = ((a <<< j : Nat) : Int) := by
  rw [Nat.shiftLeft_eq, Int.natCast_mul, Int.natCast_pow] <;> rfl
section
variable {H : Hp} {Q : VK} {i j : Int} {a k b : Nat}
theorem bits_le (h : a < 2 ^ b) : Builtin.Int.intBits (a : Int) ≤ b := by
  unfold Builtin.Int.intBits
  by_cases c : a = 0
  · subst c
    exact Nat.zero_le _
  · rw [if_neg (by rw [beq_iff_eq]; omega), Int.natAbs_natCast]
    exact (Nat.log2_lt c).mpr h
theorem rd_shl (b : Nat) (hi : i = (a : Int)) (hj : j = (k : Int)) (ha : a < 2 ^ b) (hk : b + k ≤ 100000000) (h : Q (.int ((a <<< k : Nat) : Int)) H) : rI CShl (fun i j => .int (i * 2 ^ j.toNat)) (.int i) (.int j) H Q := by
  subst hi hj
  have := bits_le ha
  refine ⟨_, _, rfl, rfl, ⟨by omega, by omega⟩, ?_⟩
  show Q (.int ((a : Int) * 2 ^ ((k : Int).toNat))) H
  rw [Int.toNat_natCast, bShl]
  exact h
theorem rd_shl1 (hj : j = (k : Int)) (hk : k ≤ 1000000) (h : Q (.int ((2 ^ k : Nat) : Int)) H) : rI CShl (fun i j => .int (i * 2 ^ j.toNat)) (.int 1) (.int j) H Q :=
  rd_shl (a := 1) 1 rfl hj (by decide) (by omega) (by rw [Nat.one_shiftLeft]; exact h)
theorem rd_shr (hi : i = (a : Int)) (hj : j = (k : Int)) (h : Q (.int ((a >>> k : Nat) : Int)) H) : rI (fun _ j => 0 ≤ j) (fun i j => .int (i / 2 ^ j.toNat)) (.int i) (.int j) H Q := by
  subst hi hj
  refine ⟨_, _, rfl, rfl, by omega, ?_⟩
  show Q (.int ((a : Int) / 2 ^ ((k : Int).toNat))) H
  rw [Int.toNat_natCast, bShr]
  exact h
end
/-! ### dicts with texts for keys -/
/-- the dict tells M -/
def DicOf (kvs : List (Key × V)) (M : Str → Option V) : Prop := (∀ z, valV kvs (.inr z) = M z) ∧ ∀ p ∈ kvs, ∃ z, p.1 = .inr z ∧ M z = some p.2
theorem DicOf.nil : DicOf [] fun _ => none := ⟨fun _ => rfl, fun _ h => by cases h⟩
theorem mem_putK {kvs : List (Key × V)} {k : Key} {v : V} {p : Key × V} (h : p ∈ putK kvs k v) : p = (k, v) ∨ (p ∈ kvs ∧ p.1 ≠ k) := by
  unfold putK at h
  split at h
  · obtain ⟨q, hq, e⟩ := List.mem_map.mp h
    by_cases c : q.1 = k
    · rw [if_pos c] at e
      rw [← e, c]
      exact .inl rfl
    · rw [if_neg c] at e
      rw [← e]
      exact .inr ⟨hq, c⟩
  · next c =>
    rcases List.mem_append.mp h with h | h
    · refine .inr ⟨h, fun e => c ?_⟩
      exact List.any_eq_true.mpr ⟨p, h, decide_eq_true e⟩
    · exact .inl (List.mem_singleton.mp h)
theorem DicOf.put {kvs : List (Key × V)} {M : Str → Option V} (h : DicOf kvs M) (z : Str) (v : V) : DicOf (putK kvs (.inr z) v) (fun y => if y = z then some v else M y) := by
  refine ⟨fun y => ?_, fun p hp => ?_⟩
  · rw [valV_put, h.1]
    show _ = if y = z then some v else M y
    by_cases c : y = z
    · rw [if_pos (congrArg Sum.inr c), if_pos c]
    · rw [if_neg (fun e => c (Sum.inr.inj e)), if_neg c]
  · rcases mem_putK hp with e | ⟨h1, h2⟩
    · refine ⟨z, by rw [e], ?_⟩
      show (if z = z then some v else M z) = some p.2
      rw [e, if_pos rfl]
    · obtain ⟨y, e1, e2⟩ := h.2 p h1
      have c : y ≠ z := fun e => h2 (by rw [e1, e])
      refine ⟨y, e1, ?_⟩
      show (if y = z then some v else M y) = some p.2
      rw [if_neg c]
      exact e2
theorem DicOf.congr {kvs : List (Key × V)} {M M' : Str → Option V} (h : DicOf kvs M) (e : ∀ z, M z = M' z) : DicOf kvs M' := by
  rw [show M' = M from funext fun z => (e z).symm]
  exact h
theorem DicOf.at {kvs : List (Key × V)} {M : Str → Option V} (h : DicOf kvs M) {z : Str} {v : V} (e : M z = some v) : ∃ i : Nat, kvs[i]? = some ((Sum.inr z, v) : Key × V) := by
  have e2 := h.1 z
  rw [e] at e2
  unfold valV at e2
  obtain ⟨p, hp, e3⟩ := Option.map_eq_some_iff.mp e2
  have h1 := List.mem_of_find?_eq_some hp
  have h2 := List.find?_some hp
  obtain ⟨i, hi⟩ := List.mem_iff_getElem?.mp h1
  refine ⟨i, ?_⟩
  rw [hi]
  have h3 : p.1 = .inr z := of_decide_eq_true h2
  rw [← h3, ← e3] <;> rfl
theorem DicOf.get {kvs : List (Key × V)} {M : Str → Option V} (h : DicOf kvs M) {H : Hp} {a : Addr} (e : H a = some (.dK kvs)) (z : Str) : DGet H a (.str z) (M z) := by
  have := DGet.k (k := .inr z) e
  rw [h.1] at this
  exact this
def hasK (kvs : List (Key × V)) (z : Str) : Bool := kvs.any fun p => decide (p.1 = Sum.inr z)
theorem hasK_app (l m : List (Key × V)) (z : Str) : hasK (l ++ m) z = (hasK l z || hasK m z) := List.any_append
theorem hasK_one (y : Str) (v : V) (z : Str) : hasK (some ((Sum.inr y, v) : Key × V)).toList z = decide (z = y) := by
  show (decide ((Sum.inr y : Key) = Sum.inr z) || false) = _
  rw [Bool.or_false]
  by_cases c : z = y
  · rw [decide_eq_true c, decide_eq_true (by rw [c])]
  · rw [decide_eq_false c, decide_eq_false (fun e => c (Sum.inr.inj e).symm)]
theorem rd_iItems {td : TE} {σ : L2.St} {H : Hp} {R : It → Hp → Prop} (h : td σ H fun x H1 => ∃ d o kvs, x = .ref d ∧ H1 d = some (.frz o (.dK kvs)) ∧ R (Iti d o kvs) H1) : iItems td σ H R := h
section
variable {K : PySem.W.Frag} {σ : L2.St} {H : Hp} {Q : VK} {tk tv : TE} {tt : TT} {vs : List Nat} {j j1 j2 k : Nat} {σx : V → V → L2.St} {σy : V → L2.St} {d : Addr} {od : Obj} {kvs : List (Key × V)} {M : Str → Option V}
/-- {k: .. for k, v in d.items()} -/
theorem dc_items (hk : k = 2) (G : Str → V → V) (hd : H d = some (.frz od (.dK kvs))) (hM : DicOf kvs M) (hz : kvs.length ≤ 20000) (hσ : ∀ x y, ((wipe σ vs).set j1 (some x)).set j2 (some y) = σx x y) (hw : ∀ x y, wipe (σx x y) vs = wipe σ vs)
    (hs : ∀ z v, M z = some v → ∀ (H' : Hp) (N : V → V → Hp → Prop), Evl.Ex H H' → (∀ H3, Evl.Ex H' H3 → N (.str z) (G z v) H3) → tk (σx (.str z) v) H' fun y H4 => tv (σx (.str z) v) H4 fun w H5 => N y w H5)
    (hq : ∀ D kvs' H', Evl.Ex H H' → H D = none → H' D = some (.dK kvs') → kvs'.length ≤ kvs.length → DicOf kvs' (fun z => (M z).map (G z)) → Q (.ref D) H') : DcR (gTup K k (gCons (gName j1) (gCons (gName j2) gNil))) tYes tk tv vs σ Q (Iti d od kvs) H := fun D hD => by
  refine ⟨fun i m H' => i + m = kvs.length ∧ Evl.Ex H H' ∧ ∃ kvs', H' D = some (.dK kvs') ∧ kvs'.length ≤ i ∧ (∀ z, valV kvs' (.inr z) = if hasK (kvs.take i) z = true then (M z).map (G z) else none) ∧ ∀ p ∈ kvs', ∃ z, p.1 = .inr z ∧ (M z).map (G z) = some p.2,
    ⟨kvs.length, by omega, Evl.Ex.new hD, [], upd_same, Nat.le_refl _, fun z => by rw [if_neg (by rw [List.take_zero]; exact Bool.false_ne_true)]; rfl, fun p hp => by cases hp⟩, fun i m H' hW => ?_⟩
  obtain ⟨em, e, kvs', ed, hl, hv, hp⟩ := hW
  by_cases hi : i < kvs.length
  · refine .inr ⟨⟨e _ _ hd, hi⟩, fun H3 => Evl.Ex H H3 ∧ ∃ kvs', H3 D = some (.dK kvs') ∧ kvs'.length ≤ i + 1 ∧ (∀ z, valV kvs' (.inr z) = if hasK (kvs.take (i + 1)) z = true then (M z).map (G z) else none) ∧ ∀ p ∈ kvs', ∃ z, p.1 = .inr z ∧ (M z).map (G z) = some p.2, fun H3 h3 => ⟨m - 1, by omega, by omega, h3⟩, fun x H2 hy => ?_⟩
    obtain ⟨T, k0, v, hkv, rfl, hT, rfl⟩ := hy
    obtain ⟨z, hz0, hMz⟩ := hM.2 _ (List.mem_of_getElem? hkv)
    have hz0 : k0 = .inr z := hz0
    have hMz : M z = some v := hMz
    subst hz0
    have eT := Evl.Ex.new (o := .tup [kV (.inr z), v]) hT
    refine rd_gtup2 (x := .str z) (y := v) (SqT.of upd_same) hk (hσ _ _) ⟨hw _ _, rd_yes (rd_true (hs z v hMz _ (fun y w H5 => ∃ kvs k, y = kV k ∧ H5 D = some (.dK kvs) ∧ kvs.length < sizeLine ∧ (Evl.Ex H (upd H5 D (.dK (putK kvs k w))) ∧ ∃ kvs', (upd H5 D (.dK (putK kvs k w))) D = some (.dK kvs') ∧ kvs'.length ≤ i + 1 ∧ _ ∧ _)) (e.trans eT) fun H3 e3 => ?_))⟩
    refine ⟨kvs', .inr z, rfl, e3 _ _ (eT _ _ ed), by rw [sizeLine_eq]; omega, Evl.Ex.mut ((e.trans eT).trans e3) hD, _, upd_same, ?_, fun y => ?_, fun p hp2 => ?_⟩
    · have := length_putK kvs' (.inr z) (G z v)
      omega
    · rw [valV_put, List.take_add_one, hkv, hv]
      by_cases c : y = z
      · subst c
        rw [if_pos rfl, hasK_app, hasK_one, decide_eq_true rfl, Bool.or_true, if_pos rfl, hMz] <;> rfl
      · rw [if_neg (fun e => c (Sum.inr.inj e)), hasK_app, hasK_one, decide_eq_false c, Bool.or_false]
    · rcases mem_putK hp2 with e2 | ⟨h1, _⟩
      · exact ⟨z, by rw [e2], by rw [e2, hMz] <;> rfl⟩
      · exact hp p h1
  · have hin : i = kvs.length := by omega
    subst hin
    refine .inl ⟨⟨e _ _ hd, Nat.le_refl _⟩, hq D kvs' H' e hD ed hl ⟨fun z => ?_, hp⟩⟩
    rw [hv z, List.take_length]
    by_cases c : hasK kvs z = true
    · rw [if_pos c]
    · rw [if_neg c]
      cases hz1 : M z with
      | none => simp [hz1]
      | some v =>
        obtain ⟨i, hi2⟩ := hM.at hz1
        exact absurd (List.any_eq_true.mpr ⟨_, List.mem_of_getElem? hi2, decide_eq_true rfl⟩) c
/-- {k: .. for k in d if ..} over a dict with texts for keys -/
theorem dc_keysS (f : Str → Bool) (G : Str → V → V) (hd : H d = some (.frz od (.dK kvs))) (hM : DicOf kvs M) (hz : kvs.length ≤ 20000) (hσ : ∀ x, (wipe σ vs).set j (some x) = σy x) (hw : ∀ x, wipe (σy x) vs = wipe σ vs)
    (hs : ∀ z v, M z = some v → ∀ (H' : Hp) (N : V → V → Hp → Prop) (S : Hp → Prop), Evl.Ex H H' → (f z = true → ∀ H3, Evl.Ex H' H3 → N (.str z) (G z v) H3) → (f z = false → ∀ H3, Evl.Ex H' H3 → S H3) →
      tt (σy (.str z)) H' fun b H2 => if b = true then tk (σy (.str z)) H2 fun y H4 => tv (σy (.str z)) H4 fun w H5 => N y w H5 else S H2)
    (hq : ∀ D kvs' H', Evl.Ex H H' → H D = none → H' D = some (.dK kvs') → kvs'.length ≤ kvs.length → DicOf kvs' (fun z => if f z = true then (M z).map (G z) else none) → Q (.ref D) H') : DcR (gName j) tt tk tv vs σ Q (Itk d od kvs) H := fun D hD => by
  refine ⟨fun i m H' => i + m = kvs.length ∧ Evl.Ex H H' ∧ ∃ kvs', H' D = some (.dK kvs') ∧ kvs'.length ≤ i ∧ (∀ z, valV kvs' (.inr z) = if hasK (kvs.take i) z = true then (if f z = true then (M z).map (G z) else none) else none) ∧ ∀ p ∈ kvs', ∃ z, p.1 = .inr z ∧ (if f z = true then (M z).map (G z) else none) = some p.2,
    ⟨kvs.length, by omega, Evl.Ex.new hD, [], upd_same, Nat.le_refl _, fun z => by rw [if_neg (by rw [List.take_zero]; exact Bool.false_ne_true)]; rfl, fun p hp => by cases hp⟩, fun i m H' hW => ?_⟩
  obtain ⟨em, e, kvs', ed, hl, hv, hp⟩ := hW
  by_cases hi : i < kvs.length
  · refine .inr ⟨⟨e _ _ hd, hi⟩, fun H3 => Evl.Ex H H3 ∧ ∃ kvs', H3 D = some (.dK kvs') ∧ kvs'.length ≤ i + 1 ∧ (∀ z, valV kvs' (.inr z) = if hasK (kvs.take (i + 1)) z = true then (if f z = true then (M z).map (G z) else none) else none) ∧ ∀ p ∈ kvs', ∃ z, p.1 = .inr z ∧ (if f z = true then (M z).map (G z) else none) = some p.2, fun H3 h3 => ⟨m - 1, by omega, by omega, h3⟩, fun x H2 hy => ?_⟩
    obtain ⟨rfl, k0, v, hkv, rfl⟩ := hy
    obtain ⟨z, hz0, hMz⟩ := hM.2 _ (List.mem_of_getElem? hkv)
    have hz0 : k0 = .inr z := hz0
    have hMz : M z = some v := hMz
    subst hz0
    show gName j (.str z) (wipe σ vs) H2 _
    rw [show gName j (.str z) (wipe σ vs) H2 = fun N => N (σy (.str z)) H2 from funext fun N => by rw [← hσ (.str z)] <;> rfl]
    refine ⟨hw _, hs z v hMz H2 (fun y w H5 => ∃ kvs k, y = kV k ∧ H5 D = some (.dK kvs) ∧ kvs.length < sizeLine ∧ (Evl.Ex H (upd H5 D (.dK (putK kvs k w))) ∧ ∃ kvs', (upd H5 D (.dK (putK kvs k w))) D = some (.dK kvs') ∧ kvs'.length ≤ i + 1 ∧ _ ∧ _)) (fun H3 => Evl.Ex H H3 ∧ ∃ kvs', H3 D = some (.dK kvs') ∧ kvs'.length ≤ i + 1 ∧ _ ∧ _) e (fun hf H3 e3 => ?_) (fun hf H3 e3 => ?_)⟩
    · refine ⟨kvs', .inr z, rfl, e3 _ _ ed, by rw [sizeLine_eq]; omega, Evl.Ex.mut (e.trans e3) hD, _, upd_same, ?_, fun y => ?_, fun p hp2 => ?_⟩
      · have := length_putK kvs' (.inr z) (G z v)
        omega
      · rw [valV_put, List.take_add_one, hkv, hv]
        by_cases c : y = z
        · subst c
          rw [if_pos rfl, hasK_app, hasK_one, decide_eq_true rfl, Bool.or_true, if_pos rfl, if_pos hf, hMz] <;> rfl
        · rw [if_neg (fun e => c (Sum.inr.inj e)), hasK_app, hasK_one, decide_eq_false c, Bool.or_false]
      · rcases mem_putK hp2 with e2 | ⟨h1, _⟩
        · exact ⟨z, by rw [e2], by rw [e2, if_pos hf, hMz] <;> rfl⟩
        · exact hp p h1
    · refine ⟨e.trans e3, kvs', e3 _ _ ed, by omega, fun y => ?_, hp⟩
      rw [hv, List.take_add_one, hkv]
      rw [hasK_app, hasK_one]
      by_cases c3 : y = z
      · subst c3
        rw [hf, decide_eq_true rfl, Bool.or_true, if_pos rfl]
        by_cases c2 : hasK (kvs.take i) y = true
        · rw [if_pos c2]
        · rw [if_neg c2] <;> rfl
      · rw [decide_eq_false c3, Bool.or_false]
  · have hin : i = kvs.length := by omega
    subst hin
    refine .inl ⟨⟨e _ _ hd, Nat.le_refl _⟩, hq D kvs' H' e hD ed hl ⟨fun z => ?_, hp⟩⟩
    rw [hv z, List.take_length]
    by_cases c : hasK kvs z = true
    · rw [if_pos c]
    · rw [if_neg c]
      cases hz1 : M z with
      | none => simp [hz1]
      | some v =>
        obtain ⟨i, hi2⟩ := hM.at hz1
        exact absurd (List.any_eq_true.mpr ⟨_, List.mem_of_getElem? hi2, decide_eq_true rfl⟩) c
/-- {z: .. for z in a tuple of texts} -/
theorem dc_textsT {K : PySem.W.Frag} {a : Addr} {ts : List Str} (G : Str → V) (hx : SqT K H a (ts.map V.str)) (hz : ts.length ≤ 20000) (hσ : ∀ x, (wipe σ vs).set j (some x) = σy x) (hw : ∀ x, wipe (σy x) vs = wipe σ vs)
    (hs : ∀ z, z ∈ ts → ∀ (H' : Hp) (N : V → V → Hp → Prop), Evl.Ex H H' → (∀ H3, Evl.Ex H' H3 → N (.str z) (G z) H3) → tk (σy (.str z)) H' fun y H4 => tv (σy (.str z)) H4 fun w H5 => N y w H5)
    (hq : ∀ (D : Addr) (kvs' : List (Key × V)) (H' : Hp), Evl.Ex H H' → H D = none → H' D = some (.dK kvs') → kvs'.length ≤ ts.length → DicOf kvs' (fun z => if z ∈ ts then some (G z) else none) → Q (.ref D) H') : DcR (gName j) tYes tk tv vs σ Q (Itt K a) H := fun D hn =>
  dc_tup (xs := ts.map V.str) (fun i H' => Evl.Ex H H' ∧ i ≤ ts.length ∧ ∃ kvs, H' D = some (.dK kvs) ∧ kvs.length ≤ i ∧ DicOf kvs (fun z => if z ∈ ts.take i then some (G z) else none)) ⟨Evl.Ex.new hn, Nat.zero_le _, [], upd_same, Nat.le_refl _, DicOf.nil.congr fun z => by rw [if_neg (by simp)]⟩ (fun i H' _ p => Evl.ex_t p.1 hx) (fun i x H' hi p => by
    rw [List.getElem?_map] at hi
    obtain ⟨z, hz1, rfl⟩ := Option.map_eq_some_iff.mp hi
    rw [show gName j (.str z) (wipe σ vs) H' = fun N => N (σy (.str z)) H' from funext fun N => by rw [← hσ (.str z)] <;> rfl]
    refine ⟨hw _, rd_yes ?_⟩
    rw [if_pos rfl]
    obtain ⟨e, hi2, kvs, ed, hl, hM⟩ := p
    refine hs z (List.mem_of_getElem? hz1) H' _ e fun H3 e3 => ?_
    have hlt := (List.getElem?_eq_some_iff.mp hz1).1
    have hl3 := length_putK kvs (.inr z) (G z)
    refine ⟨kvs, .inr z, rfl, e3 _ _ ed, by rw [sizeLine_eq]; omega, Evl.Ex.mut (e.trans e3) hn, by omega, _, upd_same, by omega, (hM.put z (G z)).congr fun y => ?_⟩
    rw [List.take_add_one, hz1, show (some z).toList = [z] from rfl]
    by_cases c : y = z
    · subst c
      rw [if_pos rfl, if_pos (List.mem_append_right _ (List.mem_singleton.mpr rfl))]
    · rw [if_neg c]
      by_cases c2 : y ∈ ts.take i
      · rw [if_pos c2, if_pos (List.mem_append_left _ c2)]
      · rw [if_neg c2, if_neg]
        intro h
        rcases List.mem_append.mp h with h | h
        · exact c2 h
        · exact c (List.mem_singleton.mp h)) fun H' p => by
    obtain ⟨e, _, kvs, ed, hl, hM⟩ := p
    rw [List.length_map] at hl hM
    rw [List.take_length] at hM
    exact hq D kvs H' e hn ed hl hM
end
/-! ### a set comprehension of two clauses -/
/-- behind its first row -/
def Sc2R (P : Program) (w : World) (g : TG) (tt : TT) (wi1 : TI) (g1 : TG) (tt1 : TT) (te : TE) (vs vs1 : List Nat) (σ : L2.St) (Q : VK) (J : It) (H1 : Hp) : Prop := ∀ D, H1 D = none → ∃ W : Nat → Nat → Hp → Prop, (∃ m, W 0 m (upd H1 D (SetSO P w D []))) ∧ ∀ i m H, W i m H →
  (J.stop i H ∧ Q (.ref D) H) ∨ (J.go i H ∧ ∃ Nx : Hp → Prop, (∀ H', Nx H' → ∃ m', m' < m ∧ W (i + 1) m' H') ∧ ∀ x H', J.yld i H x H' → g x (wipe σ vs) H' fun σ2 H2 => wipe σ2 vs = wipe σ vs ∧ tt σ2 H2 fun b H3 =>
    if b = true then wi1 σ2 H3 fun J1 H4 => ∃ W1 : Nat → Nat → Hp → Prop, (∃ m, W1 0 m H4) ∧ ∀ j k H, W1 j k H →
      (J1.stop j H ∧ Nx H) ∨ (J1.go j H ∧ ∃ Nx1 : Hp → Prop, (∀ H', Nx1 H' → ∃ k', k' < k ∧ W1 (j + 1) k' H') ∧ ∀ x H', J1.yld j H x H' → g1 x (wipe σ2 vs1) H' fun σ3 H5 => wipe σ3 vs1 = wipe σ2 vs1 ∧ tt1 σ3 H5 fun b H6 =>
        if b = true then te σ3 H6 fun y H7 => ∃ (k : Str) (l : List Str), y = .str k ∧ H7 D = some (SetSO P w D l) ∧ l.length + 1 < scanBound ∧ Nx1 (upd H7 D (SetSO P w D (putS k l))) else Nx1 H6)
    else Nx H3)
theorem rd_sc2 {P : Program} {w : World} {wi wi1 : TI} {g g1 : TG} {tt tt1 : TT} {te : TE} {vs vs1 : List Nat} {σ : L2.St} {H : Hp} {Q : VK} (h : wi σ H (Sc2R P w g tt wi1 g1 tt1 te vs vs1 σ Q)) : tSc2 P w wi g tt wi1 g1 tt1 te vs vs1 σ H Q := h
theorem ext_not {P : Program} {w : World} {a : Addr} {l : List Str} (zs : List V) : SetSO P w a l ≠ .tup zs ∧ ∀ f, SetSO P w a l ≠ .frz f (.tup zs) := ⟨fun h => HO.noConfusion h, fun f h => HO.noConfusion h⟩
theorem putS_mem {k z : Str} {l : List Str} : z ∈ putS k l ↔ z = k ∨ z ∈ l := by
  unfold putS
  by_cases c : k ∈ l
  · rw [if_pos c]
    exact ⟨.inr, fun h => h.elim (fun e => e ▸ c) id⟩
  · rw [if_neg c, List.mem_cons]
theorem putS_nodup {k : Str} {l : List Str} (h : l.Nodup) : (putS k l).Nodup := by
  unfold putS
  by_cases c : k ∈ l
  · rw [if_pos c]
    exact h
  · rw [if_neg c]
    exact List.nodup_cons.mpr ⟨c, h⟩
theorem nodup_sub : ∀ {l m : List Str}, l.Nodup → (∀ x ∈ l, x ∈ m) → l.length ≤ m.length
  | [], m, _, _ => Nat.zero_le _
  | x :: t, m, nd, hm => by
    obtain ⟨h1, h2⟩ := List.nodup_cons.mp nd
    have hx := hm x List.mem_cons_self
    have := nodup_sub (m := m.erase x) h2 fun y hy => by
      have : y ≠ x := fun e => h1 (e ▸ hy)
      exact (List.mem_erase_of_ne this).mpr (hm y (List.mem_cons_of_mem _ hy))
    rw [List.length_erase_of_mem hx] at this
    have := List.length_pos_of_mem hx
    rw [List.length_cons]
    omega
section
variable {P : Program} {w : World} {K : PySem.W.Frag} {σ : L2.St} {H : Hp} {Q : VK} {wi1 : TI} {tt1 : TT} {te : TE} {vs vs1 : List Nat} {j j1 : Nat} {σx : V → L2.St} {σy : V → V → L2.St} {a : Addr} {xs : List V}
/-- {z for x in a tuple for z in a tuple of texts if c z} -/
theorem sc2_tt (F : Nat → List Str) (c : Str → Bool) (B : List Str) (hx : SqT K H a xs) (hB : B.length + 1 < scanBound) (hFB : ∀ i, i < xs.length → ∀ z ∈ F i, c z = true → z ∈ B)
    (hσ : ∀ x, (wipe σ vs).set j (some x) = σx x) (hw : ∀ x, wipe (σx x) vs = wipe σ vs) (hσ1 : ∀ x y, (wipe (σx x) vs1).set j1 (some y) = σy x y) (hw1 : ∀ x y, wipe (σy x y) vs1 = wipe (σx x) vs1)
    (hin : ∀ i x, xs[i]? = some x → ∀ (H' : Hp) (R : It → Hp → Prop), Evl.Ex H H' → (∀ (t : Addr) (ts : List Str) (H2 : Hp), Evl.Ex H' H2 → SqT K H2 t (ts.map V.str) → (∀ z, z ∈ ts ↔ z ∈ F i) → R (Itt K t) H2) → wi1 (σx x) H' R)
    (ht : ∀ x z (H' : Hp) (QB : Bool → Hp → Prop), QB (c z) H' → tt1 (σy x (.str z)) H' QB)
    (he : ∀ x z (H' : Hp) (N : VK), N (.str z) H' → te (σy x (.str z)) H' N)
    (hd : ∀ (D : Addr) (l : List Str) (H' : Hp), Evl.Ex H H' → H D = none → H' D = some (SetSO P w D l) → l.Nodup → l.length < scanBound → (∀ z, z ∈ l ↔ ∃ i, i < xs.length ∧ z ∈ F i ∧ c z = true) → Q (.ref D) H') :
    Sc2R P w (gName j) tYes wi1 (gName j1) tt1 te vs vs1 σ Q (Itt K a) H := fun D hn => by
  refine ⟨fun i m H' => m = xs.length - i ∧ i ≤ xs.length ∧ Evl.Ex H H' ∧ ∃ l, H' D = some (SetSO P w D l) ∧ l.Nodup ∧ ∀ z, z ∈ l ↔ ∃ i', i' < i ∧ z ∈ F i' ∧ c z = true, ⟨xs.length, by simp, Nat.zero_le _, Evl.Ex.new hn, [], upd_same, List.nodup_nil, fun z => by simp⟩, ?_⟩
  rintro i m H1 ⟨rfl, hi, e1, l, hD1, nd, hl⟩
  by_cases hlt : i < xs.length
  · refine .inr ⟨⟨xs, xs[i], Evl.ex_t e1 hx, by simp [hlt]⟩, fun H' => i + 1 ≤ xs.length ∧ Evl.Ex H H' ∧ ∃ l, H' D = some (SetSO P w D l) ∧ l.Nodup ∧ ∀ z, z ∈ l ↔ ∃ i', i' < i + 1 ∧ z ∈ F i' ∧ c z = true, fun H' p' => ⟨xs.length - (i + 1), by omega, rfl, p'.1, p'.2⟩, fun x H' y => ?_⟩
    obtain ⟨rfl, y⟩ := y
    have hxi := y xs (Evl.ex_t e1 hx)
    rw [show gName j x (wipe σ vs) H' = fun N => N (σx x) H' from funext fun N => by rw [← hσ x] <;> rfl]
    refine ⟨hw x, ?_⟩
    refine rd_yes ?_
    rw [if_pos rfl]
    refine hin i x hxi H' _ e1 fun t ts H2 e2 st hts => ?_
    refine ⟨fun j' k H3 => k = ts.length - j' ∧ j' ≤ ts.length ∧ Evl.Ex H H3 ∧ SqT K H3 t (ts.map V.str) ∧ ∃ l, H3 D = some (SetSO P w D l) ∧ l.Nodup ∧ ∀ z, z ∈ l ↔ (∃ i', i' < i ∧ z ∈ F i' ∧ c z = true) ∨ (z ∈ ts.take j' ∧ c z = true), ⟨ts.length, by simp, Nat.zero_le _, e1.trans e2, st, l, e2 _ _ hD1, nd, fun z => by rw [hl]; simp⟩, ?_⟩
    rintro j' k H3 ⟨rfl, hj, e3, st3, l3, hD3, nd3, hl3⟩
    by_cases hj2 : j' < ts.length
    · refine .inr ⟨⟨ts.map V.str, (ts.map V.str)[j']'(by rw [List.length_map]; exact hj2), st3, by simp [hj2]⟩, fun H4 => j' + 1 ≤ ts.length ∧ Evl.Ex H H4 ∧ SqT K H4 t (ts.map V.str) ∧ ∃ l, H4 D = some (SetSO P w D l) ∧ l.Nodup ∧ ∀ z, z ∈ l ↔ (∃ i', i' < i ∧ z ∈ F i' ∧ c z = true) ∨ (z ∈ ts.take (j' + 1) ∧ c z = true), fun H4 p' => ⟨ts.length - (j' + 1), by omega, rfl, p'.1, p'.2⟩, fun y H4 zz => ?_⟩
      obtain ⟨rfl, zz⟩ := zz
      have hy := zz _ st3
      rw [List.getElem?_map] at hy
      obtain ⟨z, hz, rfl⟩ := Option.map_eq_some_iff.mp hy
      rw [show gName j1 (.str z) (wipe (σx x) vs1) H4 = fun N => N (σy x (.str z)) H4 from funext fun N => by rw [← hσ1 x (.str z)] <;> rfl]
      refine ⟨hw1 x _, ?_⟩
      have htk : ts.take (j' + 1) = ts.take j' ++ [z] := by rw [List.take_add_one, hz] <;> rfl
      have hzF : z ∈ F i := (hts z).mp (List.mem_of_getElem? hz)
      refine ht x z H4 _ ?_
      by_cases hc : c z = true
      · rw [if_pos hc]
        refine he x z H4 _ ⟨z, l3, rfl, hD3, ?_, ?_⟩
        · have hlB : l3.length ≤ B.length := nodup_sub nd3 fun y hy => by
            rcases (hl3 y).mp hy with ⟨i', h1, h2, h3⟩ | ⟨h1, h2⟩
            · exact hFB i' (by omega) y h2 h3
            · exact hFB i hlt y ((hts y).mp (List.mem_of_mem_take h1)) h2
          omega
        · refine ⟨hj2, Evl.Ex.mut e3 hn, tup_upd hD3 ext_not st3, _, upd_same, putS_nodup nd3, fun y => ?_⟩
          rw [putS_mem, hl3, htk, List.mem_append, List.mem_singleton]
          constructor
          · rintro (rfl | h | ⟨h1, h2⟩)
            · exact .inr ⟨.inr rfl, hc⟩
            · exact .inl h
            · exact .inr ⟨.inl h1, h2⟩
          · rintro (h | ⟨h1 | h1, h2⟩)
            · exact .inr (.inl h)
            · exact .inr (.inr ⟨h1, h2⟩)
            · exact .inl h1
      · rw [if_neg hc]
        refine ⟨hj2, e3, st3, l3, hD3, nd3, fun y => ?_⟩
        rw [hl3, htk, List.mem_append, List.mem_singleton]
        constructor
        · rintro (h | ⟨h1, h2⟩)
          · exact .inl h
          · exact .inr ⟨.inl h1, h2⟩
        · rintro (h | ⟨h1 | h1, h2⟩)
          · exact .inl h
          · exact .inr ⟨h1, h2⟩
          · exact absurd (h1 ▸ h2) hc
    · have hj3 : j' = ts.length := by omega
      subst hj3
      refine .inl ⟨⟨_, st3, Nat.le_of_eq (List.length_map ..)⟩, hlt, e3, l3, hD3, nd3, fun z => ?_⟩
      rw [hl3, List.take_length, hts]
      constructor
      · rintro (⟨i', h1, h2⟩ | ⟨h1, h2⟩)
        · exact ⟨i', by omega, h2⟩
        · exact ⟨i, by omega, h1, h2⟩
      · rintro ⟨i', h1, h2, h3⟩
        by_cases h4 : i' = i
        · exact .inr ⟨h4 ▸ h2, h3⟩
        · exact .inl ⟨i', by omega, h2, h3⟩
  · have : i = xs.length := by omega
    subst this
    have hlB : l.length ≤ B.length := nodup_sub nd fun y hy => by
      obtain ⟨i', h1, h2, h3⟩ := (hl y).mp hy
      exact hFB i' h1 y h2 h3
    exact .inl ⟨⟨xs, Evl.ex_t e1 hx, Nat.le_refl _⟩, hd D l _ e1 hn hD1 nd (by omega) hl⟩
end
end KA
set_option Elab.async false
set_option linter.all false
set_option maxRecDepth 100000
set_option maxHeartbeats 400000
set_option pp.maxSteps 300
namespace KA
open PySem PySem.Spec PyProof.Rows L2 Ea
abbrev sfree_names : Stmt := topS 5
theorem scfree_names : FnScope ["formula", "bound", "part", "name"] ["formula"] (defScope sfree_names) :=
  ⟨rfl, rfl, rfl, by decide +kernel, rfl, by decide +kernel, by decide +kernel⟩
local macro_rules | `(tactic| walk_at "rd") => `(tactic| first
  | (with_reducible refine rd_iItems ?_) | (with_reducible refine rd_sc2 ?_) | (with_reducible refine rd_lc2 ?_) | (with_reducible refine rd_iZipN ?_) | (with_reducible refine rd_iZipL ?_) | (with_reducible refine rd_revL ?_) | (with_reducible refine rd_lstZ ?_) | (with_reducible refine rd_iRev ?_)
  | (with_reducible refine rd_seq ?_) | (with_reducible refine rd_asg ?_) | (with_reducible refine rd_if ?_) | (with_reducible refine rd_ret ?_) | (with_reducible refine rd_next ?_)
  | (with_reducible refine rd_drop ?_) | ((with_reducible refine rd_name (σ' := ?ss) ?hs ?_); (case hs => (dsimp only [List.set]; exact rfl)))
  | ((with_reducible refine rd_var (v := ?vv) ?hv ?_); (case hv => exact rfl)) | (with_reducible refine rd_c ?_) | (with_reducible refine rd_op ?_) | (with_reducible refine rd_un ?_)
  | (with_reducible refine rd_I0 ?_) | (with_reducible refine rd_U ?_) | (with_reducible refine rd_test ?_) | (with_reducible refine rd_B ?_) | (with_reducible refine rd_k ?_)
  | (with_reducible refine rd_not ?_) | (with_reducible refine rd_and ?_) | (with_reducible refine rd_or ?_) | (with_reducible refine rd_ifE ?_)
  | (with_reducible refine rd_par ?_) | ((with_reducible refine rd_par2 (σ' := ?ss) ?hs ?_); (case hs => (dsimp only [List.set]; exact rfl)))
  | (with_reducible refine rd_gsub ?_) | (with_reducible refine rd_andV ?_) | (with_reducible refine rd_orV ?_) | (with_reducible refine rd_notV ?_)
  | (with_reducible refine rd_lc ?_) | (with_reducible refine rd_iTup ?_) | (with_reducible refine rd_iList ?_) | (with_reducible refine rd_iRng1 ?_) | (with_reducible refine rd_iRng2 ?_) | (with_reducible refine rd_iEnumT ?_) | (with_reducible refine rd_iEnum ?_) | (with_reducible refine rd_iZipM ?_) | (with_reducible refine rd_iEnumS ?_) | (with_reducible refine rd_iKeys ?_) | (with_reducible refine rd_din ?_) | (with_reducible refine rd_dnotin ?_)
  | (with_reducible refine rd_yes ?_) | (with_reducible refine rd_true ?_) | (with_reducible refine rd_false ?_) | (with_reducible refine rd_m1 ?_) | (with_reducible refine rd_isS ?_)
  | ((with_reducible refine rd_eq ?hs ?_); (case hs => exact rfl)) | ((with_reducible refine rd_ne ?hs ?_); (case hs => exact rfl))
  | (with_reducible refine rd_listRg ?_) | (with_reducible refine rd_rg2 ?_) | (with_reducible refine rd_rgk ?_)
  | (with_reducible refine rd_dnew ?_) | (with_reducible refine rd_ddel ?_) | (with_reducible refine rd_kw ?_) | (with_reducible refine rd_callS ?_) | (with_reducible refine rd_dc ?_) | (with_reducible refine rd_for ?_) | (with_reducible refine rd_tru ?_) | (with_reducible refine rd_truI ?_)
  | (with_reducible refine rd_nil ?_) | (with_reducible refine rd_cons ?_) | (with_reducible refine rd_call ?_) | (with_reducible refine rd_cb ?_)
  | (with_reducible refine rd_tup ?_) | (with_reducible refine rd_lst ?_) | (with_reducible refine rd_dget ?_) | (with_reducible refine rd_dput ?_) | (with_reducible refine rd_dget2 ?_) | (with_reducible refine rd_sl ?_)
  | (with_reducible refine rd_nopart ?_) | (with_reducible refine rd_part ?_) | (with_reducible refine rd_parti ?_) | (with_reducible refine rd_bm ?_) | (with_reducible refine rd_bm0 ?_)
  | (with_reducible refine rd_int ?_) | (with_reducible refine rd_intb ?_) | (with_reducible refine rd_abs ?_) | (with_reducible refine rd_min2 ?_) | (with_reducible refine rd_max2 ?_))
local macro_rules | `(tactic| walk_at "rds") => `(tactic| repeat (walk_at "rd"))
local macro_rules | `(tactic| walk_at "rq") => `(tactic| first
  | (with_reducible refine rd_iItems ?_) | (with_reducible refine rd_sc2 ?_) | (with_reducible refine rd_lc2 ?_) | (with_reducible refine rd_iZipN ?_) | (with_reducible refine rd_iZipL ?_) | (with_reducible refine rd_revL ?_) | (with_reducible refine rd_lstZ ?_) | (with_reducible refine rd_iRev ?_)
  | (with_reducible refine rd_seq ?_) | (with_reducible refine rd_asg ?_) | (with_reducible refine rd_ret ?_) | (with_reducible refine rd_next ?_)
  | (with_reducible refine rd_drop ?_) | ((with_reducible refine rd_name (σ' := ?ss) ?hs ?_); (case hs => (dsimp only [List.set]; exact rfl)))
  | ((with_reducible refine rd_var (v := ?vv) ?hv ?_); (case hv => exact rfl)) | (with_reducible refine rd_c ?_) | (with_reducible refine rd_op ?_) | (with_reducible refine rd_un ?_)
  | (with_reducible refine rd_I0 ?_) | (with_reducible refine rd_U ?_) | (with_reducible refine rd_test ?_) | (with_reducible refine rd_B ?_) | (with_reducible refine rd_k ?_)
  | (with_reducible refine rd_not ?_) | (with_reducible refine rd_and ?_) | (with_reducible refine rd_or ?_) | (with_reducible refine rd_ifE ?_)
  | (with_reducible refine rd_par ?_) | ((with_reducible refine rd_par2 (σ' := ?ss) ?hs ?_); (case hs => (dsimp only [List.set]; exact rfl)))
  | (with_reducible refine rd_gsub ?_) | (with_reducible refine rd_andV ?_) | (with_reducible refine rd_orV ?_) | (with_reducible refine rd_notV ?_)
  | (with_reducible refine rd_lc ?_) | (with_reducible refine rd_iTup ?_) | (with_reducible refine rd_iList ?_) | (with_reducible refine rd_iRng1 ?_) | (with_reducible refine rd_iRng2 ?_) | (with_reducible refine rd_iEnumT ?_) | (with_reducible refine rd_iEnum ?_) | (with_reducible refine rd_iZipM ?_) | (with_reducible refine rd_iEnumS ?_) | (with_reducible refine rd_iKeys ?_) | (with_reducible refine rd_din ?_) | (with_reducible refine rd_dnotin ?_)
  | (with_reducible refine rd_yes ?_) | (with_reducible refine rd_true ?_) | (with_reducible refine rd_false ?_) | (with_reducible refine rd_m1 ?_) | (with_reducible refine rd_isS ?_)
  | ((with_reducible refine rd_eq ?hs ?_); (case hs => exact rfl)) | ((with_reducible refine rd_ne ?hs ?_); (case hs => exact rfl))
  | (with_reducible refine rd_listRg ?_) | (with_reducible refine rd_rg2 ?_) | (with_reducible refine rd_rgk ?_)
  | (with_reducible refine rd_dnew ?_) | (with_reducible refine rd_ddel ?_) | (with_reducible refine rd_kw ?_) | (with_reducible refine rd_callS ?_) | (with_reducible refine rd_dc ?_) | (with_reducible refine rd_for ?_) | (with_reducible refine rd_tru ?_) | (with_reducible refine rd_truI ?_)
  | (with_reducible refine rd_nil ?_) | (with_reducible refine rd_cons ?_) | (with_reducible refine rd_call ?_) | (with_reducible refine rd_cb ?_)
  | (with_reducible refine rd_tup ?_) | (with_reducible refine rd_lst ?_) | (with_reducible refine rd_dget ?_) | (with_reducible refine rd_dput ?_) | (with_reducible refine rd_dget2 ?_) | (with_reducible refine rd_sl ?_)
  | (with_reducible refine rd_nopart ?_) | (with_reducible refine rd_part ?_) | (with_reducible refine rd_parti ?_) | (with_reducible refine rd_bm ?_) | (with_reducible refine rd_bm0 ?_)
  | (with_reducible refine rd_int ?_) | (with_reducible refine rd_intb ?_) | (with_reducible refine rd_abs ?_) | (with_reducible refine rd_min2 ?_) | (with_reducible refine rd_max2 ?_))
local macro_rules | `(tactic| walk_at "rqs") => `(tactic| repeat (walk_at "rq"))
local macro_rules | `(tactic| walk_at "rv") => `(tactic| first
  | (with_reducible refine rd_iItems ?_) | (with_reducible refine rd_sc2 ?_) | (with_reducible refine rd_lc2 ?_) | (with_reducible refine rd_iZipN ?_) | (with_reducible refine rd_iZipL ?_) | (with_reducible refine rd_revL ?_) | (with_reducible refine rd_lstZ ?_) | (with_reducible refine rd_iRev ?_)
  | (with_reducible refine rd_seq ?_) | (with_reducible refine rd_asg ?_) | (with_reducible refine rd_ret ?_) | (with_reducible refine rd_next ?_)
  | (with_reducible refine rd_drop ?_) | ((with_reducible refine rd_name (σ' := ?ss) ?hs ?_); (case hs => (dsimp only [List.set]; exact rfl)))
  | ((with_reducible refine rd_var (v := ?vv) ?hv ?_); (case hv => exact rfl)) | (with_reducible refine rd_c ?_) | (with_reducible refine rd_op ?_) | (with_reducible refine rd_un ?_)
  | (with_reducible refine rd_I0 ?_) | (with_reducible refine rd_U ?_) | (with_reducible refine rd_test ?_) | (with_reducible refine rd_B ?_) | (with_reducible refine rd_k ?_)
  | (with_reducible refine rd_not ?_) | (with_reducible refine rd_and ?_) | (with_reducible refine rd_or ?_)
  | (with_reducible refine rd_par ?_) | ((with_reducible refine rd_par2 (σ' := ?ss) ?hs ?_); (case hs => (dsimp only [List.set]; exact rfl)))
  | (with_reducible refine rd_gsub ?_) | (with_reducible refine rd_andV ?_) | (with_reducible refine rd_orV ?_) | (with_reducible refine rd_notV ?_)
  | (with_reducible refine rd_lc ?_) | (with_reducible refine rd_iTup ?_) | (with_reducible refine rd_iList ?_) | (with_reducible refine rd_iRng1 ?_) | (with_reducible refine rd_iRng2 ?_) | (with_reducible refine rd_iEnumT ?_) | (with_reducible refine rd_iEnum ?_) | (with_reducible refine rd_iZipM ?_) | (with_reducible refine rd_iEnumS ?_) | (with_reducible refine rd_iKeys ?_) | (with_reducible refine rd_din ?_) | (with_reducible refine rd_dnotin ?_)
  | (with_reducible refine rd_yes ?_) | (with_reducible refine rd_true ?_) | (with_reducible refine rd_false ?_) | (with_reducible refine rd_m1 ?_) | (with_reducible refine rd_isS ?_)
  | ((with_reducible refine rd_eq ?hs ?_); (case hs => exact rfl)) | ((with_reducible refine rd_ne ?hs ?_); (case hs => exact rfl))
  | (with_reducible refine rd_listRg ?_) | (with_reducible refine rd_rg2 ?_) | (with_reducible refine rd_rgk ?_)
  | (with_reducible refine rd_dnew ?_) | (with_reducible refine rd_ddel ?_) | (with_reducible refine rd_kw ?_) | (with_reducible refine rd_callS ?_) | (with_reducible refine rd_dc ?_) | (with_reducible refine rd_for ?_) | (with_reducible refine rd_tru ?_) | (with_reducible refine rd_truI ?_)
  | (with_reducible refine rd_nil ?_) | (with_reducible refine rd_cons ?_) | (with_reducible refine rd_call ?_) | (with_reducible refine rd_cb ?_)
  | (with_reducible refine rd_tup ?_) | (with_reducible refine rd_lst ?_) | (with_reducible refine rd_dget ?_) | (with_reducible refine rd_dput ?_) | (with_reducible refine rd_dget2 ?_) | (with_reducible refine rd_sl ?_)
  | (with_reducible refine rd_nopart ?_) | (with_reducible refine rd_part ?_) | (with_reducible refine rd_parti ?_) | (with_reducible refine rd_bm ?_) | (with_reducible refine rd_bm0 ?_)
  | (with_reducible refine rd_int ?_) | (with_reducible refine rd_intb ?_) | (with_reducible refine rd_abs ?_) | (with_reducible refine rd_min2 ?_) | (with_reducible refine rd_max2 ?_))
local macro_rules | `(tactic| walk_at "rvs") => `(tactic| repeat (walk_at "rv"))

theorem rd_ifV {tt : TT} {te tz : TE} {σ : L2.St} {H : Hp} {Q : VK} (I : V → Hp → Prop) (h1 : ∀ Q' : VK, (∀ v H', I v H' → Q' v H') → tIf tt te tz σ H Q') (h : ∀ v H', I v H' → Q v H') : tIf tt te tz σ H Q := h1 Q h
theorem wd_letter {f : Fm} (c : V.str (wd f) = V.str "letter") : ∃ z, f = .letter z := by
  cases f with
  | letter z => exact ⟨z, rfl⟩
  | no f => exact absurd c (by simp only [wd]; decide)
  | conn b fs => exact absurd c (by cases b <;> (simp only [wd, cw]; decide))
  | same f g => exact absurd c (by simp only [wd]; decide)
  | quan b z f => exact absurd c (by cases b <;> (simp only [wd, qw]; decide))
/-- what a quantifier binds -/
def bdV : Fm → V
  | .quan _ z _ => .str z
  | _ => .non
def isQ : Fm → Bool
  | .quan _ _ _ => true
  | _ => false
theorem wd_quan (f : Fm) : inV (.str (wd f)) [V.str "each", .str "some"] = isQ f := by
  cases f with
  | letter z => simp only [wd, isQ]; decide
  | no f => simp only [wd, isQ]; decide
  | conn b fs => cases b <;> (simp only [wd, cw, isQ]; decide)
  | same f g => simp only [wd, isQ]; decide
  | quan b z f => cases b <;> (simp only [wd, qw, isQ]; decide)
mutual
theorem fvl_len : ∀ f : Fm, (fvl f).length ≤ nd f
  | .letter z => by rw [fvl, nd]; exact Nat.le_refl _
  | .no f => by have := fvl_len f; rw [fvl, nd]; omega
  | .conn b fs => by have := fvls_len fs; rw [fvl, nd]; omega
  | .same f g => by have := fvl_len f; have := fvl_len g; rw [fvl, nd, List.length_append]; omega
  | .quan b z f => by have := fvl_len f; have := List.length_filter_le (fun y => decide (y ≠ z)) (fvl f); rw [fvl, nd]; omega
theorem fvls_len : ∀ fs : List Fm, (fvls fs).length ≤ nds fs
  | [] => Nat.le_refl _
  | f :: t => by have := fvl_len f; have := fvls_len t; rw [fvls, nds, List.length_append]; omega
end
/-- free names by the parts -/
theorem fv_kids {f : Fm} (h : ∀ z, f ≠ .letter z) (y : Str) : (∃ i, i < (kids f).length ∧ y ∈ fvl ((kids f).getD i f) ∧ (!decide (V.str y = bdV f)) = true) ↔ y ∈ fvl f := by
  have key : (∃ i, i < (kids f).length ∧ y ∈ fvl ((kids f).getD i f)) ↔ ∃ g ∈ kids f, y ∈ fvl g := by
    constructor
    · rintro ⟨i, hi, hy⟩
      rw [List.getD_eq_getElem?_getD, List.getElem?_eq_getElem hi, Option.getD_some] at hy
      exact ⟨_, List.getElem_mem hi, hy⟩
    · rintro ⟨g, hg, hy⟩
      obtain ⟨i, hi, e⟩ := List.mem_iff_getElem.mp hg
      exact ⟨i, hi, by rw [List.getD_eq_getElem?_getD, List.getElem?_eq_getElem hi, Option.getD_some, e]; exact hy⟩
  have split : (∃ i, i < (kids f).length ∧ y ∈ fvl ((kids f).getD i f) ∧ (!decide (V.str y = bdV f)) = true) ↔ (∃ g ∈ kids f, y ∈ fvl g) ∧ (!decide (V.str y = bdV f)) = true := by
    rw [← key]
    constructor
    · rintro ⟨i, a, b, c⟩
      exact ⟨⟨i, a, b⟩, c⟩
    · rintro ⟨⟨i, a, b⟩, c⟩
      exact ⟨i, a, b, c⟩
  rw [split]
  cases f with
  | letter z => exact absurd rfl (h z)
  | no f => simp [kids, fvl, bdV]
  | conn b fs => simp [kids, fvl, bdV, fvls_map]
  | same f g => simp [kids, fvl, bdV]
  | quan b z f => simp [kids, fvl, bdV]
section
variable {P : Program} {w : World} {K : PySem.W.Frag} {mg : Str → Option Value} {base : Heap}
def spFree (K : PySem.W.Frag) (m : Nat) : Sp := fun vs H Q _ => ∃ (v : V) (f : Fm) (B : List Str), vs = [v] ∧ Dp K H v (dat f) ∧ dp f ≤ m ∧ nd f ≤ 1000 ∧ B.length ≤ 1000 ∧ (∀ z ∈ fvl f, z ∈ B) ∧
  ∀ (q : Addr) (ts : List Str) (H' : Hp), Evl.Ex H H' → SqT K H' q (ts.map V.str) → ts.Pairwise leS → ts.Nodup → (∀ z, z ∈ ts ↔ z ∈ fvl f) → Q (.ref q) H'
theorem ok_free1 {f fP jj nj qj : Addr} {fd fdP : FuncData} (F : Fun K "free_names" "free_names" sfree_names f fd) (T : Bl mg) (GL : Gls K mg jj nj qj) {m k : Nat} (hk : 1 ≤ k)
    (Gparts_of : FnOk P w K mg base CX0 1 fP fdP ["formula"] (spPartsOf K)) (Cparts_of : Callee K mg "parts_of" fP fdP ["formula"])
    (Gfree_names : FnOk P w K mg base CX0 k f fd ["formula"] (spFree K m)) (Cfree_names : Callee K mg "free_names" f fd ["formula"]) :
    FnOk P w K mg base CX0 (k + 1) f fd ["formula"] (spFree K (m + 1)) := by
  refine F.ok scfree_names (fun vs H Q E h => ?_) (fun cdv A outer s H vs Q E hr h => ?_)
  · obtain ⟨v, f, B, rfl, _⟩ := h
    rfl
  · obtain ⟨v, f, B, rfl, hv, hm, hn, hB, hfB, q⟩ := h
    refine ⟨_, (pss_cons (ps_if (pt_cmpR op_eq (pe_ix (ik_tup (K := K) rfl) (pv 0) pe_int (fun _ _ => rfl)) pe_str (nomark _)) (pss_one (ps_ret (pe_tup (pa_cons (pe_ix (ik_tup (K := K) rfl) (pv 0) pe_int (fun _ _ => rfl)) pa_nil)))) pss_nil)
 (pss_cons (ps_set (i := 1) scfree_names.nd rfl (Or.inr rfl) (pe_ifExp (pt_cmpR (ok_in (K := K) rfl) (pe_ix (ik_tup (K := K) rfl) (pv 0) pe_int (fun _ _ => rfl)) (pe_glob (v := .ref qj) (by rfl) GL.qm rfl) (by rfl)) (pe_ix (ik_tup (K := K) rfl) (pv 0) pe_int (fun _ _ => rfl)) pe_non))
 (pss_one (ps_ret (pe_callTy (c_tuple (K := K) rfl) (by rfl) T.tuple (by decide +kernel) (pa_cons (pe_callB (cr_sortedS rfl (Nat.lt_of_le_of_lt (Nat.add_le_add_left (by decide) _) hr.units)) (by rfl) T.sorted (by decide +kernel) (pa_cons (pe_sc2 (own := [("part", 2), ("name", 3)]) (vs1 := [3]) (g := gName 2) (g1 := gName 3) rfl scfree_names.nd (ik_tupI (K := K) rfl (pe_call Gparts_of (hr.mono hk) (by rfl) Cparts_of.m Cparts_of.k Cparts_of.b .nil pass0 (pa_cons (pv 0) pa_nil))) (blkOk_by (own := [("part", 2), ("name", 3)]) (N := ["formula", "bound", "part", "name"]) (sc := defScope sfree_names) (by decide +kernel)) (by decide) (fun _ _ _ _ _ => (pg_name (i := 2) scfree_names.nd rfl (Or.inl rfl))) (fun _ _ _ _ _ => pts_nil) (fun _ _ _ _ _ => (ik_tupI (K := K) rfl (pe_call Gfree_names hr (by rfl) Cfree_names.m Cfree_names.k Cfree_names.b .nil pass0 (pa_cons (pv 2) pa_nil)))) (fun _ _ _ _ _ => (pg_name (i := 3) scfree_names.nd rfl (Or.inl rfl))) (fun _ _ _ _ _ => (pts_one (pt_cmpR op_ne (pv 3) (pv 1) (nomark _)))) (fun _ _ _ _ _ => (pv 3))) pa_nil)) pa_nil)))))), ?_⟩
    refine rd_start (σ' := [some v, none, none, none]) rfl ?_
    obtain ⟨a, x, t, rfl, sa⟩ := dp_word hv
    walk_at "rqs"
    refine rd_ifI (fun σ' H' => σ' = [some (.ref a), none, none, none] ∧ H' = H ∧ ∀ z, f ≠ .letter z) (fun N kN => ?_) fun σ' H' hI => ?_
    · refine rd_if ?_
      walk_at "rds"
      refine rd_ixT (x := .str (wd f)) sa (atI_nat (j := 0) rfl) ?_
      walk_at "rds"
      refine rd_ite (fun c => ?_) (fun c => ?_)
      · obtain ⟨z, rfl⟩ := wd_letter c
        obtain ⟨a2, e2, sa2⟩ := dp_letter hv
        cases e2
        walk_at "rds"
        refine rd_ixT sa2 (atI_nat (j := 1) rfl) ?_
        walk_at "rds"
        refine ⟨(by show 1 ≤ sizeLine; decide), fun p hp => ?_⟩
        exact q p [z] _ (Evl.Ex.new hp) (SqT.of upd_same) (List.pairwise_singleton _ _) (List.nodup_cons.mpr ⟨List.not_mem_nil, List.nodup_nil⟩) fun y => by rw [fvl]
      · walk_at "rds"
        exact kN _ _ ⟨rfl, rfl, fun z e => c (by rw [e]; rfl)⟩
    obtain ⟨rfl, rfl, hnl⟩ := hI
    walk_at "rvs"
    refine rd_ifV (fun v H1 => v = bdV f ∧ H1 = H') (fun N kN => ?_) fun v H1 hv1 => ?_
    · walk_at "rds"
      refine rd_ixT (x := .str (wd f)) sa (atI_nat (j := 0) rfl) ?_
      walk_at "rds"
      refine rd_inS (zs := ["each", "some"]) (GL.qt _) ?_
      have hw := wd_quan f
      show ∃ k, V.bl (inV (.str (wd f)) [V.str "each", .str "some"]) = V.bl k ∧ _
      rw [hw]
      refine ⟨isQ f, rfl, ?_⟩
      cases hq : isQ f with
      | true =>
        rw [if_pos rfl]
        obtain ⟨b, z, g, rfl⟩ : ∃ b z g, f = .quan b z g := by
          cases f with
          | quan b z g => exact ⟨b, z, g, rfl⟩
          | letter z => cases hq
          | no g => cases hq
          | conn b fs => cases hq
          | same g g2 => cases hq
        obtain ⟨a2, x2, e2, sa2, hx2⟩ := dp_quan hv
        cases e2
        walk_at "rds"
        refine rd_ixT sa2 (atI_nat (j := 1) rfl) ?_
        exact kN _ _ ⟨rfl, rfl⟩
      | false =>
        rw [if_neg Bool.false_ne_true]
        have : bdV f = .non := by
          cases f with
          | quan b z g => cases hq
          | letter z => rfl
          | no g => rfl
          | conn b fs => rfl
          | same g g2 => rfl
        walk_at "rds"
        exact kN _ _ ⟨this.symm, rfl⟩
    obtain ⟨rfl, rfl⟩ := hv1
    walk_at "rvs"
    refine ⟨.ref a, f, rfl, hv, fun p xs H2 e2 sp hx => ?_⟩
    have lx : xs.length = (kids f).length := by rw [dps_len hx, dats_map, List.length_map]
    walk_at "rvs"
    refine rd_ref sp ?_
    refine sc2_tt (K := K) (P := P) (w := w) (fun i => fvl ((kids f).getD i f)) (fun y => !decide (V.str y = bdV f)) B (σx := fun x => [some (.ref a), some (bdV f), some x, none]) (σy := fun x y => [some (.ref a), some (bdV f), some x, some y])
      sp (by unfold scanBound; omega) (fun i hi z hz hc => hfB z ((fv_kids hnl z).mp ⟨i, by rw [← lx]; exact hi, hz, hc⟩)) (fun _ => rfl) (fun _ => rfl) (fun _ _ => rfl) (fun _ _ => rfl) (fun i x hi H3 R e3 kR => ?_) (fun x z H3 QB kQ => ?_) (fun x z H3 N kN => ?_) fun D l H3 e3 eD hD nd hl hmem => ?_
    · obtain ⟨g, hg, hdg⟩ := dps_get hx hi
      have hgm := List.mem_of_getElem? hg
      have hgi : (kids f).getD i f = g := by rw [List.getD_eq_getElem?_getD, hg] <;> rfl
      walk_at "rvs"
      refine ⟨x, g, fvl g, rfl, dpF_ex e3 hdg, kids_dp hm hgm, by have := kids_nd hgm; omega, ?_, fun z hz => hz, fun t ts H4 e4 st _ _ hts => ?_⟩
      · have := fvl_len g
        have := kids_nd hgm
        omega
      · walk_at "rvs"
        refine rd_ref st ?_
        exact kR t ts H4 e4 st (by rw [hgi]; exact hts)
    · walk_at "rds"
      refine rd_ne ?_ ?_
      · cases hb : bdV f with
        | str y => rfl
        | non => rfl
        | _ => cases f <;> cases hb
      · exact ⟨_, rfl, kQ⟩
    · walk_at "rds"
      exact kN
    walk_at "rvs"
    refine ⟨D, l, rfl, hD, nd, hl, fun ts u pm so hu => ?_⟩
    walk_at "rvs"
    refine rd_tupL (SqL.of upd_same) fun t2 ht2 => ?_
    have e4 := Evl.Ex.new (o := .lst (ts.map V.str)) hu
    have e5 := Evl.Ex.new (o := .tup (ts.map V.str)) ht2
    refine q t2 ts _ (e2.trans (e3.trans (e4.trans e5))) (SqT.of upd_same) so (pm.nodup_iff.mpr nd) fun z => ?_
    rw [pm.mem_iff, hmem, lx]
    exact fv_kids hnl z
theorem ok_free0 {f : Addr} {fd : FuncData} {k : Nat} : FnOk P w K mg base CX0 k f fd ["formula"] (spFree K 0) :=
  ⟨fun vs H Q E h => by
    obtain ⟨v, f, _, _, _, hm, _⟩ := h
    have := dp_pos f
    omega, fun A outer s H args us vs Q E hr e0 hb r hsp => by
    obtain ⟨v, f, _, _, _, hm, _⟩ := hsp
    have := dp_pos f
    omega⟩
theorem ok_free {f fP jj nj qj : Addr} {fd fdP : FuncData} (F : Fun K "free_names" "free_names" sfree_names f fd) (T : Bl mg) (GL : Gls K mg jj nj qj)
    (Gparts_of : FnOk P w K mg base CX0 1 fP fdP ["formula"] (spPartsOf K)) (Cparts_of : Callee K mg "parts_of" fP fdP ["formula"])
    (Cfree_names : Callee K mg "free_names" f fd ["formula"]) : ∀ m, FnOk P w K mg base CX0 (m + 1) f fd ["formula"] (spFree K m)
  | 0 => ok_free0
  | m + 1 => ok_free1 F T GL (by omega) Gparts_of Cparts_of (ok_free F T GL Gparts_of Cparts_of Cfree_names m) Cfree_names
end
end KA
set_option Elab.async false
set_option linter.all false
set_option maxRecDepth 100000
set_option maxHeartbeats 400000
set_option pp.maxSteps 300
namespace KA
open PySem PySem.Spec PyProof.Rows L2 Ea
abbrev swith_name : Stmt := topS 7
theorem scwith_name : FnScope ["masks", "size", "name", "wider", "other", "mask"] ["masks", "size", "name"] (defScope swith_name) :=
  ⟨rfl, rfl, rfl, by decide +kernel, rfl, by decide +kernel, by decide +kernel⟩
abbrev sin_all : Stmt := topS 9
theorem scin_all : FnScope ["found", "size", "worlds", "others"] ["found", "size"] (defScope sin_all) :=
  ⟨rfl, rfl, rfl, by decide +kernel, rfl, by decide +kernel, by decide +kernel⟩
abbrev sin_some : Stmt := topS 10
theorem scin_some : FnScope ["found", "worlds", "others"] ["found"] (defScope sin_some) :=
  ⟨rfl, rfl, rfl, by decide +kernel, rfl, by decide +kernel, by decide +kernel⟩
local macro_rules | `(tactic| walk_at "rd") => `(tactic| first
  | (with_reducible refine rd_iItems ?_) | (with_reducible refine rd_sc2 ?_) | (with_reducible refine rd_lc2 ?_) | (with_reducible refine rd_iZipN ?_) | (with_reducible refine rd_iZipL ?_) | (with_reducible refine rd_revL ?_) | (with_reducible refine rd_lstZ ?_) | (with_reducible refine rd_iRev ?_)
  | (with_reducible refine rd_seq ?_) | (with_reducible refine rd_asg ?_) | (with_reducible refine rd_if ?_) | (with_reducible refine rd_ret ?_) | (with_reducible refine rd_next ?_)
  | (with_reducible refine rd_drop ?_) | ((with_reducible refine rd_name (σ' := ?ss) ?hs ?_); (case hs => (dsimp only [List.set]; exact rfl)))
  | ((with_reducible refine rd_var (v := ?vv) ?hv ?_); (case hv => exact rfl)) | (with_reducible refine rd_c ?_) | (with_reducible refine rd_op ?_) | (with_reducible refine rd_un ?_)
  | (with_reducible refine rd_I0 ?_) | (with_reducible refine rd_U ?_) | (with_reducible refine rd_test ?_) | (with_reducible refine rd_B ?_) | (with_reducible refine rd_k ?_)
  | (with_reducible refine rd_not ?_) | (with_reducible refine rd_and ?_) | (with_reducible refine rd_or ?_) | (with_reducible refine rd_ifE ?_)
  | (with_reducible refine rd_par ?_) | ((with_reducible refine rd_par2 (σ' := ?ss) ?hs ?_); (case hs => (dsimp only [List.set]; exact rfl)))
  | (with_reducible refine rd_gsub ?_) | (with_reducible refine rd_andV ?_) | (with_reducible refine rd_orV ?_) | (with_reducible refine rd_notV ?_)
  | (with_reducible refine rd_lc ?_) | (with_reducible refine rd_iTup ?_) | (with_reducible refine rd_iList ?_) | (with_reducible refine rd_iRng1 ?_) | (with_reducible refine rd_iRng2 ?_) | (with_reducible refine rd_iEnumT ?_) | (with_reducible refine rd_iEnum ?_) | (with_reducible refine rd_iZipM ?_) | (with_reducible refine rd_iEnumS ?_) | (with_reducible refine rd_iKeys ?_) | (with_reducible refine rd_din ?_) | (with_reducible refine rd_dnotin ?_)
  | (with_reducible refine rd_yes ?_) | (with_reducible refine rd_true ?_) | (with_reducible refine rd_false ?_) | (with_reducible refine rd_m1 ?_) | (with_reducible refine rd_isS ?_)
  | ((with_reducible refine rd_eq ?hs ?_); (case hs => exact rfl)) | ((with_reducible refine rd_ne ?hs ?_); (case hs => exact rfl))
  | (with_reducible refine rd_listRg ?_) | (with_reducible refine rd_rg2 ?_) | (with_reducible refine rd_rgk ?_)
  | (with_reducible refine rd_dnew ?_) | (with_reducible refine rd_ddel ?_) | (with_reducible refine rd_kw ?_) | (with_reducible refine rd_callS ?_) | (with_reducible refine rd_dc ?_) | (with_reducible refine rd_for ?_) | (with_reducible refine rd_tru ?_) | (with_reducible refine rd_truI ?_)
  | (with_reducible refine rd_nil ?_) | (with_reducible refine rd_cons ?_) | (with_reducible refine rd_call ?_) | (with_reducible refine rd_cb ?_)
  | (with_reducible refine rd_tup ?_) | (with_reducible refine rd_lst ?_) | (with_reducible refine rd_dget ?_) | (with_reducible refine rd_dput ?_) | (with_reducible refine rd_dget2 ?_) | (with_reducible refine rd_sl ?_)
  | (with_reducible refine rd_nopart ?_) | (with_reducible refine rd_part ?_) | (with_reducible refine rd_parti ?_) | (with_reducible refine rd_bm ?_) | (with_reducible refine rd_bm0 ?_)
  | (with_reducible refine rd_int ?_) | (with_reducible refine rd_intb ?_) | (with_reducible refine rd_abs ?_) | (with_reducible refine rd_min2 ?_) | (with_reducible refine rd_max2 ?_))
local macro_rules | `(tactic| walk_at "rds") => `(tactic| repeat (walk_at "rd"))
local macro_rules | `(tactic| walk_at "rq") => `(tactic| first
  | (with_reducible refine rd_iItems ?_) | (with_reducible refine rd_sc2 ?_) | (with_reducible refine rd_lc2 ?_) | (with_reducible refine rd_iZipN ?_) | (with_reducible refine rd_iZipL ?_) | (with_reducible refine rd_revL ?_) | (with_reducible refine rd_lstZ ?_) | (with_reducible refine rd_iRev ?_)
  | (with_reducible refine rd_seq ?_) | (with_reducible refine rd_asg ?_) | (with_reducible refine rd_ret ?_) | (with_reducible refine rd_next ?_)
  | (with_reducible refine rd_drop ?_) | ((with_reducible refine rd_name (σ' := ?ss) ?hs ?_); (case hs => (dsimp only [List.set]; exact rfl)))
  | ((with_reducible refine rd_var (v := ?vv) ?hv ?_); (case hv => exact rfl)) | (with_reducible refine rd_c ?_) | (with_reducible refine rd_op ?_) | (with_reducible refine rd_un ?_)
  | (with_reducible refine rd_I0 ?_) | (with_reducible refine rd_U ?_) | (with_reducible refine rd_test ?_) | (with_reducible refine rd_B ?_) | (with_reducible refine rd_k ?_)
  | (with_reducible refine rd_not ?_) | (with_reducible refine rd_and ?_) | (with_reducible refine rd_or ?_) | (with_reducible refine rd_ifE ?_)
  | (with_reducible refine rd_par ?_) | ((with_reducible refine rd_par2 (σ' := ?ss) ?hs ?_); (case hs => (dsimp only [List.set]; exact rfl)))
  | (with_reducible refine rd_gsub ?_) | (with_reducible refine rd_andV ?_) | (with_reducible refine rd_orV ?_) | (with_reducible refine rd_notV ?_)
  | (with_reducible refine rd_lc ?_) | (with_reducible refine rd_iTup ?_) | (with_reducible refine rd_iList ?_) | (with_reducible refine rd_iRng1 ?_) | (with_reducible refine rd_iRng2 ?_) | (with_reducible refine rd_iEnumT ?_) | (with_reducible refine rd_iEnum ?_) | (with_reducible refine rd_iZipM ?_) | (with_reducible refine rd_iEnumS ?_) | (with_reducible refine rd_iKeys ?_) | (with_reducible refine rd_din ?_) | (with_reducible refine rd_dnotin ?_)
  | (with_reducible refine rd_yes ?_) | (with_reducible refine rd_true ?_) | (with_reducible refine rd_false ?_) | (with_reducible refine rd_m1 ?_) | (with_reducible refine rd_isS ?_)
  | ((with_reducible refine rd_eq ?hs ?_); (case hs => exact rfl)) | ((with_reducible refine rd_ne ?hs ?_); (case hs => exact rfl))
  | (with_reducible refine rd_listRg ?_) | (with_reducible refine rd_rg2 ?_) | (with_reducible refine rd_rgk ?_)
  | (with_reducible refine rd_dnew ?_) | (with_reducible refine rd_ddel ?_) | (with_reducible refine rd_kw ?_) | (with_reducible refine rd_callS ?_) | (with_reducible refine rd_dc ?_) | (with_reducible refine rd_for ?_) | (with_reducible refine rd_tru ?_) | (with_reducible refine rd_truI ?_)
  | (with_reducible refine rd_nil ?_) | (with_reducible refine rd_cons ?_) | (with_reducible refine rd_call ?_) | (with_reducible refine rd_cb ?_)
  | (with_reducible refine rd_tup ?_) | (with_reducible refine rd_lst ?_) | (with_reducible refine rd_dget ?_) | (with_reducible refine rd_dput ?_) | (with_reducible refine rd_dget2 ?_) | (with_reducible refine rd_sl ?_)
  | (with_reducible refine rd_nopart ?_) | (with_reducible refine rd_part ?_) | (with_reducible refine rd_parti ?_) | (with_reducible refine rd_bm ?_) | (with_reducible refine rd_bm0 ?_)
  | (with_reducible refine rd_int ?_) | (with_reducible refine rd_intb ?_) | (with_reducible refine rd_abs ?_) | (with_reducible refine rd_min2 ?_) | (with_reducible refine rd_max2 ?_))
local macro_rules | `(tactic| walk_at "rqs") => `(tactic| repeat (walk_at "rq"))
local macro_rules | `(tactic| walk_at "rv") => `(tactic| first
  | (with_reducible refine rd_iItems ?_) | (with_reducible refine rd_sc2 ?_) | (with_reducible refine rd_lc2 ?_) | (with_reducible refine rd_iZipN ?_) | (with_reducible refine rd_iZipL ?_) | (with_reducible refine rd_revL ?_) | (with_reducible refine rd_lstZ ?_) | (with_reducible refine rd_iRev ?_)
  | (with_reducible refine rd_seq ?_) | (with_reducible refine rd_asg ?_) | (with_reducible refine rd_ret ?_) | (with_reducible refine rd_next ?_)
  | (with_reducible refine rd_drop ?_) | ((with_reducible refine rd_name (σ' := ?ss) ?hs ?_); (case hs => (dsimp only [List.set]; exact rfl)))
  | ((with_reducible refine rd_var (v := ?vv) ?hv ?_); (case hv => exact rfl)) | (with_reducible refine rd_c ?_) | (with_reducible refine rd_op ?_) | (with_reducible refine rd_un ?_)
  | (with_reducible refine rd_I0 ?_) | (with_reducible refine rd_U ?_) | (with_reducible refine rd_test ?_) | (with_reducible refine rd_B ?_) | (with_reducible refine rd_k ?_)
  | (with_reducible refine rd_not ?_) | (with_reducible refine rd_and ?_) | (with_reducible refine rd_or ?_)
  | (with_reducible refine rd_par ?_) | ((with_reducible refine rd_par2 (σ' := ?ss) ?hs ?_); (case hs => (dsimp only [List.set]; exact rfl)))
  | (with_reducible refine rd_gsub ?_) | (with_reducible refine rd_andV ?_) | (with_reducible refine rd_orV ?_) | (with_reducible refine rd_notV ?_)
  | (with_reducible refine rd_lc ?_) | (with_reducible refine rd_iTup ?_) | (with_reducible refine rd_iList ?_) | (with_reducible refine rd_iRng1 ?_) | (with_reducible refine rd_iRng2 ?_) | (with_reducible refine rd_iEnumT ?_) | (with_reducible refine rd_iEnum ?_) | (with_reducible refine rd_iZipM ?_) | (with_reducible refine rd_iEnumS ?_) | (with_reducible refine rd_iKeys ?_) | (with_reducible refine rd_din ?_) | (with_reducible refine rd_dnotin ?_)
  | (with_reducible refine rd_yes ?_) | (with_reducible refine rd_true ?_) | (with_reducible refine rd_false ?_) | (with_reducible refine rd_m1 ?_) | (with_reducible refine rd_isS ?_)
  | ((with_reducible refine rd_eq ?hs ?_); (case hs => exact rfl)) | ((with_reducible refine rd_ne ?hs ?_); (case hs => exact rfl))
  | (with_reducible refine rd_listRg ?_) | (with_reducible refine rd_rg2 ?_) | (with_reducible refine rd_rgk ?_)
  | (with_reducible refine rd_dnew ?_) | (with_reducible refine rd_ddel ?_) | (with_reducible refine rd_kw ?_) | (with_reducible refine rd_callS ?_) | (with_reducible refine rd_dc ?_) | (with_reducible refine rd_for ?_) | (with_reducible refine rd_tru ?_) | (with_reducible refine rd_truI ?_)
  | (with_reducible refine rd_nil ?_) | (with_reducible refine rd_cons ?_) | (with_reducible refine rd_call ?_) | (with_reducible refine rd_cb ?_)
  | (with_reducible refine rd_tup ?_) | (with_reducible refine rd_lst ?_) | (with_reducible refine rd_dget ?_) | (with_reducible refine rd_dput ?_) | (with_reducible refine rd_dget2 ?_) | (with_reducible refine rd_sl ?_)
  | (with_reducible refine rd_nopart ?_) | (with_reducible refine rd_part ?_) | (with_reducible refine rd_parti ?_) | (with_reducible refine rd_bm ?_) | (with_reducible refine rd_bm0 ?_)
  | (with_reducible refine rd_int ?_) | (with_reducible refine rd_intb ?_) | (with_reducible refine rd_abs ?_) | (with_reducible refine rd_min2 ?_) | (with_reducible refine rd_max2 ?_))
local macro_rules | `(tactic| walk_at "rvs") => `(tactic| repeat (walk_at "rv"))

/-- a walk over a tuple or a list -/
def iOr (w1 w2 : TI) : TI := fun σ H R => w1 σ H R ∨ w2 σ H R
theorem pi_or {X : Cx} {tg e : Expr} {w1 w2 : TI} (h1 : PI X tg e w1) (h2 : PI X tg e w2) : PI X tg e (iOr w1 w2) :=
  ⟨fun pins s σ H R I h => h.elim (h1.run pins s σ H R I) (h2.run pins s σ H R I)⟩
abbrev nV (m : Nat) : V := .int (m : Int)
def wideV (n : Nat) : V → V
  | .int i => .int ((i.toNat ||| i.toNat <<< n : Nat) : Int)
  | v => v
theorem unlock_ex {H H2 : Hp} {D : Addr} {u f : HO} (h : H D = some u) (e : Evl.Ex (upd H D f) H2) : Evl.Ex H (upd H2 D u) := fun a o ha => by
  by_cases c : a = D
  · subst c
    rw [upd_same, ← ha, h]
  · rw [upd_ne c]
    exact e a o (by rw [upd_ne c]; exact ha)
/-- masks of names -/
def MkOf (kvs : List (Key × V)) (M : Str → Option Nat) : Prop := DicOf kvs fun z => (M z).map nV
def widen (M : Str → Option Nat) (n : Nat) (x : Str) : Str → Option Nat := fun z => if z = x then some (2 ^ n - 1) else (M z).map fun m => m ||| m <<< n
theorem full_sub (n : Nat) : ((2 ^ n : Nat) : Int) - 1 = ((2 ^ n - 1 : Nat) : Int) := by
  have := Nat.one_le_two_pow (n := n)
  omega
theorem full_bit (n w : Nat) : (2 ^ n - 1).testBit w = decide (w < n) := Nat.testBit_two_pow_sub_one n w
theorem full_lt (n : Nat) : 2 ^ n - 1 < 2 ^ n := by
  have := Nat.one_le_two_pow (n := n)
  omega
def allB (n : Nat) (rs : List Nat) : Nat := rs.foldl (· &&& ·) (2 ^ n - 1)
def someB (rs : List Nat) : Nat := rs.foldl (· ||| ·) 0
def parB (n : Nat) (rs : List Nat) : Nat := rs.foldl (· ^^^ ·) (2 ^ n - 1)
theorem fold_and (i : Nat) : ∀ (rs : List Nat) (a : Nat), (rs.foldl (· &&& ·) a).testBit i = (a.testBit i && rs.all fun r => r.testBit i)
  | [], a => by simp
  | r :: t, a => by rw [List.foldl_cons, fold_and i t, Nat.testBit_and, List.all_cons, Bool.and_assoc]
theorem fold_or (i : Nat) : ∀ (rs : List Nat) (a : Nat), (rs.foldl (· ||| ·) a).testBit i = (a.testBit i || rs.any fun r => r.testBit i)
  | [], a => by simp
  | r :: t, a => by rw [List.foldl_cons, fold_or i t, Nat.testBit_or, List.any_cons, Bool.or_assoc]
theorem allB_bit {n i : Nat} (hi : i < n) (rs : List Nat) : (allB n rs).testBit i = rs.all fun r => r.testBit i := by
  unfold allB
  rw [fold_and, full_bit, decide_eq_true hi, Bool.true_and]
theorem allB_lt (n : Nat) (rs : List Nat) : allB n rs < 2 ^ n := Nat.lt_pow_two_of_testBit _ fun w hw => by
  unfold allB
  rw [fold_and, full_bit, decide_eq_false (by omega), Bool.false_and]
theorem someB_bit (i : Nat) (rs : List Nat) : (someB rs).testBit i = rs.any fun r => r.testBit i := by
  unfold someB
  rw [fold_or, Nat.zero_testBit, Bool.false_or]
theorem someB_lt {n : Nat} {rs : List Nat} (h : ∀ r ∈ rs, r < 2 ^ n) : someB rs < 2 ^ n := Nat.lt_pow_two_of_testBit _ fun w hw => by
  rw [someB_bit, List.any_eq_false]
  intro r hr
  rw [Nat.testBit_lt_two_pow (Nat.lt_of_lt_of_le (h r hr) (Nat.pow_le_pow_right (by decide) hw))]
  decide
section
variable {P : Program} {w : World} {K : PySem.W.Frag} {mg : Str → Option Value} {base : Heap}
def spWith : Sp := fun vs H Q _ => ∃ (D : Addr) (kvs : List (Key × V)) (M : Str → Option Nat) (n : Nat) (x : Str), vs = [.ref D, .int (n : Int), .str x] ∧ H D = some (.dK kvs) ∧ kvs.length ≤ 1000 ∧ MkOf kvs M ∧ (∀ z m, M z = some m → m < 2 ^ n) ∧ n ≤ 100000 ∧
  ∀ (D' : Addr) (kvs' : List (Key × V)) (H' : Hp), Evl.Ex H H' → H' D' = some (.dK kvs') → kvs'.length ≤ kvs.length + 1 → MkOf kvs' (widen M n x) → Q (.ref D') H'
theorem ok_with {f : Addr} {fd : FuncData} (F : Fun K "with_name" "with_name" swith_name f fd) (T : Bl mg) : FnOk P w K mg base CX0 1 f fd ["masks", "size", "name"] spWith := by
  refine F.ok scwith_name (fun vs H Q E h => ?_) (fun cdv A outer s H vs Q E hr h => ?_)
  · obtain ⟨D, kvs, M, n, x, rfl, _⟩ := h
    rfl
  · obtain ⟨D, kvs, M, n, x, rfl, hD, hl, hM, hb, hn, q⟩ := h
    refine ⟨_, (pss_cons (ps_lock (ps_setDc (i := 3) (own := [("other", 4), ("mask", 5)]) (g := gTup K 2 (gCons (gName 4) (gCons (gName 5) gNil))) rfl scwith_name.nd rfl rfl (swD_true rfl rfl rfl (by decide +kernel)) (pi_items (pv 0)) (blkOk_by (own := [("other", 4), ("mask", 5)]) (N := ["masks", "size", "name", "wider", "other", "mask"]) (sc := defScope swith_name) (by decide +kernel)) (fun _ _ _ _ _ => (pgk_tup (K := K) rfl rfl (pgs_cons (pg_name (i := 4) scwith_name.nd rfl (Or.inl rfl)) (pgs_cons (pg_name (i := 5) scwith_name.nd rfl (Or.inl rfl)) pgs_nil)))) (fun _ _ _ _ _ => pts_nil) (fun _ _ _ _ _ => (pv 4)) (fun _ _ _ _ _ => (pe_op op_or (pv 5) (pe_op op_shlW (pv 5) (pv 1))))))
 (pss_cons (ps_dput (hu_of hr) (pv 3) (pv 2) (pe_op op_sub (pe_op op_shlW pe_int (pv 1)) pe_int) rfl)
 (pss_one (ps_ret (pv 3))))), ?_⟩
    refine rd_start (σ' := [some (.ref D), some (.int (n : Int)), some (.str x), none, none, none]) rfl ?_
    walk_at "rds"
    refine ⟨D, .dK kvs, hD, True.intro, fun od => ?_⟩
    walk_at "rds"
    refine ⟨D, od, kvs, rfl, upd_same, ?_⟩
    refine dc_items rfl (fun _ => wideV n) upd_same hM (by omega) (σx := fun y v => [some (.ref D), some (.int (n : Int)), some (.str x), none, some y, some v]) (fun _ _ => rfl) (fun _ _ => rfl) (fun z v hv H' N ex kN => ?_) fun D2 kvs2 H2 e2 hD2 hd2 hl2 hM2 => ?_
    · obtain ⟨m, hm, rfl⟩ := Option.map_eq_some_iff.mp hv
      walk_at "rds"
      refine rd_shl n rfl rfl (hb z m hm) (by omega) ?_
      walk_at "rds"
      rw [bOr]
      exact kN H' (Evl.Ex.refl _)
    have nD : D2 ≠ D := fun e => by
      rw [e, upd_same] at hD2
      cases hD2
    have hDn : H D2 = none := by rw [← hD2, upd_ne nD]
    refine rd_name (σ' := [some (.ref D), some (.int (n : Int)), some (.str x), some (.ref D2), none, none]) rfl ?_
    refine ⟨e2 _ _ upd_same, ?_⟩
    have e3 := unlock_ex hD e2
    have hd3 : (upd H2 D (.dK kvs)) D2 = some (.dK kvs2) := by rw [upd_ne nD]; exact hd2
    dsimp only
    walk_at "rds"
    refine rd_shl1 rfl (by omega) ?_
    walk_at "rds"
    rw [full_sub]
    refine ⟨D2, _, rfl, DPut.k (k := .inr x) hd3 (by rw [sizeLine_eq]; omega), ?_⟩
    walk_at "rds"
    have hl3 := length_putK kvs2 (.inr x) (V.int ((2 ^ n - 1 : Nat) : Int))
    refine q D2 _ _ (Evl.Ex.mut e3 hDn) upd_same (by omega) ((hM2.put x (nV (2 ^ n - 1))).congr fun z => ?_)
    unfold widen
    by_cases c : z = x
    · rw [if_pos c, if_pos c] <;> rfl
    · rw [if_neg c, if_neg c]
      cases M z <;> rfl
def spInAll (K : PySem.W.Frag) : Sp := fun vs H Q _ => ∃ (S : Addr) (rs : List Nat) (n : Nat), vs = [.ref S, .int (n : Int)] ∧ (SqT K H S (rs.map nV) ∨ SqL K H S (rs.map nV)) ∧ rs.length ≤ 20000 ∧ n ≤ 100000 ∧ Q (.int (allB n rs : Nat)) H
theorem ok_inall {f : Addr} {fd : FuncData} (F : Fun K "in_all" "in_all" sin_all f fd) (T : Bl mg) : FnOk P w K mg base CX0 1 f fd ["found", "size"] (spInAll K) := by
  refine F.ok scin_all (fun vs H Q E h => ?_) (fun cdv A outer s H vs Q E hr h => ?_)
  · obtain ⟨S, rs, n, rfl, _⟩ := h
    rfl
  · obtain ⟨S, rs, n, rfl, hS, hz, hn, q⟩ := h
    refine ⟨_, (pss_cons (ps_set (i := 2) scin_all.nd rfl (Or.inl rfl) (pe_op op_sub (pe_op op_shlW pe_int (pv 1)) pe_int))
 (pss_cons (ps_for PassesOwn.never rfl (pi_or (ik_tupI (K := K) rfl (pv 0)) (ik_listI (K := K) rfl (pv 0))) (pg_name (i := 3) scin_all.nd rfl (Or.inl rfl)) (pss_one (ps_set (i := 2) scin_all.nd rfl (Or.inl rfl) (pe_op op_and (pv 2) (pv 3)))))
 (pss_one (ps_ret (pv 2))))), ?_⟩
    refine rd_start (σ' := [some (.ref S), some (.int (n : Int)), none, none]) rfl ?_
    walk_at "rds"
    refine rd_shl1 rfl (by omega) ?_
    walk_at "rds"
    rw [full_sub]
    have step : ∀ i r, rs[i]? = some r → (rs.take (i + 1)).foldl (· &&& ·) (2 ^ n - 1) = (rs.take i).foldl (· &&& ·) (2 ^ n - 1) &&& r := fun i r h => by
      rw [List.take_add_one, h, List.foldl_append] <;> rfl
    rcases hS with hS | hS
    · refine .inl ?_
      walk_at "rds"
      refine rd_ref hS ?_
      refine fr_tup (xs := rs.map nV) (fun i σ' H' => ∃ o : Option V, σ' = [some (.ref S), some (.int (n : Int)), some (.int (((rs.take i).foldl (· &&& ·) (2 ^ n - 1) : Nat) : Int)), o] ∧ H' = H) ⟨none, rfl, rfl⟩ (fun i σ' H' _ ⟨_, _, e⟩ => by rw [e]; exact hS) (fun i x σ' H' hi hP => ?_) fun σ' H' hP => ?_
      · obtain ⟨o, rfl, rfl⟩ := hP
        rw [List.getElem?_map] at hi
        obtain ⟨r, hr2, rfl⟩ := Option.map_eq_some_iff.mp hi
        refine rd_start (σ' := [some (.ref S), some (.int (n : Int)), some (.int (((rs.take i).foldl (· &&& ·) (2 ^ n - 1) : Nat) : Int)), some (.int (r : Int))]) rfl ?_
        walk_at "rds"
        rw [bAnd]
        exact ⟨_, by rw [step i r hr2], rfl⟩
      · obtain ⟨o, rfl, rfl⟩ := hP
        rw [List.length_map, List.take_length]
        walk_at "rds"
        exact q
    · refine .inr ?_
      walk_at "rds"
      refine rd_refL hS ?_
      refine fr_list (xs := rs.map nV) (fun i σ' H' => ∃ o : Option V, σ' = [some (.ref S), some (.int (n : Int)), some (.int (((rs.take i).foldl (· &&& ·) (2 ^ n - 1) : Nat) : Int)), o] ∧ H' = H) ⟨none, rfl, rfl⟩ (fun i σ' H' _ ⟨_, _, e⟩ => by rw [e]; exact hS) (fun i x σ' H' hi hP => ?_) fun σ' H' hP => ?_
      · obtain ⟨o, rfl, rfl⟩ := hP
        rw [List.getElem?_map] at hi
        obtain ⟨r, hr2, rfl⟩ := Option.map_eq_some_iff.mp hi
        refine rd_start (σ' := [some (.ref S), some (.int (n : Int)), some (.int (((rs.take i).foldl (· &&& ·) (2 ^ n - 1) : Nat) : Int)), some (.int (r : Int))]) rfl ?_
        walk_at "rds"
        rw [bAnd]
        exact ⟨_, by rw [step i r hr2], rfl⟩
      · obtain ⟨o, rfl, rfl⟩ := hP
        rw [List.length_map, List.take_length]
        walk_at "rds"
        exact q
def spInSome (K : PySem.W.Frag) : Sp := fun vs H Q _ => ∃ (S : Addr) (rs : List Nat), vs = [.ref S] ∧ (SqT K H S (rs.map nV) ∨ SqL K H S (rs.map nV)) ∧ rs.length ≤ 20000 ∧ Q (.int (someB rs : Nat)) H
theorem ok_insome {f : Addr} {fd : FuncData} (F : Fun K "in_some" "in_some" sin_some f fd) (T : Bl mg) : FnOk P w K mg base CX0 1 f fd ["found"] (spInSome K) := by
  refine F.ok scin_some (fun vs H Q E h => ?_) (fun cdv A outer s H vs Q E hr h => ?_)
  · obtain ⟨S, rs, rfl, _⟩ := h
    rfl
  · obtain ⟨S, rs, rfl, hS, hz, q⟩ := h
    refine ⟨_, (pss_cons (ps_set (i := 1) scin_some.nd rfl (Or.inl rfl) pe_int)
 (pss_cons (ps_for PassesOwn.never rfl (pi_or (ik_tupI (K := K) rfl (pv 0)) (ik_listI (K := K) rfl (pv 0))) (pg_name (i := 2) scin_some.nd rfl (Or.inl rfl)) (pss_one (ps_set (i := 1) scin_some.nd rfl (Or.inl rfl) (pe_op op_or (pv 1) (pv 2)))))
 (pss_one (ps_ret (pv 1))))), ?_⟩
    refine rd_start (σ' := [some (.ref S), none, none]) rfl ?_
    walk_at "rds"
    have step : ∀ i r, rs[i]? = some r → (rs.take (i + 1)).foldl (· ||| ·) 0 = (rs.take i).foldl (· ||| ·) 0 ||| r := fun i r h => by
      rw [List.take_add_one, h, List.foldl_append] <;> rfl
    rcases hS with hS | hS
    · refine .inl ?_
      walk_at "rds"
      refine rd_ref hS ?_
      refine fr_tup (xs := rs.map nV) (fun i σ' H' => ∃ o : Option V, σ' = [some (.ref S), some (.int (((rs.take i).foldl (· ||| ·) 0 : Nat) : Int)), o] ∧ H' = H) ⟨none, rfl, rfl⟩ (fun i σ' H' _ ⟨_, _, e⟩ => by rw [e]; exact hS) (fun i x σ' H' hi hP => ?_) fun σ' H' hP => ?_
      · obtain ⟨o, rfl, rfl⟩ := hP
        rw [List.getElem?_map] at hi
        obtain ⟨r, hr2, rfl⟩ := Option.map_eq_some_iff.mp hi
        refine rd_start (σ' := [some (.ref S), some (.int (((rs.take i).foldl (· ||| ·) 0 : Nat) : Int)), some (.int (r : Int))]) rfl ?_
        walk_at "rds"
        rw [bOr]
        exact ⟨_, by rw [step i r hr2], rfl⟩
      · obtain ⟨o, rfl, rfl⟩ := hP
        rw [List.length_map, List.take_length]
        walk_at "rds"
        exact q
    · refine .inr ?_
      walk_at "rds"
      refine rd_refL hS ?_
      refine fr_list (xs := rs.map nV) (fun i σ' H' => ∃ o : Option V, σ' = [some (.ref S), some (.int (((rs.take i).foldl (· ||| ·) 0 : Nat) : Int)), o] ∧ H' = H) ⟨none, rfl, rfl⟩ (fun i σ' H' _ ⟨_, _, e⟩ => by rw [e]; exact hS) (fun i x σ' H' hi hP => ?_) fun σ' H' hP => ?_
      · obtain ⟨o, rfl, rfl⟩ := hP
        rw [List.getElem?_map] at hi
        obtain ⟨r, hr2, rfl⟩ := Option.map_eq_some_iff.mp hi
        refine rd_start (σ' := [some (.ref S), some (.int (((rs.take i).foldl (· ||| ·) 0 : Nat) : Int)), some (.int (r : Int))]) rfl ?_
        walk_at "rds"
        rw [bOr]
        exact ⟨_, by rw [step i r hr2], rfl⟩
      · obtain ⟨o, rfl, rfl⟩ := hP
        rw [List.length_map, List.take_length]
        walk_at "rds"
        exact q
end
end KA
set_option Elab.async false
set_option linter.all false
set_option maxRecDepth 100000
set_option maxHeartbeats 400000
set_option pp.maxSteps 300
namespace KA
open PySem PySem.Spec PyProof.Rows L2 Ea
abbrev swhere_quantified : Stmt := topS 11
theorem scwhere_quantified : FnScope ["formula", "masks", "size", "inner", "halves"] ["formula", "masks", "size"] (defScope swhere_quantified) :=
  ⟨rfl, rfl, rfl, by decide +kernel, rfl, by decide +kernel, by decide +kernel⟩
abbrev swhere_holding : Stmt := topS 12
theorem scwhere_holding : FnScope ["formula", "masks", "size", "word", "found", "worlds", "others", "part"] ["formula", "masks", "size"] (defScope swhere_holding) :=
  ⟨rfl, rfl, rfl, by decide +kernel, rfl, by decide +kernel, by decide +kernel⟩
local macro_rules | `(tactic| walk_at "rd") => `(tactic| first
  | (with_reducible refine rd_iItems ?_) | (with_reducible refine rd_sc2 ?_) | (with_reducible refine rd_lc2 ?_) | (with_reducible refine rd_iZipN ?_) | (with_reducible refine rd_iZipL ?_) | (with_reducible refine rd_revL ?_) | (with_reducible refine rd_lstZ ?_) | (with_reducible refine rd_iRev ?_)
  | (with_reducible refine rd_seq ?_) | (with_reducible refine rd_asg ?_) | (with_reducible refine rd_if ?_) | (with_reducible refine rd_ret ?_) | (with_reducible refine rd_next ?_)
  | (with_reducible refine rd_drop ?_) | ((with_reducible refine rd_name (σ' := ?ss) ?hs ?_); (case hs => (dsimp only [List.set]; exact rfl)))
  | ((with_reducible refine rd_var (v := ?vv) ?hv ?_); (case hv => exact rfl)) | (with_reducible refine rd_c ?_) | (with_reducible refine rd_op ?_) | (with_reducible refine rd_un ?_)
  | (with_reducible refine rd_I0 ?_) | (with_reducible refine rd_U ?_) | (with_reducible refine rd_test ?_) | (with_reducible refine rd_B ?_) | (with_reducible refine rd_k ?_)
  | (with_reducible refine rd_not ?_) | (with_reducible refine rd_and ?_) | (with_reducible refine rd_or ?_) | (with_reducible refine rd_ifE ?_)
  | (with_reducible refine rd_par ?_) | ((with_reducible refine rd_par2 (σ' := ?ss) ?hs ?_); (case hs => (dsimp only [List.set]; exact rfl)))
  | (with_reducible refine rd_gsub ?_) | (with_reducible refine rd_andV ?_) | (with_reducible refine rd_orV ?_) | (with_reducible refine rd_notV ?_)
  | (with_reducible refine rd_lc ?_) | (with_reducible refine rd_iTup ?_) | (with_reducible refine rd_iList ?_) | (with_reducible refine rd_iRng1 ?_) | (with_reducible refine rd_iRng2 ?_) | (with_reducible refine rd_iEnumT ?_) | (with_reducible refine rd_iEnum ?_) | (with_reducible refine rd_iZipM ?_) | (with_reducible refine rd_iEnumS ?_) | (with_reducible refine rd_iKeys ?_) | (with_reducible refine rd_din ?_) | (with_reducible refine rd_dnotin ?_)
  | (with_reducible refine rd_yes ?_) | (with_reducible refine rd_true ?_) | (with_reducible refine rd_false ?_) | (with_reducible refine rd_m1 ?_) | (with_reducible refine rd_isS ?_)
  | ((with_reducible refine rd_eq ?hs ?_); (case hs => exact rfl)) | ((with_reducible refine rd_ne ?hs ?_); (case hs => exact rfl))
  | (with_reducible refine rd_listRg ?_) | (with_reducible refine rd_rg2 ?_) | (with_reducible refine rd_rgk ?_)
  | (with_reducible refine rd_dnew ?_) | (with_reducible refine rd_ddel ?_) | (with_reducible refine rd_kw ?_) | (with_reducible refine rd_callS ?_) | (with_reducible refine rd_dc ?_) | (with_reducible refine rd_for ?_) | (with_reducible refine rd_tru ?_) | (with_reducible refine rd_truI ?_)
  | (with_reducible refine rd_nil ?_) | (with_reducible refine rd_cons ?_) | (with_reducible refine rd_call ?_) | (with_reducible refine rd_cb ?_)
  | (with_reducible refine rd_tup ?_) | (with_reducible refine rd_lst ?_) | (with_reducible refine rd_dget ?_) | (with_reducible refine rd_dput ?_) | (with_reducible refine rd_dget2 ?_) | (with_reducible refine rd_sl ?_)
  | (with_reducible refine rd_nopart ?_) | (with_reducible refine rd_part ?_) | (with_reducible refine rd_parti ?_) | (with_reducible refine rd_bm ?_) | (with_reducible refine rd_bm0 ?_)
  | (with_reducible refine rd_int ?_) | (with_reducible refine rd_intb ?_) | (with_reducible refine rd_abs ?_) | (with_reducible refine rd_min2 ?_) | (with_reducible refine rd_max2 ?_))
local macro_rules | `(tactic| walk_at "rds") => `(tactic| repeat (walk_at "rd"))
local macro_rules | `(tactic| walk_at "rq") => `(tactic| first
  | (with_reducible refine rd_iItems ?_) | (with_reducible refine rd_sc2 ?_) | (with_reducible refine rd_lc2 ?_) | (with_reducible refine rd_iZipN ?_) | (with_reducible refine rd_iZipL ?_) | (with_reducible refine rd_revL ?_) | (with_reducible refine rd_lstZ ?_) | (with_reducible refine rd_iRev ?_)
  | (with_reducible refine rd_seq ?_) | (with_reducible refine rd_asg ?_) | (with_reducible refine rd_ret ?_) | (with_reducible refine rd_next ?_)
  | (with_reducible refine rd_drop ?_) | ((with_reducible refine rd_name (σ' := ?ss) ?hs ?_); (case hs => (dsimp only [List.set]; exact rfl)))
  | ((with_reducible refine rd_var (v := ?vv) ?hv ?_); (case hv => exact rfl)) | (with_reducible refine rd_c ?_) | (with_reducible refine rd_op ?_) | (with_reducible refine rd_un ?_)
  | (with_reducible refine rd_I0 ?_) | (with_reducible refine rd_U ?_) | (with_reducible refine rd_test ?_) | (with_reducible refine rd_B ?_) | (with_reducible refine rd_k ?_)
  | (with_reducible refine rd_not ?_) | (with_reducible refine rd_and ?_) | (with_reducible refine rd_or ?_) | (with_reducible refine rd_ifE ?_)
  | (with_reducible refine rd_par ?_) | ((with_reducible refine rd_par2 (σ' := ?ss) ?hs ?_); (case hs => (dsimp only [List.set]; exact rfl)))
  | (with_reducible refine rd_gsub ?_) | (with_reducible refine rd_andV ?_) | (with_reducible refine rd_orV ?_) | (with_reducible refine rd_notV ?_)
  | (with_reducible refine rd_lc ?_) | (with_reducible refine rd_iTup ?_) | (with_reducible refine rd_iList ?_) | (with_reducible refine rd_iRng1 ?_) | (with_reducible refine rd_iRng2 ?_) | (with_reducible refine rd_iEnumT ?_) | (with_reducible refine rd_iEnum ?_) | (with_reducible refine rd_iZipM ?_) | (with_reducible refine rd_iEnumS ?_) | (with_reducible refine rd_iKeys ?_) | (with_reducible refine rd_din ?_) | (with_reducible refine rd_dnotin ?_)
  | (with_reducible refine rd_yes ?_) | (with_reducible refine rd_true ?_) | (with_reducible refine rd_false ?_) | (with_reducible refine rd_m1 ?_) | (with_reducible refine rd_isS ?_)
  | ((with_reducible refine rd_eq ?hs ?_); (case hs => exact rfl)) | ((with_reducible refine rd_ne ?hs ?_); (case hs => exact rfl))
  | (with_reducible refine rd_listRg ?_) | (with_reducible refine rd_rg2 ?_) | (with_reducible refine rd_rgk ?_)
  | (with_reducible refine rd_dnew ?_) | (with_reducible refine rd_ddel ?_) | (with_reducible refine rd_kw ?_) | (with_reducible refine rd_callS ?_) | (with_reducible refine rd_dc ?_) | (with_reducible refine rd_for ?_) | (with_reducible refine rd_tru ?_) | (with_reducible refine rd_truI ?_)
  | (with_reducible refine rd_nil ?_) | (with_reducible refine rd_cons ?_) | (with_reducible refine rd_call ?_) | (with_reducible refine rd_cb ?_)
  | (with_reducible refine rd_tup ?_) | (with_reducible refine rd_lst ?_) | (with_reducible refine rd_dget ?_) | (with_reducible refine rd_dput ?_) | (with_reducible refine rd_dget2 ?_) | (with_reducible refine rd_sl ?_)
  | (with_reducible refine rd_nopart ?_) | (with_reducible refine rd_part ?_) | (with_reducible refine rd_parti ?_) | (with_reducible refine rd_bm ?_) | (with_reducible refine rd_bm0 ?_)
  | (with_reducible refine rd_int ?_) | (with_reducible refine rd_intb ?_) | (with_reducible refine rd_abs ?_) | (with_reducible refine rd_min2 ?_) | (with_reducible refine rd_max2 ?_))
local macro_rules | `(tactic| walk_at "rqs") => `(tactic| repeat (walk_at "rq"))
local macro_rules | `(tactic| walk_at "rv") => `(tactic| first
  | (with_reducible refine rd_iItems ?_) | (with_reducible refine rd_sc2 ?_) | (with_reducible refine rd_lc2 ?_) | (with_reducible refine rd_iZipN ?_) | (with_reducible refine rd_iZipL ?_) | (with_reducible refine rd_revL ?_) | (with_reducible refine rd_lstZ ?_) | (with_reducible refine rd_iRev ?_)
  | (with_reducible refine rd_seq ?_) | (with_reducible refine rd_asg ?_) | (with_reducible refine rd_ret ?_) | (with_reducible refine rd_next ?_)
  | (with_reducible refine rd_drop ?_) | ((with_reducible refine rd_name (σ' := ?ss) ?hs ?_); (case hs => (dsimp only [List.set]; exact rfl)))
  | ((with_reducible refine rd_var (v := ?vv) ?hv ?_); (case hv => exact rfl)) | (with_reducible refine rd_c ?_) | (with_reducible refine rd_op ?_) | (with_reducible refine rd_un ?_)
  | (with_reducible refine rd_I0 ?_) | (with_reducible refine rd_U ?_) | (with_reducible refine rd_test ?_) | (with_reducible refine rd_B ?_) | (with_reducible refine rd_k ?_)
  | (with_reducible refine rd_not ?_) | (with_reducible refine rd_and ?_) | (with_reducible refine rd_or ?_)
  | (with_reducible refine rd_par ?_) | ((with_reducible refine rd_par2 (σ' := ?ss) ?hs ?_); (case hs => (dsimp only [List.set]; exact rfl)))
  | (with_reducible refine rd_gsub ?_) | (with_reducible refine rd_andV ?_) | (with_reducible refine rd_orV ?_) | (with_reducible refine rd_notV ?_)
  | (with_reducible refine rd_lc ?_) | (with_reducible refine rd_iTup ?_) | (with_reducible refine rd_iList ?_) | (with_reducible refine rd_iRng1 ?_) | (with_reducible refine rd_iRng2 ?_) | (with_reducible refine rd_iEnumT ?_) | (with_reducible refine rd_iEnum ?_) | (with_reducible refine rd_iZipM ?_) | (with_reducible refine rd_iEnumS ?_) | (with_reducible refine rd_iKeys ?_) | (with_reducible refine rd_din ?_) | (with_reducible refine rd_dnotin ?_)
  | (with_reducible refine rd_yes ?_) | (with_reducible refine rd_true ?_) | (with_reducible refine rd_false ?_) | (with_reducible refine rd_m1 ?_) | (with_reducible refine rd_isS ?_)
  | ((with_reducible refine rd_eq ?hs ?_); (case hs => exact rfl)) | ((with_reducible refine rd_ne ?hs ?_); (case hs => exact rfl))
  | (with_reducible refine rd_listRg ?_) | (with_reducible refine rd_rg2 ?_) | (with_reducible refine rd_rgk ?_)
  | (with_reducible refine rd_dnew ?_) | (with_reducible refine rd_ddel ?_) | (with_reducible refine rd_kw ?_) | (with_reducible refine rd_callS ?_) | (with_reducible refine rd_dc ?_) | (with_reducible refine rd_for ?_) | (with_reducible refine rd_tru ?_) | (with_reducible refine rd_truI ?_)
  | (with_reducible refine rd_nil ?_) | (with_reducible refine rd_cons ?_) | (with_reducible refine rd_call ?_) | (with_reducible refine rd_cb ?_)
  | (with_reducible refine rd_tup ?_) | (with_reducible refine rd_lst ?_) | (with_reducible refine rd_dget ?_) | (with_reducible refine rd_dput ?_) | (with_reducible refine rd_dget2 ?_) | (with_reducible refine rd_sl ?_)
  | (with_reducible refine rd_nopart ?_) | (with_reducible refine rd_part ?_) | (with_reducible refine rd_parti ?_) | (with_reducible refine rd_bm ?_) | (with_reducible refine rd_bm0 ?_)
  | (with_reducible refine rd_int ?_) | (with_reducible refine rd_intb ?_) | (with_reducible refine rd_abs ?_) | (with_reducible refine rd_min2 ?_) | (with_reducible refine rd_max2 ?_))
local macro_rules | `(tactic| walk_at "rvs") => `(tactic| repeat (walk_at "rv"))

/-- world i of the masks -/
def wld (M : Str → Option Nat) (i : Nat) : Str → Bool := fun z => ((M z).getD 0).testBit i
/-- r tells in which of n worlds f holds -/
def WhO (f : Fm) (M : Str → Option Nat) (n r : Nat) : Prop := r < 2 ^ n ∧ ∀ i, i < n → r.testBit i = sem f (wld M i)
def MLt (M : Str → Option Nat) (n : Nat) : Prop := ∀ z m, M z = some m → m < 2 ^ n
theorem MLt.widen {M : Str → Option Nat} {n : Nat} (h : MLt M n) (x : Str) : MLt (widen M n x) (2 * n) := fun z m hm => by
  unfold KA.widen at hm
  by_cases c : z = x
  · rw [if_pos c] at hm
    obtain rfl := Option.some.inj hm
    exact Nat.lt_of_lt_of_le (full_lt n) (Nat.pow_le_pow_right (by decide) (by omega))
  · rw [if_neg c] at hm
    obtain ⟨k, hk, rfl⟩ := Option.map_eq_some_iff.mp hm
    refine Nat.lt_pow_two_of_testBit _ fun w hw => ?_
    have := h z k hk
    rw [Nat.testBit_or, Nat.testBit_shiftLeft, Nat.testBit_lt_two_pow (Nat.lt_of_lt_of_le this (Nat.pow_le_pow_right (by decide) (by omega))), Nat.testBit_lt_two_pow (Nat.lt_of_lt_of_le this (Nat.pow_le_pow_right (by decide) (by omega))), Bool.and_false]
    rfl
theorem wld_lo {M : Str → Option Nat} {n i : Nat} (h : MLt M n) (x : Str) (hi : i < n) : wld (widen M n x) i = setW (wld M i) x true := funext fun z => by
  unfold wld setW widen
  by_cases c : z = x
  · rw [if_pos c, if_pos c, Option.getD_some, full_bit, decide_eq_true hi]
  · rw [if_neg c, if_neg c]
    show _ = ((M z).getD 0).testBit i
    cases hm : M z with
    | none => simp
    | some m =>
      show (m ||| m <<< n).testBit i = m.testBit i
      rw [Nat.testBit_or, Nat.testBit_shiftLeft, decide_eq_false (by omega), Bool.false_and, Bool.or_false]
theorem wld_hi {M : Str → Option Nat} {n i : Nat} (h : MLt M n) (x : Str) (hi : i < n) : wld (widen M n x) (n + i) = setW (wld M i) x false := funext fun z => by
  unfold wld setW widen
  by_cases c : z = x
  · rw [if_pos c, if_pos c, Option.getD_some, full_bit, decide_eq_false (by omega)]
  · rw [if_neg c, if_neg c]
    show _ = ((M z).getD 0).testBit i
    cases hm : M z with
    | none => simp
    | some m =>
      show (m ||| m <<< n).testBit (n + i) = m.testBit i
      rw [Nat.testBit_or, Nat.testBit_shiftLeft, Nat.testBit_lt_two_pow (Nat.lt_of_lt_of_le (h z m hm) (Nat.pow_le_pow_right (by decide) (by omega))), decide_eq_true (by omega), Nat.add_sub_cancel_left, Bool.false_or, Bool.true_and]
/-- both halves of it -/
theorem WhO.quan {f : Fm} {M : Str → Option Nat} {n r : Nat} {x : Str} (hM : MLt M n) (h : WhO f (widen M n x) (2 * n) r) (b : Bool) :
    WhO (.quan b x f) M n (if b = true then allB n [r &&& (2 ^ n - 1), r >>> n] else someB [r &&& (2 ^ n - 1), r >>> n]) := by
  have h1 : ∀ i, i < n → (r &&& (2 ^ n - 1)).testBit i = sem f (setW (wld M i) x true) := fun i hi => by
    rw [Nat.testBit_and, full_bit, decide_eq_true hi, Bool.and_true, h.2 i (by omega), wld_lo hM x hi]
  have h2 : ∀ i, i < n → (r >>> n).testBit i = sem f (setW (wld M i) x false) := fun i hi => by
    rw [Nat.testBit_shiftRight, h.2 (n + i) (by omega), wld_hi hM x hi]
  have l1 : r &&& (2 ^ n - 1) < 2 ^ n := Nat.lt_of_le_of_lt Nat.and_le_right (full_lt n)
  have l2 : r >>> n < 2 ^ n := by
    rw [Nat.shiftRight_eq_div_pow, Nat.div_lt_iff_lt_mul (Nat.two_pow_pos n), ← Nat.pow_add]
    exact Nat.lt_of_lt_of_le h.1 (Nat.pow_le_pow_right (by decide) (by omega))
  cases b with
  | true =>
    rw [if_pos rfl]
    refine ⟨allB_lt _ _, fun i hi => ?_⟩
    rw [allB_bit hi, sem, if_pos rfl, List.all_cons, List.all_cons, List.all_nil, h1 i hi, h2 i hi, Bool.and_true]
  | false =>
    rw [if_neg Bool.false_ne_true]
    refine ⟨someB_lt fun y hy => ?_, fun i hi => ?_⟩
    · simp only [List.mem_cons, List.not_mem_nil, or_false] at hy
      rcases hy with rfl | rfl
      · exact l1
      · exact l2
    · rw [someB_bit, sem, if_neg Bool.false_ne_true, List.any_cons, List.any_cons, List.any_nil, h1 i hi, h2 i hi, Bool.or_false]
def WhL (fs : List Fm) (M : Str → Option Nat) (n : Nat) (rs : List Nat) : Prop := rs.length = fs.length ∧ ∀ (j r : Nat) (g : Fm), rs[j]? = some r → fs[j]? = some g → WhO g M n r
theorem WhL.tail {f : Fm} {fs : List Fm} {M : Str → Option Nat} {n r : Nat} {rs : List Nat} (h : WhL (f :: fs) M n (r :: rs)) : WhO f M n r ∧ WhL fs M n rs := by
  refine ⟨h.2 0 r f rfl rfl, ?_, fun j r g a b => h.2 (j + 1) r g a b⟩
  have := h.1
  simpa using this
theorem WhL.all {M : Str → Option Nat} {n i : Nat} (hi : i < n) : ∀ {fs : List Fm} {rs : List Nat}, WhL fs M n rs → (rs.all fun r => r.testBit i) = semL true fs (wld M i)
  | [], [], _ => by rw [semL]; rfl
  | f :: t, r :: rs, h => by
    obtain ⟨h1, h2⟩ := h.tail
    rw [semL, if_pos rfl, List.all_cons, WhL.all hi h2, h1.2 i hi]
  | [], _ :: _, h => by have := h.1; simp at this
  | _ :: _, [], h => by have := h.1; simp at this
theorem WhL.any {M : Str → Option Nat} {n i : Nat} (hi : i < n) : ∀ {fs : List Fm} {rs : List Nat}, WhL fs M n rs → (rs.any fun r => r.testBit i) = semL false fs (wld M i)
  | [], [], _ => by rw [semL]; rfl
  | f :: t, r :: rs, h => by
    obtain ⟨h1, h2⟩ := h.tail
    rw [semL, if_neg Bool.false_ne_true, List.any_cons, WhL.any hi h2, h1.2 i hi]
  | [], _ :: _, h => by have := h.1; simp at this
  | _ :: _, [], h => by have := h.1; simp at this
theorem WhL.lt {fs : List Fm} {M : Str → Option Nat} {n : Nat} {rs : List Nat} (h : WhL fs M n rs) : ∀ r ∈ rs, r < 2 ^ n := fun r hr => by
  obtain ⟨j, hj, e⟩ := List.mem_iff_getElem.mp hr
  have hj2 : j < fs.length := by rw [← h.1]; exact hj
  exact (h.2 j r fs[j] (by rw [List.getElem?_eq_getElem hj, e]) (List.getElem?_eq_getElem hj2)).1
theorem WhL.conn {b : Bool} {fs : List Fm} {M : Str → Option Nat} {n : Nat} {rs : List Nat} (h : WhL fs M n rs) : WhO (.conn b fs) M n (if b = true then allB n rs else someB rs) := by
  cases b with
  | true =>
    rw [if_pos rfl]
    refine ⟨allB_lt _ _, fun i hi => ?_⟩
    rw [allB_bit hi, h.all hi, sem]
  | false =>
    rw [if_neg Bool.false_ne_true]
    refine ⟨someB_lt h.lt, fun i hi => ?_⟩
    rw [someB_bit, h.any hi, sem]
theorem WhL.no {f : Fm} {M : Str → Option Nat} {n : Nat} {rs : List Nat} (h : WhL [f] M n rs) : WhO (.no f) M n (parB n rs) := by
  obtain ⟨r, rfl⟩ : ∃ r, rs = [r] := by
    have := h.1
    match rs, this with
    | [r], _ => exact ⟨r, rfl⟩
  obtain ⟨h1, _⟩ := h.tail
  refine ⟨Nat.xor_lt_two_pow (full_lt n) h1.1, fun i hi => ?_⟩
  show ((2 ^ n - 1) ^^^ r).testBit i = _
  rw [Nat.testBit_xor, full_bit, decide_eq_true hi, h1.2 i hi, sem, Bool.true_xor]
theorem WhL.same {f g : Fm} {M : Str → Option Nat} {n : Nat} {rs : List Nat} (h : WhL [f, g] M n rs) : WhO (.same f g) M n (parB n rs) := by
  obtain ⟨r, r2, rfl⟩ : ∃ r r2, rs = [r, r2] := by
    have := h.1
    match rs, this with
    | [r, r2], _ => exact ⟨r, r2, rfl⟩
  obtain ⟨h1, h2⟩ := h.tail
  obtain ⟨h2, _⟩ := h2.tail
  refine ⟨Nat.xor_lt_two_pow (Nat.xor_lt_two_pow (full_lt n) h1.1) h2.1, fun i hi => ?_⟩
  show (((2 ^ n - 1) ^^^ r) ^^^ r2).testBit i = _
  rw [Nat.testBit_xor, Nat.testBit_xor, full_bit, decide_eq_true hi, h1.2 i hi, h2.2 i hi, sem]
  cases sem f (wld M i) <;> cases sem g (wld M i) <;> rfl
section
variable {P : Program} {w : World} {K : PySem.W.Frag} {mg : Str → Option Value} {base : Heap}
def spWhere (K : PySem.W.Frag) (m : Nat) : Sp := fun vs H Q _ => ∃ (v : V) (f : Fm) (D : Addr) (kvs : List (Key × V)) (M : Str → Option Nat) (n : Nat), vs = [v, .ref D, .int (n : Int)] ∧ Dp K H v (dat f) ∧ dp f ≤ m ∧ nd f ≤ 1000 ∧
  H D = some (.dK kvs) ∧ kvs.length + qd f ≤ 1000 ∧ MkOf kvs M ∧ MLt M n ∧ (∀ z ∈ fvl f, ∃ m, M z = some m) ∧ n * 2 ^ qd f ≤ 100000 ∧ ∀ (r : Nat) (H' : Hp), Evl.Ex H H' → WhO f M n r → Q (.int (r : Int)) H'
def spWhq (K : PySem.W.Frag) (m : Nat) : Sp := fun vs H Q _ => ∃ (v : V) (b : Bool) (x : Str) (f : Fm) (D : Addr) (kvs : List (Key × V)) (M : Str → Option Nat) (n : Nat), vs = [v, .ref D, .int (n : Int)] ∧ Dp K H v (dat (.quan b x f)) ∧ dp f ≤ m ∧ nd f ≤ 1000 ∧
  H D = some (.dK kvs) ∧ kvs.length + (qd f + 1) ≤ 1000 ∧ MkOf kvs M ∧ MLt M n ∧ (∀ z ∈ fvl f, z ≠ x → ∃ m, M z = some m) ∧ n * 2 ^ (qd f + 1) ≤ 100000 ∧ ∀ (r : Nat) (H' : Hp), Evl.Ex H H' → WhO (.quan b x f) M n r → Q (.int (r : Int)) H'
theorem ok_whq1 {f fW fA fS fH : Addr} {fd fdW fdA fdS fdH : FuncData} (F : Fun K "where_quantified" "where_quantified" swhere_quantified f fd) (T : Bl mg) {m k : Nat} (hk : 1 ≤ k)
    (Gwith_name : FnOk P w K mg base CX0 1 fW fdW ["masks", "size", "name"] spWith) (Cwith_name : Callee K mg "with_name" fW fdW ["masks", "size", "name"])
    (Gin_all : FnOk P w K mg base CX0 1 fA fdA ["found", "size"] (spInAll K)) (Cin_all : Callee K mg "in_all" fA fdA ["found", "size"])
    (Gin_some : FnOk P w K mg base CX0 1 fS fdS ["found"] (spInSome K)) (Cin_some : Callee K mg "in_some" fS fdS ["found"])
    (Gwhere_holding : FnOk P w K mg base CX0 k fH fdH ["formula", "masks", "size"] (spWhere K m)) (Cwhere_holding : Callee K mg "where_holding" fH fdH ["formula", "masks", "size"]) :
    FnOk P w K mg base CX0 (k + 1) f fd ["formula", "masks", "size"] (spWhq K m) := by
  refine F.ok scwhere_quantified (fun vs H Q E h => ?_) (fun cdv A outer s H vs Q E hr h => ?_)
  · obtain ⟨v, b, x, f, D, kvs, M, n, rfl, _⟩ := h
    rfl
  · obtain ⟨v, b, x, f, D, kvs, M, n, rfl, hv, hm, hn, hD, hl, hM, hML, hfv, hnq, q⟩ := h
    refine ⟨_, (pss_cons (ps_set (i := 3) scwhere_quantified.nd rfl (Or.inl rfl) (pe_call Gwhere_holding hr (by rfl) Cwhere_holding.m Cwhere_holding.k Cwhere_holding.b .nil pass0 (pa_cons (pe_ix (ik_tup (K := K) rfl) (pv 0) pe_int (fun _ _ => rfl)) (pa_cons (pe_call Gwith_name (hr.mono hk) (by rfl) Cwith_name.m Cwith_name.k Cwith_name.b .nil pass0 (pa_cons (pv 1) (pa_cons (pv 2) (pa_cons (pe_ix (ik_tup (K := K) rfl) (pv 0) pe_int (fun _ _ => rfl)) pa_nil)))) (pa_cons (pe_op op_mul pe_int (pv 2)) pa_nil)))))
 (pss_cons (ps_set (i := 4) scwhere_quantified.nd rfl (Or.inl rfl) (pe_tup (pa_cons (pe_op op_and (pv 3) (pe_op op_sub (pe_op op_shlW pe_int (pv 2)) pe_int)) (pa_cons (pe_op op_shr (pv 3) (pv 2)) pa_nil))))
 (pss_one (ps_ret (pe_ifExp (pt_cmpR op_eq (pe_ix (ik_tup (K := K) rfl) (pv 0) pe_int (fun _ _ => rfl)) pe_str (nomark _)) (pe_call Gin_all (hr.mono hk) (by rfl) Cin_all.m Cin_all.k Cin_all.b .nil pass0 (pa_cons (pv 4) (pa_cons (pv 2) pa_nil))) (pe_call Gin_some (hr.mono hk) (by rfl) Cin_some.m Cin_some.k Cin_some.b .nil pass0 (pa_cons (pv 4) pa_nil))))))), ?_⟩
    obtain ⟨a, y, rfl, sa, hy⟩ := dp_quan hv
    refine rd_start (σ' := [some (.ref a), some (.ref D), some (.int (n : Int)), none, none]) rfl ?_
    have hpow : n * 2 ^ (qd f + 1) = 2 * n * 2 ^ qd f := by rw [Nat.pow_succ]; ac_rfl
    have hn1 : n ≤ 100000 := Nat.le_trans (Nat.le_mul_of_pos_right n (Nat.two_pow_pos _)) hnq
    walk_at "rds"
    refine rd_ixT (x := y) sa (atI_nat (j := 2) rfl) ?_
    walk_at "rds"
    refine rd_ixT (x := .str x) sa (atI_nat (j := 1) rfl) ?_
    refine ⟨D, kvs, M, n, x, rfl, hD, by omega, hM, hML, hn1, fun D2 kvs2 H2 e2 hD2 hl2 hM2 => ?_⟩
    walk_at "rds"
    have e2n : (2 : Int) * (n : Int) = ((2 * n : Nat) : Int) := by omega
    refine rd_I (.inl ⟨by decide, by omega⟩) ?_
    refine ⟨y, f, D2, kvs2, widen M n x, 2 * n, by rw [e2n] <;> rfl, dpF_ex e2 hy, hm, hn, hD2, by omega, hM2, hML.widen x, fun z hz => ?_, by rw [← hpow]; exact hnq, fun r H3 e3 hr3 => ?_⟩
    · unfold widen
      by_cases c : z = x
      · exact ⟨_, if_pos c⟩
      · obtain ⟨k2, h2⟩ := hfv z hz c
        exact ⟨_, by rw [if_neg c, h2]; rfl⟩
    walk_at "rds"
    refine rd_shl1 rfl (by omega) ?_
    walk_at "rds"
    rw [full_sub, bAnd]
    refine rd_shr rfl rfl ?_
    walk_at "rds"
    refine ⟨(by show 2 ≤ sizeLine; decide), fun p hp => ?_⟩
    have e4 := Evl.Ex.new (o := .tup [V.int ((r &&& (2 ^ n - 1) : Nat) : Int), .int ((r >>> n : Nat) : Int)]) hp
    have eA := e2.trans (e3.trans e4)
    have hs : SqT K (upd H3 p (.tup [V.int ((r &&& (2 ^ n - 1) : Nat) : Int), .int ((r >>> n : Nat) : Int)])) p ([r &&& (2 ^ n - 1), r >>> n].map nV) := SqT.of upd_same
    have hW := hr3.quan hML b
    walk_at "rds"
    refine rd_ixT (x := .str (qw b)) (Evl.ex_t eA sa) (atI_nat (j := 0) rfl) ?_
    walk_at "rds"
    cases b with
    | true =>
      refine rd_ite (fun _ => ?_) (fun c => absurd rfl c)
      walk_at "rds"
      exact ⟨p, _, n, rfl, .inl hs, by show 2 ≤ 20000; decide, hn1, q _ _ eA hW⟩
    | false =>
      refine rd_ite (fun c => absurd c (by decide)) (fun _ => ?_)
      walk_at "rds"
      exact ⟨p, _, rfl, .inl hs, by show 2 ≤ 20000; decide, q _ _ eA hW⟩
theorem ok_wh1 {f fP fA fS fQ qj jj nj : Addr} {fd fdP fdA fdS fdQ : FuncData} (F : Fun K "where_holding" "where_holding" swhere_holding f fd) (T : Bl mg) (GL : Gls K mg jj nj qj) {m k : Nat} (hk : 1 ≤ k + 1)
    (Gparts_of : FnOk P w K mg base CX0 1 fP fdP ["formula"] (spPartsOf K)) (Cparts_of : Callee K mg "parts_of" fP fdP ["formula"])
    (Gin_all : FnOk P w K mg base CX0 1 fA fdA ["found", "size"] (spInAll K)) (Cin_all : Callee K mg "in_all" fA fdA ["found", "size"])
    (Gin_some : FnOk P w K mg base CX0 1 fS fdS ["found"] (spInSome K)) (Cin_some : Callee K mg "in_some" fS fdS ["found"])
    (Gwhere_quantified : FnOk P w K mg base CX0 (k + 1) fQ fdQ ["formula", "masks", "size"] (spWhq K m)) (Cwhere_quantified : Callee K mg "where_quantified" fQ fdQ ["formula", "masks", "size"])
    (Gwhere_holding : FnOk P w K mg base CX0 k f fd ["formula", "masks", "size"] (spWhere K m)) (Cwhere_holding : Callee K mg "where_holding" f fd ["formula", "masks", "size"]) :
    FnOk P w K mg base CX0 (k + 2) f fd ["formula", "masks", "size"] (spWhere K (m + 1)) := by
  refine F.ok scwhere_holding (fun vs H Q E h => ?_) (fun cdv A outer s H vs Q E hr h => ?_)
  · obtain ⟨v, f, D, kvs, M, n, rfl, _⟩ := h
    rfl
  · obtain ⟨v, f, D, kvs, M, n, rfl, hv, hm, hn, hD, hl, hM, hML, hfv, hnq, q⟩ := h
    refine ⟨_, (pss_cons (ps_set (i := 3) scwhere_holding.nd rfl (Or.inl rfl) (pe_ix (ik_tup (K := K) rfl) (pv 0) pe_int (fun _ _ => rfl)))
 (pss_cons (ps_if (pt_cmpR op_eq (pv 3) pe_str (nomark _)) (pss_one (ps_ret (pe_dget (hu_of hr) (pv 1) (pe_ix (ik_tup (K := K) rfl) (pv 0) pe_int (fun _ _ => rfl)) (fun _ _ => rfl)))) pss_nil)
 (pss_cons (ps_if (pt_cmpR (ok_in (K := K) rfl) (pv 3) (pe_glob (v := .ref qj) (by rfl) GL.qm rfl) (by rfl)) (pss_one (ps_ret (pe_call Gwhere_quantified hr (by rfl) Cwhere_quantified.m Cwhere_quantified.k Cwhere_quantified.b .nil pass0 (pa_cons (pv 0) (pa_cons (pv 1) (pa_cons (pv 2) pa_nil)))))) pss_nil)
 (pss_cons (ps_setLc (i := 4) (own := [("part", 7)]) (g := gName 7) rfl scwhere_holding.nd rfl rfl (sw_true rfl rfl rfl (by decide +kernel)) (ik_tupI (K := K) rfl (pe_call Gparts_of (hr.mono hk) (by rfl) Cparts_of.m Cparts_of.k Cparts_of.b .nil pass0 (pa_cons (pv 0) pa_nil))) (blkOk_by (own := [("part", 7)]) (N := ["formula", "masks", "size", "word", "found", "worlds", "others", "part"]) (sc := defScope swhere_holding) (by decide +kernel)) (fun _ _ _ _ _ => (pg_name (i := 7) scwhere_holding.nd rfl (Or.inl rfl))) (fun _ _ _ _ _ => pts_nil) (fun _ _ _ _ _ => (pe_call Gwhere_holding (hr.mono (Nat.le_succ k)) (by rfl) Cwhere_holding.m Cwhere_holding.k Cwhere_holding.b .nil pass0 (pa_cons (pv 7) (pa_cons (pv 1) (pa_cons (pv 2) pa_nil))))))
 (pss_cons (ps_if (pt_cmpR op_eq (pv 3) pe_str (nomark _)) (pss_one (ps_ret (pe_call Gin_all (hr.mono hk) (by rfl) Cin_all.m Cin_all.k Cin_all.b .nil pass0 (pa_cons (pv 4) (pa_cons (pv 2) pa_nil))))) pss_nil)
 (pss_cons (ps_if (pt_cmpR op_eq (pv 3) pe_str (nomark _)) (pss_one (ps_ret (pe_call Gin_some (hr.mono hk) (by rfl) Cin_some.m Cin_some.k Cin_some.b .nil pass0 (pa_cons (pv 4) pa_nil)))) pss_nil)
 (pss_cons (ps_set (i := 5) scwhere_holding.nd rfl (Or.inl rfl) (pe_op op_sub (pe_op op_shlW pe_int (pv 2)) pe_int))
 (pss_cons (ps_for PassesOwn.never rfl (ik_listI (K := K) rfl (pv 4)) (pg_name (i := 6) scwhere_holding.nd rfl (Or.inl rfl)) (pss_one (ps_set (i := 5) scwhere_holding.nd rfl (Or.inl rfl) (pe_op op_xor (pv 5) (pv 6)))))
 (pss_one (ps_ret (pv 5))))))))))), ?_⟩
    obtain ⟨a, x, t, rfl, sa⟩ := dp_word hv
    refine rd_start (σ' := [some (.ref a), some (.ref D), some (.int (n : Int)), none, none, none, none, none]) rfl ?_
    have hn1 : n ≤ 100000 := Nat.le_trans (Nat.le_mul_of_pos_right n (Nat.two_pow_pos _)) hnq
    walk_at "rqs"
    refine rd_ixT (x := .str (wd f)) sa (atI_nat (j := 0) rfl) ?_
    walk_at "rqs"
    refine rd_ifI (fun σ' H' => σ' = [some (.ref a), some (.ref D), some (.int (n : Int)), some (.str (wd f)), none, none, none, none] ∧ H' = H ∧ ∀ z, f ≠ .letter z) (fun N kN => ?_) fun σ' H' hI => ?_
    · refine rd_if ?_
      walk_at "rds"
      refine rd_ite (fun c => ?_) (fun c => ?_)
      · obtain ⟨z, rfl⟩ := wd_letter c
        obtain ⟨a2, e2, sa2⟩ := dp_letter hv
        cases e2
        obtain ⟨m2, hm2⟩ := hfv z (by rw [fvl]; exact List.mem_singleton.mpr rfl)
        walk_at "rds"
        refine rd_ixT (x := .str z) sa2 (atI_nat (j := 1) rfl) ?_
        refine ⟨D, nV m2, rfl, by have := hM.get hD z; rw [hm2] at this; exact this, ?_⟩
        refine q m2 H (Evl.Ex.refl _) ⟨hML z m2 hm2, fun i hi => ?_⟩
        rw [sem]
        unfold wld
        rw [hm2, Option.getD_some]
      · walk_at "rds"
        exact kN _ _ ⟨rfl, rfl, fun z e => c (by rw [e]; rfl)⟩
    obtain ⟨rfl, rfl, hnl⟩ := hI
    walk_at "rqs"
    refine rd_ifI (fun σ' H2 => σ' = [some (.ref a), some (.ref D), some (.int (n : Int)), some (.str (wd f)), none, none, none, none] ∧ H2 = H' ∧ isQ f = false) (fun N kN => ?_) fun σ' H2 hI => ?_
    · refine rd_if ?_
      walk_at "rds"
      refine rd_inS (zs := ["each", "some"]) (GL.qt _) ?_
      have hw := wd_quan f
      show ∃ k, V.bl (inV (.str (wd f)) [V.str "each", .str "some"]) = V.bl k ∧ _
      rw [hw]
      refine ⟨isQ f, rfl, ?_⟩
      cases hq : isQ f with
      | true =>
        rw [if_pos rfl]
        obtain ⟨b, z, g, rfl⟩ : ∃ b z g, f = .quan b z g := by
          cases f with
          | quan b z g => exact ⟨b, z, g, rfl⟩
          | letter z => cases hq
          | no g => cases hq
          | conn b fs => cases hq
          | same g g2 => cases hq
        walk_at "rds"
        rw [dp] at hm
        rw [nd] at hn
        rw [qd] at hl hnq
        exact ⟨.ref a, b, z, g, D, kvs, M, n, rfl, hv, by omega, by omega, hD, hl, hM, hML, fun y hy c => hfv y (by rw [fvl]; exact List.mem_filter.mpr ⟨hy, decide_eq_true c⟩), hnq, fun r H3 e3 hr3 => q r H3 e3 hr3⟩
      | false =>
        rw [if_neg Bool.false_ne_true]
        walk_at "rds"
        exact kN _ _ ⟨rfl, rfl, hq⟩
    obtain ⟨rfl, rfl, hnq2⟩ := hI
    walk_at "rqs"
    refine ⟨.ref a, f, rfl, hv, fun p xs H1 e1 sp hx => ?_⟩
    have lx : xs.length = (kids f).length := by rw [dps_len hx, dats_map, List.length_map]
    have lk := kids_len f
    walk_at "rqs"
    refine rd_ref sp ?_
    refine lc_lsT (K := K) (xs := xs) (fun L i acc H' => ∃ rs : List Nat, acc = rs.map nV ∧ WhL ((kids f).take i) M n rs) (fun i acc H3 L u e h => h) (σx := fun y => [some (.ref a), some (.ref D), some (.int (n : Int)), some (.str (wd f)), none, none, none, some y])
      sp (by omega) (fun _ => rfl) (fun _ => rfl) (fun L H' _ => ⟨[], rfl, rfl, fun j r g h => by simp at h⟩) (fun i y hi L acc H' N ex hDa hP kN => ?_) fun FD acc H2 e2 eF hF hacc => ?_
    · obtain ⟨g, hg, hdg⟩ := dps_get hx hi
      have hgm := List.mem_of_getElem? hg
      obtain ⟨rs, rfl, hrs⟩ := hP
      have hqd := kids_qd hgm
      walk_at "rqs"
      refine ⟨y, g, D, kvs, M, n, rfl, dpF_ex ex hdg, kids_dp hm hgm, by have := kids_nd hgm; omega, ex _ _ (e1 _ _ hD), by omega, hM, hML, fun z hz => hfv z ?_, Nat.le_trans (Nat.mul_le_mul_left n (Nat.pow_le_pow_right (by decide) hqd)) hnq, fun r H5 e5 hr5 => kN _ _ e5 ⟨rs ++ [r], by rw [List.map_append] <;> rfl, ?_, fun j r2 g2 hj hg2 => ?_⟩⟩
      · obtain ⟨j, hj, ej⟩ := List.mem_iff_getElem.mp hgm
        refine (fv_kids hnl z).mp ⟨j, hj, ?_, ?_⟩
        · rw [List.getD_eq_getElem?_getD, List.getElem?_eq_getElem hj, Option.getD_some, ej]
          exact hz
        · have : bdV f = .non := by
            cases f with
            | quan b z g => cases hnq2
            | letter z => rfl
            | no g => rfl
            | conn b fs => rfl
            | same g g2 => rfl
          rw [this]
          rfl
      · rw [List.length_append, hrs.1, List.take_add_one, hg, List.length_append] <;> rfl
      · have li : rs.length = i := by
          rw [hrs.1, List.length_take]
          have := (List.getElem?_eq_some_iff.mp hg).1
          omega
        rw [List.take_add_one, hg] at hg2
        rw [List.getElem?_append] at hj
        have lt : ((kids f).take i).length = i := by rw [← hrs.1, li]
        rw [List.getElem?_append] at hg2
        split at hj
        · next c =>
          rw [if_pos (by omega)] at hg2
          exact hrs.2 j r2 g2 hj hg2
        · next c =>
          rw [if_neg (by omega)] at hg2
          have hj0 : j - rs.length = 0 := by
            have := (List.getElem?_eq_some_iff.mp hj).1
            rw [List.length_singleton] at this
            omega
          rw [hj0] at hj
          have hj1 : j - ((kids f).take i).length = 0 := by omega
          rw [hj1] at hg2
          obtain rfl : r = r2 := Option.some.inj hj
          obtain rfl : g = g2 := Option.some.inj hg2
          exact hr5
    rw [lx, List.take_length] at hacc
    obtain ⟨rs, rfl, hrs⟩ := hacc
    have lrs : rs.length ≤ 20000 := by rw [hrs.1]; omega
    have e12 := e1.trans e2
    walk_at "rqs"
    cases f with
    | letter z => exact absurd rfl (hnl z)
    | quan b z g => cases hnq2
    | conn b fs =>
      have hrs : WhL fs M n rs := hrs
      have hW := hrs.conn (b := b)
      cases b with
      | true =>
        refine rd_if ?_
        walk_at "rds"
        refine rd_ite (fun _ => ?_) (fun c => absurd rfl c)
        walk_at "rds"
        exact ⟨FD, rs, n, rfl, .inr (SqL.of hF), lrs, hn1, q _ _ e12 hW⟩
      | false =>
        refine rd_if ?_
        walk_at "rds"
        refine rd_ite (fun c => absurd c (by simp only [wd, cw]; decide)) (fun _ => ?_)
        walk_at "rds"
        refine rd_ite (fun _ => ?_) (fun c => absurd rfl c)
        walk_at "rds"
        exact ⟨FD, rs, rfl, .inr (SqL.of hF), lrs, q _ _ e12 hW⟩
    | no g =>
      have hrs : WhL [g] M n rs := hrs
      have hW := hrs.no
      refine rd_if ?_
      walk_at "rds"
      refine rd_ite (fun c => absurd c (by simp only [wd]; decide)) (fun _ => ?_)
      walk_at "rds"
      refine rd_ite (fun c => absurd c (by simp only [wd]; decide)) (fun _ => ?_)
      walk_at "rds"
      refine rd_shl1 rfl (by omega) ?_
      walk_at "rds"
      rw [full_sub]
      have step : ∀ i r, rs[i]? = some r → (rs.take (i + 1)).foldl (· ^^^ ·) (2 ^ n - 1) = (rs.take i).foldl (· ^^^ ·) (2 ^ n - 1) ^^^ r := fun i r h => by
        rw [List.take_add_one, h, List.foldl_append] <;> rfl
      refine rd_refL (SqL.of hF) ?_
      refine fr_list (xs := rs.map nV) (fun i σ' H' => ∃ o : Option V, σ' = [some (.ref a), some (.ref D), some (.int (n : Int)), some (.str (wd (Fm.no g))), some (.ref FD), some (.int (((rs.take i).foldl (· ^^^ ·) (2 ^ n - 1) : Nat) : Int)), o, none] ∧ H' = H2) ⟨none, rfl, rfl⟩ (fun i σ' H' _ ⟨_, _, e⟩ => by rw [e]; exact SqL.of hF) (fun i x σ' H' hi hP => ?_) fun σ' H' hP => ?_
      · obtain ⟨o, rfl, rfl⟩ := hP
        rw [List.getElem?_map] at hi
        obtain ⟨r, hr2, rfl⟩ := Option.map_eq_some_iff.mp hi
        refine rd_start (σ' := [some (.ref a), some (.ref D), some (.int (n : Int)), some (.str (wd (Fm.no g))), some (.ref FD), some (.int (((rs.take i).foldl (· ^^^ ·) (2 ^ n - 1) : Nat) : Int)), some (.int (r : Int)), none]) rfl ?_
        walk_at "rds"
        rw [bXor]
        exact ⟨_, by rw [step i r hr2], rfl⟩
      · obtain ⟨o, rfl, rfl⟩ := hP
        rw [List.length_map, List.take_length]
        walk_at "rds"
        exact q _ _ e12 hW
    | same g g2 =>
      have hrs : WhL [g, g2] M n rs := hrs
      have hW := hrs.same
      refine rd_if ?_
      walk_at "rds"
      refine rd_ite (fun c => absurd c (by simp only [wd]; decide)) (fun _ => ?_)
      walk_at "rds"
      refine rd_ite (fun c => absurd c (by simp only [wd]; decide)) (fun _ => ?_)
      walk_at "rds"
      refine rd_shl1 rfl (by omega) ?_
      walk_at "rds"
      rw [full_sub]
      have step : ∀ i r, rs[i]? = some r → (rs.take (i + 1)).foldl (· ^^^ ·) (2 ^ n - 1) = (rs.take i).foldl (· ^^^ ·) (2 ^ n - 1) ^^^ r := fun i r h => by
        rw [List.take_add_one, h, List.foldl_append] <;> rfl
      refine rd_refL (SqL.of hF) ?_
      refine fr_list (xs := rs.map nV) (fun i σ' H' => ∃ o : Option V, σ' = [some (.ref a), some (.ref D), some (.int (n : Int)), some (.str (wd (Fm.same g g2))), some (.ref FD), some (.int (((rs.take i).foldl (· ^^^ ·) (2 ^ n - 1) : Nat) : Int)), o, none] ∧ H' = H2) ⟨none, rfl, rfl⟩ (fun i σ' H' _ ⟨_, _, e⟩ => by rw [e]; exact SqL.of hF) (fun i x σ' H' hi hP => ?_) fun σ' H' hP => ?_
      · obtain ⟨o, rfl, rfl⟩ := hP
        rw [List.getElem?_map] at hi
        obtain ⟨r, hr2, rfl⟩ := Option.map_eq_some_iff.mp hi
        refine rd_start (σ' := [some (.ref a), some (.ref D), some (.int (n : Int)), some (.str (wd (Fm.same g g2))), some (.ref FD), some (.int (((rs.take i).foldl (· ^^^ ·) (2 ^ n - 1) : Nat) : Int)), some (.int (r : Int)), none]) rfl ?_
        walk_at "rds"
        rw [bXor]
        exact ⟨_, by rw [step i r hr2], rfl⟩
      · obtain ⟨o, rfl, rfl⟩ := hP
        rw [List.length_map, List.take_length]
        walk_at "rds"
        exact q _ _ e12 hW
theorem ok_wh0 {f : Addr} {fd : FuncData} {k : Nat} : FnOk P w K mg base CX0 k f fd ["formula", "masks", "size"] (spWhere K 0) :=
  ⟨fun vs H Q E h => by
    obtain ⟨v, f, _, _, _, _, _, _, hm, _⟩ := h
    have := dp_pos f
    omega, fun A outer s H args us vs Q E hr e0 hb r hsp => by
    obtain ⟨v, f, _, _, _, _, _, _, hm, _⟩ := hsp
    have := dp_pos f
    omega⟩
theorem ok_wh {f fP fW fA fS fQ qj jj nj : Addr} {fd fdP fdW fdA fdS fdQ : FuncData} (F : Fun K "where_holding" "where_holding" swhere_holding f fd) (T : Bl mg) (GL : Gls K mg jj nj qj)
    (FQ : Fun K "where_quantified" "where_quantified" swhere_quantified fQ fdQ)
    (Gparts_of : FnOk P w K mg base CX0 1 fP fdP ["formula"] (spPartsOf K)) (Cparts_of : Callee K mg "parts_of" fP fdP ["formula"])
    (Gwith_name : FnOk P w K mg base CX0 1 fW fdW ["masks", "size", "name"] spWith) (Cwith_name : Callee K mg "with_name" fW fdW ["masks", "size", "name"])
    (Gin_all : FnOk P w K mg base CX0 1 fA fdA ["found", "size"] (spInAll K)) (Cin_all : Callee K mg "in_all" fA fdA ["found", "size"])
    (Gin_some : FnOk P w K mg base CX0 1 fS fdS ["found"] (spInSome K)) (Cin_some : Callee K mg "in_some" fS fdS ["found"])
    (Cwhere_quantified : Callee K mg "where_quantified" fQ fdQ ["formula", "masks", "size"]) (Cwhere_holding : Callee K mg "where_holding" f fd ["formula", "masks", "size"]) :
    ∀ m, FnOk P w K mg base CX0 (2 * m + 1) f fd ["formula", "masks", "size"] (spWhere K m)
  | 0 => ok_wh0
  | m + 1 => ok_wh1 F T GL (by omega) Gparts_of Cparts_of Gin_all Cin_all Gin_some Cin_some
      (ok_whq1 FQ T (by omega) Gwith_name Cwith_name Gin_all Cin_all Gin_some Cin_some (ok_wh F T GL FQ Gparts_of Cparts_of Gwith_name Cwith_name Gin_all Cin_all Gin_some Cin_some Cwhere_quantified Cwhere_holding m) Cwhere_holding) Cwhere_quantified
      (ok_wh F T GL FQ Gparts_of Cparts_of Gwith_name Cwith_name Gin_all Cin_all Gin_some Cin_some Cwhere_quantified Cwhere_holding m) Cwhere_holding
/-- the world ω as a dict -/
def WdOf (kvs : List (Key × V)) (ω : Str → Option Bool) : Prop := DicOf kvs fun z => (ω z).map V.bl
def spHolds (K : PySem.W.Frag) (m : Nat) : Sp := fun vs H Q _ => ∃ (v : V) (f : Fm) (D : Addr) (kvs : List (Key × V)) (ω : Str → Option Bool), vs = [v, .ref D] ∧ Dp K H v (dat f) ∧ dp f ≤ m ∧ nd f ≤ 500 ∧ qd f ≤ 15 ∧
  H D = some (.dK kvs) ∧ kvs.length ≤ 1000 ∧ WdOf kvs ω ∧ (∀ z ∈ fvl f, ∃ b, ω z = some b) ∧ ∀ H', Evl.Ex H H' → Q (.bl (sem f fun z => (ω z).getD false)) H'
end
end KA
set_option Elab.async false
set_option linter.all false
set_option maxRecDepth 100000
set_option maxHeartbeats 400000
set_option pp.maxSteps 300
namespace KA
open PySem PySem.Spec PyProof.Rows L2 Ea
abbrev s_law_parts_of : Stmt := topS 18
theorem sc_law_parts_of : FnScope ["f"] ["f"] (defScope s_law_parts_of) :=
  ⟨rfl, rfl, rfl, by decide +kernel, rfl, by decide +kernel, by decide +kernel⟩
abbrev s_law_formula : Stmt := topS 20
theorem sc_law_formula : FnScope ["bag", "names", "size", "more", "way", "name", "half", "many", "parts", "turn"] ["bag", "names", "size", "more"] (defScope s_law_formula) :=
  ⟨rfl, rfl, rfl, by decide +kernel, rfl, by decide +kernel, by decide +kernel⟩
local macro_rules | `(tactic| walk_at "rd") => `(tactic| first
  | (with_reducible refine rd_iItems ?_) | (with_reducible refine rd_sc2 ?_) | (with_reducible refine rd_lc2 ?_) | (with_reducible refine rd_iZipN ?_) | (with_reducible refine rd_iZipL ?_) | (with_reducible refine rd_revL ?_) | (with_reducible refine rd_lstZ ?_) | (with_reducible refine rd_iRev ?_)
  | (with_reducible refine rd_seq ?_) | (with_reducible refine rd_asg ?_) | (with_reducible refine rd_if ?_) | (with_reducible refine rd_ret ?_) | (with_reducible refine rd_next ?_)
  | (with_reducible refine rd_drop ?_) | ((with_reducible refine rd_name (σ' := ?ss) ?hs ?_); (case hs => (dsimp only [List.set]; exact rfl)))
  | ((with_reducible refine rd_var (v := ?vv) ?hv ?_); (case hv => exact rfl)) | (with_reducible refine rd_c ?_) | (with_reducible refine rd_op ?_) | (with_reducible refine rd_un ?_)
  | (with_reducible refine rd_I0 ?_) | (with_reducible refine rd_U ?_) | (with_reducible refine rd_test ?_) | (with_reducible refine rd_B ?_) | (with_reducible refine rd_k ?_)
  | (with_reducible refine rd_not ?_) | (with_reducible refine rd_and ?_) | (with_reducible refine rd_or ?_) | (with_reducible refine rd_ifE ?_)
  | (with_reducible refine rd_par ?_) | ((with_reducible refine rd_par2 (σ' := ?ss) ?hs ?_); (case hs => (dsimp only [List.set]; exact rfl)))
  | (with_reducible refine rd_gsub ?_) | (with_reducible refine rd_andV ?_) | (with_reducible refine rd_orV ?_) | (with_reducible refine rd_notV ?_)
  | (with_reducible refine rd_lc ?_) | (with_reducible refine rd_iTup ?_) | (with_reducible refine rd_iList ?_) | (with_reducible refine rd_iRng1 ?_) | (with_reducible refine rd_iRng2 ?_) | (with_reducible refine rd_iEnumT ?_) | (with_reducible refine rd_iEnum ?_) | (with_reducible refine rd_iZipM ?_) | (with_reducible refine rd_iEnumS ?_) | (with_reducible refine rd_iKeys ?_) | (with_reducible refine rd_din ?_) | (with_reducible refine rd_dnotin ?_)
  | (with_reducible refine rd_yes ?_) | (with_reducible refine rd_true ?_) | (with_reducible refine rd_false ?_) | (with_reducible refine rd_m1 ?_) | (with_reducible refine rd_isS ?_)
  | ((with_reducible refine rd_eq ?hs ?_); (case hs => exact rfl)) | ((with_reducible refine rd_ne ?hs ?_); (case hs => exact rfl))
  | (with_reducible refine rd_listRg ?_) | (with_reducible refine rd_rg2 ?_) | (with_reducible refine rd_rgk ?_)
  | (with_reducible refine rd_dnew ?_) | (with_reducible refine rd_ddel ?_) | (with_reducible refine rd_kw ?_) | (with_reducible refine rd_callS ?_) | (with_reducible refine rd_dc ?_) | (with_reducible refine rd_for ?_) | (with_reducible refine rd_tru ?_) | (with_reducible refine rd_truI ?_)
  | (with_reducible refine rd_nil ?_) | (with_reducible refine rd_cons ?_) | (with_reducible refine rd_call ?_) | (with_reducible refine rd_cb ?_)
  | (with_reducible refine rd_tup ?_) | (with_reducible refine rd_lst ?_) | (with_reducible refine rd_dget ?_) | (with_reducible refine rd_dput ?_) | (with_reducible refine rd_dget2 ?_) | (with_reducible refine rd_sl ?_)
  | (with_reducible refine rd_nopart ?_) | (with_reducible refine rd_part ?_) | (with_reducible refine rd_parti ?_) | (with_reducible refine rd_bm ?_) | (with_reducible refine rd_bm0 ?_)
  | (with_reducible refine rd_int ?_) | (with_reducible refine rd_intb ?_) | (with_reducible refine rd_abs ?_) | (with_reducible refine rd_min2 ?_) | (with_reducible refine rd_max2 ?_))
local macro_rules | `(tactic| walk_at "rds") => `(tactic| repeat (walk_at "rd"))
local macro_rules | `(tactic| walk_at "rq") => `(tactic| first
  | (with_reducible refine rd_iItems ?_) | (with_reducible refine rd_sc2 ?_) | (with_reducible refine rd_lc2 ?_) | (with_reducible refine rd_iZipN ?_) | (with_reducible refine rd_iZipL ?_) | (with_reducible refine rd_revL ?_) | (with_reducible refine rd_lstZ ?_) | (with_reducible refine rd_iRev ?_)
  | (with_reducible refine rd_seq ?_) | (with_reducible refine rd_asg ?_) | (with_reducible refine rd_ret ?_) | (with_reducible refine rd_next ?_)
  | (with_reducible refine rd_drop ?_) | ((with_reducible refine rd_name (σ' := ?ss) ?hs ?_); (case hs => (dsimp only [List.set]; exact rfl)))
  | ((with_reducible refine rd_var (v := ?vv) ?hv ?_); (case hv => exact rfl)) | (with_reducible refine rd_c ?_) | (with_reducible refine rd_op ?_) | (with_reducible refine rd_un ?_)
  | (with_reducible refine rd_I0 ?_) | (with_reducible refine rd_U ?_) | (with_reducible refine rd_test ?_) | (with_reducible refine rd_B ?_) | (with_reducible refine rd_k ?_)
  | (with_reducible refine rd_not ?_) | (with_reducible refine rd_and ?_) | (with_reducible refine rd_or ?_) | (with_reducible refine rd_ifE ?_)
  | (with_reducible refine rd_par ?_) | ((with_reducible refine rd_par2 (σ' := ?ss) ?hs ?_); (case hs => (dsimp only [List.set]; exact rfl)))
  | (with_reducible refine rd_gsub ?_) | (with_reducible refine rd_andV ?_) | (with_reducible refine rd_orV ?_) | (with_reducible refine rd_notV ?_)
  | (with_reducible refine rd_lc ?_) | (with_reducible refine rd_iTup ?_) | (with_reducible refine rd_iList ?_) | (with_reducible refine rd_iRng1 ?_) | (with_reducible refine rd_iRng2 ?_) | (with_reducible refine rd_iEnumT ?_) | (with_reducible refine rd_iEnum ?_) | (with_reducible refine rd_iZipM ?_) | (with_reducible refine rd_iEnumS ?_) | (with_reducible refine rd_iKeys ?_) | (with_reducible refine rd_din ?_) | (with_reducible refine rd_dnotin ?_)
  | (with_reducible refine rd_yes ?_) | (with_reducible refine rd_true ?_) | (with_reducible refine rd_false ?_) | (with_reducible refine rd_m1 ?_) | (with_reducible refine rd_isS ?_)
  | ((with_reducible refine rd_eq ?hs ?_); (case hs => exact rfl)) | ((with_reducible refine rd_ne ?hs ?_); (case hs => exact rfl))
  | (with_reducible refine rd_listRg ?_) | (with_reducible refine rd_rg2 ?_) | (with_reducible refine rd_rgk ?_)
  | (with_reducible refine rd_dnew ?_) | (with_reducible refine rd_ddel ?_) | (with_reducible refine rd_kw ?_) | (with_reducible refine rd_callS ?_) | (with_reducible refine rd_dc ?_) | (with_reducible refine rd_for ?_) | (with_reducible refine rd_tru ?_) | (with_reducible refine rd_truI ?_)
  | (with_reducible refine rd_nil ?_) | (with_reducible refine rd_cons ?_) | (with_reducible refine rd_call ?_) | (with_reducible refine rd_cb ?_)
  | (with_reducible refine rd_tup ?_) | (with_reducible refine rd_lst ?_) | (with_reducible refine rd_dget ?_) | (with_reducible refine rd_dput ?_) | (with_reducible refine rd_dget2 ?_) | (with_reducible refine rd_sl ?_)
  | (with_reducible refine rd_nopart ?_) | (with_reducible refine rd_part ?_) | (with_reducible refine rd_parti ?_) | (with_reducible refine rd_bm ?_) | (with_reducible refine rd_bm0 ?_)
  | (with_reducible refine rd_int ?_) | (with_reducible refine rd_intb ?_) | (with_reducible refine rd_abs ?_) | (with_reducible refine rd_min2 ?_) | (with_reducible refine rd_max2 ?_))
local macro_rules | `(tactic| walk_at "rqs") => `(tactic| repeat (walk_at "rq"))
local macro_rules | `(tactic| walk_at "rv") => `(tactic| first
  | (with_reducible refine rd_iItems ?_) | (with_reducible refine rd_sc2 ?_) | (with_reducible refine rd_lc2 ?_) | (with_reducible refine rd_iZipN ?_) | (with_reducible refine rd_iZipL ?_) | (with_reducible refine rd_revL ?_) | (with_reducible refine rd_lstZ ?_) | (with_reducible refine rd_iRev ?_)
  | (with_reducible refine rd_seq ?_) | (with_reducible refine rd_asg ?_) | (with_reducible refine rd_ret ?_) | (with_reducible refine rd_next ?_)
  | (with_reducible refine rd_drop ?_) | ((with_reducible refine rd_name (σ' := ?ss) ?hs ?_); (case hs => (dsimp only [List.set]; exact rfl)))
  | ((with_reducible refine rd_var (v := ?vv) ?hv ?_); (case hv => exact rfl)) | (with_reducible refine rd_c ?_) | (with_reducible refine rd_op ?_) | (with_reducible refine rd_un ?_)
  | (with_reducible refine rd_I0 ?_) | (with_reducible refine rd_U ?_) | (with_reducible refine rd_test ?_) | (with_reducible refine rd_B ?_) | (with_reducible refine rd_k ?_)
  | (with_reducible refine rd_not ?_) | (with_reducible refine rd_and ?_) | (with_reducible refine rd_or ?_)
  | (with_reducible refine rd_par ?_) | ((with_reducible refine rd_par2 (σ' := ?ss) ?hs ?_); (case hs => (dsimp only [List.set]; exact rfl)))
  | (with_reducible refine rd_gsub ?_) | (with_reducible refine rd_andV ?_) | (with_reducible refine rd_orV ?_) | (with_reducible refine rd_notV ?_)
  | (with_reducible refine rd_lc ?_) | (with_reducible refine rd_iTup ?_) | (with_reducible refine rd_iList ?_) | (with_reducible refine rd_iRng1 ?_) | (with_reducible refine rd_iRng2 ?_) | (with_reducible refine rd_iEnumT ?_) | (with_reducible refine rd_iEnum ?_) | (with_reducible refine rd_iZipM ?_) | (with_reducible refine rd_iEnumS ?_) | (with_reducible refine rd_iKeys ?_) | (with_reducible refine rd_din ?_) | (with_reducible refine rd_dnotin ?_)
  | (with_reducible refine rd_yes ?_) | (with_reducible refine rd_true ?_) | (with_reducible refine rd_false ?_) | (with_reducible refine rd_m1 ?_) | (with_reducible refine rd_isS ?_)
  | ((with_reducible refine rd_eq ?hs ?_); (case hs => exact rfl)) | ((with_reducible refine rd_ne ?hs ?_); (case hs => exact rfl))
  | (with_reducible refine rd_listRg ?_) | (with_reducible refine rd_rg2 ?_) | (with_reducible refine rd_rgk ?_)
  | (with_reducible refine rd_dnew ?_) | (with_reducible refine rd_ddel ?_) | (with_reducible refine rd_kw ?_) | (with_reducible refine rd_callS ?_) | (with_reducible refine rd_dc ?_) | (with_reducible refine rd_for ?_) | (with_reducible refine rd_tru ?_) | (with_reducible refine rd_truI ?_)
  | (with_reducible refine rd_nil ?_) | (with_reducible refine rd_cons ?_) | (with_reducible refine rd_call ?_) | (with_reducible refine rd_cb ?_)
  | (with_reducible refine rd_tup ?_) | (with_reducible refine rd_lst ?_) | (with_reducible refine rd_dget ?_) | (with_reducible refine rd_dput ?_) | (with_reducible refine rd_dget2 ?_) | (with_reducible refine rd_sl ?_)
  | (with_reducible refine rd_nopart ?_) | (with_reducible refine rd_part ?_) | (with_reducible refine rd_parti ?_) | (with_reducible refine rd_bm ?_) | (with_reducible refine rd_bm0 ?_)
  | (with_reducible refine rd_int ?_) | (with_reducible refine rd_intb ?_) | (with_reducible refine rd_abs ?_) | (with_reducible refine rd_min2 ?_) | (with_reducible refine rd_max2 ?_))
local macro_rules | `(tactic| walk_at "rvs") => `(tactic| repeat (walk_at "rv"))

section
variable {d l : Addr} {K : PySem.W.Frag} {σ : L2.St} {H H1 : Hp} {Q : VK} {te : TE} {vs : List Nat} {j : Nat} {σx : V → L2.St}
theorem Gt.back (g : Gt d l H H1) (h : DeckT d l H) {p : Addr} (e : H1 p = none) : H p = none := by
  obtain ⟨n1, n2⟩ := g.dk.off e
  cases q : H p with
  | none => rfl
  | some o =>
    rw [g.kp p o n1 n2 q] at e
    cases e
/-- formulas drawn one behind the other -/
theorem lc_gtF {lo : Int} {n : Nat} (B : Fm → Prop) (hD : DeckT d l H) (hz : n ≤ 40000) (hσ : ∀ x, (wipe σ vs).set j (some x) = σx x) (hw : ∀ x, wipe (σx x) vs = wipe σ vs)
    (hs : ∀ i, i < n → ∀ (H' : Hp) (N : VK), Gt d l H H' → (∀ x f H3, Gt d l H' H3 → Dp K H3 x (dat f) → B f → N x H3) → te (σx (.int (lo + i))) H' N)
    (hd : ∀ D acc fs H', Gt d l H H' → H D = none → H' D = some (.lst acc) → DpAll K H' acc (dats fs) → fs.length = n → (∀ f ∈ fs, B f) → Q (.ref D) H') : LcR (gName j) tYes te vs σ Q (Itr lo n) H := fun D hn =>
  lc_range (fun i H' => i ≤ n ∧ Gt d l H H' ∧ ∃ acc fs, H' D = some (.lst acc) ∧ fs.length = i ∧ DpAll K H' acc (dats fs) ∧ ∀ f ∈ fs, B f) ⟨Nat.zero_le _, Gt.new hD hn, [], [], upd_same, rfl, .nil, nofun⟩ (fun i H' hi p => by
    rw [show gName j (.int (lo + i)) (wipe σ vs) H' = fun N => N (σx (.int (lo + i))) H' from funext fun N => by rw [← hσ (.int (lo + i))] <;> rfl]
    refine ⟨hw _, rd_yes ?_⟩
    rw [if_pos rfl]
    obtain ⟨_, g, acc, fs, ea, hl, hp, hb⟩ := p
    obtain ⟨n1, n2⟩ := hD.off hn
    refine hs i hi H' _ g fun x f H3 g3 d3 b3 => ?_
    have e3 := g3.kp D _ n1 n2 ea
    have la : acc.length = i := by rw [dps_len hp, dats_map, List.length_map, hl]
    refine ⟨acc, e3, Evl.sz_lt (by omega), hi, Gt.mut (g.trans g3) hD hn, acc ++ [x], fs ++ [f], upd_same, by rw [List.length_append, hl] <;> rfl, dps_snoc (dps_upd e3 (dpsF_gt g3 g.dk hp)) (dpF_upd e3 d3), fun f2 hf => ?_⟩
    rcases List.mem_append.mp hf with h | h
    · exact hb f2 h
    · rw [List.mem_singleton.mp h]
      exact b3) fun H' p => by
    obtain ⟨_, g, acc, fs, ea, hl, hp, hb⟩ := p
    exact hd D acc fs H' g hn ea hp hl hb
end
theorem rd_orB {tt tu : TT} {σ : L2.St} {H : Hp} {QB : Bool → Hp → Prop} (J : Bool → Hp → Prop) (h1 : ∀ Q' : Bool → Hp → Prop, (∀ b H', J b H' → Q' b H') → tOr tt tu σ H Q') (h : ∀ b H', J b H' → QB b H') : tOr tt tu σ H QB := h1 QB h
def okn (z : Str) : Bool := okz z && (PyData.str z).canLay0
theorem okn_z {z : Str} (h : okn z = true) : okz z = true := by
  unfold okn at h
  rw [Bool.and_eq_true] at h
  exact h.1
theorem okn_of {z : Str} (h : okz z = true) : okn z = true := by
  unfold okn
  rw [h, okz_lay h] <;> rfl
theorem strs_shaped {zs : List Str} (h : ∀ z ∈ zs, okn z = true) : SeqAt.shaped (.list (zs.map PyData.str)) = true := by
  have key : ∀ zs : List Str, (∀ z ∈ zs, okn z = true) → PyData.canLayAll0 (zs.map PyData.str) = true ∧ PyData.depthAll (zs.map PyData.str) ≤ 0 := by
    intro zs
    induction zs with
    | nil => exact fun _ => ⟨rfl, Nat.le_refl _⟩
    | cons z t ih =>
      intro h
      obtain ⟨h1, h2⟩ := ih fun y hy => h y (List.mem_cons_of_mem _ hy)
      have h3 := h z List.mem_cons_self
      unfold okn at h3
      rw [Bool.and_eq_true] at h3
      refine ⟨?_, ?_⟩
      · show ((PyData.str z).canLay0 && PyData.canLayAll0 (t.map PyData.str)) = true
        rw [h3.2, h1] <;> rfl
      · show max 0 (PyData.depthAll (t.map PyData.str)) ≤ 0
        omega
  obtain ⟨h1, h2⟩ := key zs h
  unfold SeqAt.shaped
  rw [Bool.and_eq_true]
  refine ⟨h1, decide_eq_true ?_⟩
  show PyData.depthAll (zs.map PyData.str) + 1 ≤ 64
  omega
theorem dps_strs {K : PySem.W.Frag} {H : Hp} : ∀ zs : List Str, DpAll K H (zs.map V.str) (zs.map PyData.str)
  | [] => .nil
  | z :: t => .cons (.str z) (dps_strs t)
def qnm : List Str := ["x", "y", "z", "x1"]
theorem qnm_okn : ∀ z ∈ qnm, okn z = true := by decide +kernel
section
variable {P : Program} {w : World} {K : PySem.W.Frag} {mg : Str → Option Value} {base : Heap}
theorem ok_lparts {f : Addr} {fd : FuncData} (F : Fun K "_law_parts_of" "_law_parts_of" s_law_parts_of f fd) (T : Bl mg) : FnOk P w K mg base CX0 1 f fd ["f"] (spPartsOf K) := by
  refine F.ok sc_law_parts_of (fun vs H Q E h => ?_) (fun cdv A outer s H vs Q E hr h => ?_)
  · obtain ⟨v, f, rfl, _⟩ := h
    rfl
  · obtain ⟨v, f, rfl, hv, q⟩ := h
    refine ⟨_, (pss_cons (ps_if (pt_cmpR op_eq (pe_ix (ik_tup (K := K) rfl) (pv 0) pe_int (fun _ _ => rfl)) pe_str (nomark _)) (pss_one (ps_ret (pe_tup pa_nil))) pss_nil)
 (pss_cons (ps_if (pt_cmpR (ok_in (K := K) rfl) (pe_ix (ik_tup (K := K) rfl) (pv 0) pe_int (fun _ _ => rfl)) (pe_tup (pa_cons pe_str (pa_cons pe_str pa_nil))) (by rfl)) (pss_one (ps_ret (pe_ix (ik_tup (K := K) rfl) (pv 0) pe_int (fun _ _ => rfl)))) pss_nil)
 (pss_one (ps_ret (pe_ifExp (pt_cmpR (ok_in (K := K) rfl) (pe_ix (ik_tup (K := K) rfl) (pv 0) pe_int (fun _ _ => rfl)) (pe_tup (pa_cons pe_str (pa_cons pe_str pa_nil))) (by rfl)) (pe_slice (sk_tup (K := K) rfl) (pv 0) (po_some pe_int) po_none) (pe_slice (sk_tup (K := K) rfl) (pv 0) (po_some pe_int) po_none)))))), ?_⟩
    refine rd_start (σ' := [some v]) rfl ?_
    cases f with
    | letter z =>
      obtain ⟨a, rfl, sa⟩ := dp_letter hv
      walk_at "rds"
      refine rd_ixT sa rfl ?_
      walk_at "rds"
      refine rd_ite (fun _ => ?_) (fun c => absurd rfl c)
      walk_at "rds"
      refine ⟨Nat.zero_le _, fun t ht => ?_⟩
      exact q t [] _ (Evl.Ex.new ht) (SqT.of upd_same) .nil
    | no f =>
      obtain ⟨a, x, rfl, sa, hx⟩ := dp_no hv
      walk_at "rds"
      refine rd_ixT sa rfl ?_
      walk_at "rds"
      refine rd_ite (fun c => absurd c (by decide)) (fun _ => ?_)
      walk_at "rds"
      refine rd_ixT sa rfl ?_
      walk_at "rds"
      refine ⟨(by show 2 ≤ sizeLine; decide), fun t ht => ?_⟩
      have e1 := Evl.Ex.new (o := .tup [V.str "and", .str "or"]) ht
      refine rd_inS (zs := ["and", "or"]) (SqT.of upd_same) ?_
      refine rd_bno (by decide) ?_
      walk_at "rds"
      refine rd_ixT (Evl.ex_t e1 sa) rfl ?_
      walk_at "rds"
      refine ⟨(by show 2 ≤ sizeLine; decide), fun t2 ht2 => ?_⟩
      have e2 := Evl.Ex.new (o := .tup [V.str "not", .str "same"]) ht2
      refine rd_inS (zs := ["not", "same"]) (SqT.of upd_same) ?_
      refine rd_byes (by decide) ?_
      walk_at "rds"
      refine rd_slT (Evl.ex_t (e1.trans e2) sa) fun p H1 e3 s1 => ?_
      have e := (e1.trans e2).trans e3
      exact q p _ _ e s1 (.cons (dpF_ex e hx) .nil)
    | conn b fs =>
      obtain ⟨a, c, xs, rfl, sa, sc, hx⟩ := dp_conn hv
      walk_at "rds"
      refine rd_ixT sa rfl ?_
      walk_at "rds"
      refine rd_ite (fun c => absurd c (by cases b <;> decide)) (fun _ => ?_)
      walk_at "rds"
      refine rd_ixT sa rfl ?_
      walk_at "rds"
      refine ⟨(by show 2 ≤ sizeLine; decide), fun t ht => ?_⟩
      have e1 := Evl.Ex.new (o := .tup [V.str "and", .str "or"]) ht
      refine rd_inS (zs := ["and", "or"]) (SqT.of upd_same) ?_
      refine rd_byes (by cases b <;> decide) ?_
      walk_at "rds"
      refine rd_ixT (Evl.ex_t e1 sa) rfl ?_
      exact q c xs _ e1 (Evl.ex_t e1 sc) (dpsF_ex e1 hx)
    | same f g =>
      obtain ⟨a, x, y, rfl, sa, hx, hy⟩ := dp_same hv
      walk_at "rds"
      refine rd_ixT sa rfl ?_
      walk_at "rds"
      refine rd_ite (fun c => absurd c (by decide)) (fun _ => ?_)
      walk_at "rds"
      refine rd_ixT sa rfl ?_
      walk_at "rds"
      refine ⟨(by show 2 ≤ sizeLine; decide), fun t ht => ?_⟩
      have e1 := Evl.Ex.new (o := .tup [V.str "and", .str "or"]) ht
      refine rd_inS (zs := ["and", "or"]) (SqT.of upd_same) ?_
      refine rd_bno (by decide) ?_
      walk_at "rds"
      refine rd_ixT (Evl.ex_t e1 sa) rfl ?_
      walk_at "rds"
      refine ⟨(by show 2 ≤ sizeLine; decide), fun t2 ht2 => ?_⟩
      have e2 := Evl.Ex.new (o := .tup [V.str "not", .str "same"]) ht2
      refine rd_inS (zs := ["not", "same"]) (SqT.of upd_same) ?_
      refine rd_byes (by decide) ?_
      walk_at "rds"
      refine rd_slT (Evl.ex_t (e1.trans e2) sa) fun p H1 e3 s1 => ?_
      have e := (e1.trans e2).trans e3
      exact q p _ _ e s1 (.cons (dpF_ex e hx) (.cons (dpF_ex e hy) .nil))
    | quan b z f =>
      obtain ⟨a, x, rfl, sa, hx⟩ := dp_quan hv
      walk_at "rds"
      refine rd_ixT sa rfl ?_
      walk_at "rds"
      refine rd_ite (fun c => absurd c (by cases b <;> decide)) (fun _ => ?_)
      walk_at "rds"
      refine rd_ixT sa rfl ?_
      walk_at "rds"
      refine ⟨(by show 2 ≤ sizeLine; decide), fun t ht => ?_⟩
      have e1 := Evl.Ex.new (o := .tup [V.str "and", .str "or"]) ht
      refine rd_inS (zs := ["and", "or"]) (SqT.of upd_same) ?_
      refine rd_bno (by cases b <;> decide) ?_
      walk_at "rds"
      refine rd_ixT (Evl.ex_t e1 sa) rfl ?_
      walk_at "rds"
      refine ⟨(by show 2 ≤ sizeLine; decide), fun t2 ht2 => ?_⟩
      have e2 := Evl.Ex.new (o := .tup [V.str "not", .str "same"]) ht2
      refine rd_inS (zs := ["not", "same"]) (SqT.of upd_same) ?_
      refine rd_bno (by cases b <;> decide) ?_
      walk_at "rds"
      refine rd_slT (Evl.ex_t (e1.trans e2) sa) fun p H1 e3 s1 => ?_
      have e := (e1.trans e2).trans e3
      exact q p _ _ e s1 (.cons (dpF_ex e hx) .nil)
def spFm (K : PySem.W.Frag) (m : Nat) : Sp := fun vs H Q _ => ∃ (d l p : Addr) (zs : List Str) (n r : Nat), vs = [.ref d, .ref p, .int (n : Int), .int (r : Int)] ∧ n < m ∧ m ≤ 1000 ∧ DeckT d l H ∧ H p = some (.lst (zs.map V.str)) ∧ p ≠ d ∧ p ≠ l ∧ zs.length + r ≤ 100 ∧ (∀ z ∈ zs, okn z = true) ∧
  ∀ (x : V) (f : Fm) (H' : Hp), Gt d l H H' → Dp K H' x (dat f) → Gd zs r n f → Q x H'
theorem ok_fm0 {f : Addr} {fd : FuncData} {k : Nat} : FnOk P w K mg base CX0 k f fd ["bag", "names", "size", "more"] (spFm K 0) :=
  ⟨fun vs H Q E h => by
    obtain ⟨d, l, p, zs, n, r, _, hm, _⟩ := h
    exact absurd hm (Nat.not_lt_zero _), fun A outer s H args us vs Q E hr e0 hb r hsp => by
    obtain ⟨d, l, p, zs, n, r, _, hm, _⟩ := hsp
    exact absurd hm (Nat.not_lt_zero _)⟩
theorem ok_fm1 {f fD fP : Addr} {fd fdD fdP : FuncData} (F : Fun K "_law_formula" "_law_formula" s_law_formula f fd) (T : Bl mg) {m k : Nat} (hk1 : 1 ≤ k) (hk2 : 2 ≤ k)
    (G_law_take : FnOk P w K mg base CX0 1 fD fdD ["bag", "many"] spTake) (C_law_take : Callee K mg "_law_take" fD fdD ["bag", "many"])
    (G_law_pick : FnOk P w K mg base CX0 2 fP fdP ["bag", "some"] spPick) (C_law_pick : Callee K mg "_law_pick" fP fdP ["bag", "some"])
    (G_law_formula : FnOk P w K mg base CX0 k f fd ["bag", "names", "size", "more"] (spFm K m)) (C_law_formula : Callee K mg "_law_formula" f fd ["bag", "names", "size", "more"]) :
    FnOk P w K mg base CX0 (k + 1) f fd ["bag", "names", "size", "more"] (spFm K (m + 1)) := by
  refine F.ok sc_law_formula (fun vs H Q E h => ?_) (fun cdv A outer s H vs Q E hr h => ?_)
  · obtain ⟨d, l, p, zs, n, r, rfl, _⟩ := h
    rfl
  · obtain ⟨d, l, p, zs, n, r, rfl, hn, hm, hD, hp, n1, n2, hnk, hok, q⟩ := h
    refine ⟨_, (pss_cons (ps_set (i := 4) sc_law_formula.nd rfl (Or.inl rfl) (pe_call G_law_take (hr.mono hk1) (by rfl) C_law_take.m C_law_take.k C_law_take.b .nil pass0 (pa_cons (pv 0) (pa_cons pe_int pa_nil))))
 (pss_cons (ps_if (PW.pt (pw_or (pt_cmpR op_lt (pv 2) pe_int (nomark _)) (pw_or1 (pt_cmpR op_eq (pv 4) pe_int (nomark _))))) (pss_cons (ps_if (PW.pt (pw_or (pt_cmpR (ok_eqD (K := K) rfl hr.units) (pv 1) (pe_lst pa_nil) (nomark _)) (pw_or1 (pt_cmpR op_eq (pe_call G_law_take (hr.mono hk1) (by rfl) C_law_take.m C_law_take.k C_law_take.b .nil pass0 (pa_cons (pv 0) (pa_cons pe_int pa_nil))) pe_int (nomark _))))) (pss_one (ps_ret (pe_tup (pa_cons (pe_call G_law_pick (hr.mono hk2) (by rfl) C_law_pick.m C_law_pick.k C_law_pick.b .nil pass0 (pa_cons (pv 0) (pa_cons (pe_lst (pa_cons pe_str (pa_cons pe_str pa_nil))) pa_nil))) (pa_cons (pe_tup pa_nil) pa_nil))))) pss_nil)
 (pss_one (ps_ret (pe_tup (pa_cons pe_str (pa_cons (pe_call G_law_pick (hr.mono hk2) (by rfl) C_law_pick.m C_law_pick.k C_law_pick.b .nil pass0 (pa_cons (pv 0) (pa_cons (pv 1) pa_nil))) pa_nil)))))) pss_nil)
 (pss_cons (ps_if (pt_cmpR op_lt (pv 4) pe_int (nomark _)) (pss_one (ps_ret (pe_tup (pa_cons pe_str (pa_cons (pe_call G_law_formula hr (by rfl) C_law_formula.m C_law_formula.k C_law_formula.b .nil pass0 (pa_cons (pv 0) (pa_cons (pv 1) (pa_cons (pe_op op_sub (pv 2) pe_int) (pa_cons (pv 3) pa_nil))))) pa_nil))))) pss_nil)
 (pss_cons (ps_if (PW.pt (pw_and (pt_cmpR op_lt (pv 4) pe_int (nomark _)) (pw_and1 (pt_cmpR op_gt (pv 3) pe_int (nomark _))))) (pss_cons (ps_set (i := 5) sc_law_formula.nd rfl (Or.inl rfl) (pe_call G_law_pick (hr.mono hk2) (by rfl) C_law_pick.m C_law_pick.k C_law_pick.b .nil pass0 (pa_cons (pv 0) (pa_cons (pe_lst (pa_cons pe_str (pa_cons pe_str (pa_cons pe_str (pa_cons pe_str pa_nil))))) pa_nil))))
 (pss_one (ps_ret (pe_tup (pa_cons (pe_call G_law_pick (hr.mono hk2) (by rfl) C_law_pick.m C_law_pick.k C_law_pick.b .nil pass0 (pa_cons (pv 0) (pa_cons (pe_lst (pa_cons pe_str (pa_cons pe_str pa_nil))) pa_nil))) (pa_cons (pv 5) (pa_cons (pe_call G_law_formula hr (by rfl) C_law_formula.m C_law_formula.k C_law_formula.b .nil pass0 (pa_cons (pv 0) (pa_cons (pe_op op_cat (pv 1) (pe_lst (pa_cons (pv 5) pa_nil))) (pa_cons (pe_op op_sub (pv 2) pe_int) (pa_cons (pe_op op_sub (pv 3) pe_int) pa_nil))))) pa_nil))))))) pss_nil)
 (pss_cons (ps_if (pt_cmpR op_eq (pv 4) pe_int (nomark _)) (pss_cons (ps_set (i := 6) sc_law_formula.nd rfl (Or.inl rfl) (pe_op op_fdiv (pv 2) pe_int))
 (pss_one (ps_ret (pe_tup (pa_cons pe_str (pa_cons (pe_call G_law_formula hr (by rfl) C_law_formula.m C_law_formula.k C_law_formula.b .nil pass0 (pa_cons (pv 0) (pa_cons (pv 1) (pa_cons (pv 6) (pa_cons (pv 3) pa_nil))))) (pa_cons (pe_call G_law_formula hr (by rfl) C_law_formula.m C_law_formula.k C_law_formula.b .nil pass0 (pa_cons (pv 0) (pa_cons (pv 1) (pa_cons (pv 6) (pa_cons (pv 3) pa_nil))))) pa_nil))))))) pss_nil)
 (pss_cons (ps_set (i := 7) sc_law_formula.nd rfl (Or.inr rfl) (pe_op op_add pe_int (pe_call G_law_take (hr.mono hk1) (by rfl) C_law_take.m C_law_take.k C_law_take.b .nil pass0 (pa_cons (pv 0) (pa_cons pe_int pa_nil)))))
 (pss_cons (ps_setLc (i := 8) (own := [("turn", 9)]) (g := gName 9) rfl sc_law_formula.nd rfl rfl (sw_true rfl rfl rfl (by decide +kernel)) (pi_range1 (by rfl) T.range (pa_cons (pv 7) pa_nil)) (blkOk_by (own := [("turn", 9)]) (N := ["bag", "names", "size", "more", "way", "name", "half", "many", "parts", "turn"]) (sc := defScope s_law_formula) (by decide +kernel)) (fun _ _ _ _ _ => (pg_name (i := 9) sc_law_formula.nd rfl (Or.inl rfl))) (fun _ _ _ _ _ => pts_nil) (fun _ _ _ _ _ => (pe_call G_law_formula hr (by rfl) C_law_formula.m C_law_formula.k C_law_formula.b .nil pass0 (pa_cons (pv 0) (pa_cons (pv 1) (pa_cons (pe_op op_fdiv (pe_op op_sub (pv 2) pe_int) (pv 7)) (pa_cons (pv 3) pa_nil)))))))
 (pss_one (ps_ret (pe_tup (pa_cons (pe_call G_law_pick (hr.mono hk2) (by rfl) C_law_pick.m C_law_pick.k C_law_pick.b .nil pass0 (pa_cons (pv 0) (pa_cons (pe_lst (pa_cons pe_str (pa_cons pe_str pa_nil))) pa_nil))) (pa_cons (pe_callTy (c_tuple (K := K) rfl) (by rfl) T.tuple (by decide +kernel) (pa_cons (pv 8) pa_nil)) pa_nil)))))))))))), ?_⟩
    refine rd_start (σ' := [some (.ref d), some (.ref p), some (.int (n : Int)), some (.int (r : Int)), none, none, none, none, none, none]) rfl ?_
    walk_at "rds"
    refine ⟨d, l, 13, rfl, hD, by decide, by decide, fun way H1 g1 w0 w1 => ?_⟩
    walk_at "rqs"
    refine rd_ifI (fun σ' H' => σ' = [some (.ref d), some (.ref p), some (.int (n : Int)), some (.int (r : Int)), some (.int way), none, none, none, none, none] ∧ H' = H1 ∧ 2 ≤ n) (fun N kN => ?_) fun σ' H' hI => ?_
    · refine rd_if ?_
      refine rd_orB (fun b H' => H' = H1 ∧ (b = true ∨ (b = false ∧ 2 ≤ n))) (fun Q' kQ => ?_) fun b H' hb => ?_
      · walk_at "rds"
        refine rd_ite (fun c => kQ _ _ ⟨rfl, .inl rfl⟩) (fun c => ?_)
        walk_at "rds"
        exact kQ _ _ ⟨rfl, (Bool.eq_false_or_eq_true _).imp id fun h => ⟨h, by omega⟩⟩
      obtain ⟨rfl, hb⟩ := hb
      refine rd_iteb (fun c => ?_) (fun c => ?_)
      · walk_at "rqs"
        refine rd_ifI (fun σ' H' => σ' = [some (.ref d), some (.ref p), some (.int (n : Int)), some (.int (r : Int)), some (.int way), none, none, none, none, none] ∧ Gt d l H H' ∧ zs ≠ []) (fun N kN => ?_) fun σ' H2 hI => ?_
        · refine rd_if ?_
          refine rd_orB (fun b H' => Gt d l H H' ∧ (b = true ∨ zs ≠ [])) (fun Q' kQ => ?_) fun b H2 hb => ?_
          · walk_at "rds"
            refine ⟨Nat.zero_le _, fun p0 hp0 => ?_⟩
            have g2 := Gt.new (o := .lst []) g1.dk hp0
            have e2 := Evl.Ex.new (o := .lst []) hp0
            refine ⟨.list ((zs).map PyData.str), .list [], .lst (SqL.of (e2 _ _ (g1.kp p _ n1 n2 hp))) (dps_strs _), .lst (SqL.of upd_same) .nil, strs_shaped hok, by decide, ?_⟩
            refine ⟨_, rfl, ?_⟩
            refine rd_iteb (fun c => kQ true _ ⟨g1.trans g2, .inl rfl⟩) (fun c => ?_)
            have hne : zs ≠ [] := fun e => by
              rw [e] at c
              exact absurd c (by decide +kernel)
            walk_at "rds"
            refine ⟨d, l, 9, rfl, g2.dk, by decide, by decide, fun w2 H3 g3 _ _ => ?_⟩
            walk_at "rds"
            exact kQ _ _ ⟨(g1.trans g2).trans g3, .inr hne⟩
          obtain ⟨g2, hb⟩ := hb
          refine rd_iteb (fun c => ?_) (fun c => ?_)
          · walk_at "rds"
            refine ⟨(by show 2 ≤ sizeLine; decide), fun p1 hp1 => ?_⟩
            obtain ⟨m1, m2⟩ := g2.dk.off hp1
            have g3 := Gt.new (o := .lst [V.str "and", .str "or"]) g2.dk hp1
            walk_at "rds"
            refine ⟨d, l, p1, [V.str "and", .str "or"], rfl, g3.dk, upd_same, m1, m2, by decide, by decide, fun y H4 g4 hy => ?_⟩
            obtain ⟨cb, rfl⟩ : ∃ cb, y = V.str (cw cb) := by
              simp only [List.mem_cons, List.not_mem_nil, or_false] at hy
              rcases hy with rfl | rfl
              · exact ⟨true, rfl⟩
              · exact ⟨false, rfl⟩
            walk_at "rds"
            refine ⟨Nat.zero_le _, fun t1 ht1 => ?_⟩
            have g5 := Gt.new (o := .tup []) g4.dk ht1
            walk_at "rds"
            refine ⟨(by show 2 ≤ sizeLine; decide), fun t2 ht2 => ?_⟩
            have g6 := Gt.new (o := .tup [V.str (cw cb), .ref t1]) g5.dk ht2
            have e6 := Evl.Ex.new (o := .tup [V.str (cw cb), .ref t1]) ht2
            exact q _ (.conn cb []) _ (g2.trans (g3.trans (g4.trans (g5.trans g6)))) (mk_conn (Evl.ex_t e6 (SqT.of upd_same)) .nil (SqT.of upd_same)) .nil
          · walk_at "rds"
            exact kN _ _ ⟨rfl, g2, hb.resolve_left (by rw [c]; decide)⟩
        obtain ⟨rfl, g2, hne⟩ := hI
        walk_at "rds"
        have h1 : 1 ≤ (zs).length := by
          cases hq : zs with
          | nil => exact absurd hq hne
          | cons a t => exact Nat.succ_pos _
        refine ⟨d, l, p, (zs).map V.str, rfl, g2.dk, g2.kp p _ n1 n2 hp, n1, n2, by rw [List.length_map]; exact h1, by rw [List.length_map]; omega, fun y H4 g4 hy => ?_⟩
        obtain ⟨z, hz, rfl⟩ := List.mem_map.mp hy
        walk_at "rds"
        refine ⟨(by show 2 ≤ sizeLine; decide), fun t2 ht2 => ?_⟩
        have g5 := Gt.new (o := .tup [V.str "letter", .str z]) g4.dk ht2
        exact q _ (.letter z) _ (g2.trans (g4.trans g5)) (mk_letter (SqT.of upd_same)) (.letter (okn_z (hok z hz)) hz)
      · walk_at "rds"
        exact kN _ _ ⟨rfl, rfl, (hb.resolve_left (by rw [c]; decide)).2⟩
    obtain ⟨rfl, rfl, hn2⟩ := hI
    have hp1 := g1.kp p _ n1 n2 hp
    walk_at "rqs"
    refine rd_ifI (fun σ' H2 => σ' = [some (.ref d), some (.ref p), some (.int (n : Int)), some (.int (r : Int)), some (.int way), none, none, none, none, none] ∧ H2 = H') (fun N kN => ?_) fun σ' H2 hI => ?_
    · refine rd_if ?_
      walk_at "rds"
      refine rd_ite (fun c => ?_) (fun c => ?_)
      · walk_at "rds"
        refine ⟨d, l, p, zs, n - 1, r, by rw [show (n : Int) - 1 = ((n - 1 : Nat) : Int) by omega] <;> rfl, by omega, by omega, g1.dk, hp1, n1, n2, hnk, hok, fun x f H3 g3 d3 b3 => ?_⟩
        walk_at "rds"
        refine ⟨(by show 2 ≤ sizeLine; decide), fun t2 ht2 => ?_⟩
        have g5 := Gt.new (o := .tup [V.str "not", x]) g3.dk ht2
        have b4 := b3.no
        rw [show n - 1 + 1 = n by omega] at b4
        exact q _ (.no f) _ (g1.trans (g3.trans g5)) (mk_no (SqT.of upd_same) (dpF_ex (Evl.Ex.new ht2) d3)) b4
      · walk_at "rds"
        exact kN _ _ ⟨rfl, rfl⟩
    obtain ⟨rfl, rfl⟩ := hI
    walk_at "rqs"
    refine rd_ifI (fun σ' H3 => σ' = [some (.ref d), some (.ref p), some (.int (n : Int)), some (.int (r : Int)), some (.int way), none, none, none, none, none] ∧ H3 = H2) (fun N kN => ?_) fun σ' H3 hI => ?_
    · refine rd_if ?_
      walk_at "rds"
      refine rd_ite (fun c => ?_) (fun c => ?_)
      · walk_at "rds"
        refine rd_ite (fun c4 => ?_) (fun c4 => ?_)
        · walk_at "rds"
          refine ⟨(by show 4 ≤ sizeLine; decide), fun p1 hp1' => ?_⟩
          obtain ⟨m1, m2⟩ := g1.dk.off hp1'
          have g3 := Gt.new (o := .lst (qnm.map V.str)) g1.dk hp1'
          walk_at "rds"
          refine ⟨d, l, p1, qnm.map V.str, rfl, g3.dk, upd_same, m1, m2, by decide, by decide, fun y H4 g4 hy => ?_⟩
          obtain ⟨z, hz, rfl⟩ := List.mem_map.mp hy
          have hzn := qnm_okn z hz
          walk_at "rds"
          refine ⟨(by show 2 ≤ sizeLine; decide), fun p2 hp2 => ?_⟩
          obtain ⟨m3, m4⟩ := g4.dk.off hp2
          have g5 := Gt.new (o := .lst [V.str "each", .str "some"]) g4.dk hp2
          walk_at "rds"
          refine ⟨d, l, p2, [V.str "each", .str "some"], rfl, g5.dk, upd_same, m3, m4, by decide, by decide, fun y2 H5 g6 hy2 => ?_⟩
          obtain ⟨qb, rfl⟩ : ∃ qb, y2 = V.str (qw qb) := by
            simp only [List.mem_cons, List.not_mem_nil, or_false] at hy2
            rcases hy2 with rfl | rfl
            · exact ⟨true, rfl⟩
            · exact ⟨false, rfl⟩
          have g16 := g1.trans (g3.trans (g4.trans (g5.trans g6)))
          have g36 := g3.trans (g4.trans (g5.trans g6))
          have hp6 := g36.kp p _ n1 n2 hp1
          walk_at "rds"
          refine ⟨(by show 1 ≤ sizeLine; decide), fun p3 hp3 => ?_⟩
          have g7 := Gt.new (o := .lst [V.str z]) g6.dk hp3
          have e7 := Evl.Ex.new (o := .lst [V.str z]) hp3
          refine rd_catL (e7 _ _ hp6) upd_same (by rw [List.length_map, sizeLine_eq]; show zs.length + 1 ≤ _; omega) fun p4 hp4 => ?_
          have g8 := Gt.new (o := .lst (zs.map V.str ++ [V.str z])) g7.dk hp4
          obtain ⟨m5, m6⟩ := g7.dk.off hp4
          walk_at "rds"
          have ezs : zs.map V.str ++ [V.str z] = (zs ++ [z]).map V.str := by rw [List.map_append] <;> rfl
          rw [ezs] at g8 ⊢
          refine ⟨d, l, p4, zs ++ [z], n - 1, r - 1, by rw [show (n : Int) - 1 = ((n - 1 : Nat) : Int) by omega, show (r : Int) - 1 = ((r - 1 : Nat) : Int) by omega] <;> rfl, by omega, by omega, g8.dk, upd_same, m5, m6, by rw [List.length_append]; show zs.length + 1 + _ ≤ _; omega, fun y hy => ?_, fun x f H6 g9 d9 b9 => ?_⟩
          · rcases List.mem_append.mp hy with h | h
            · exact hok y h
            · rw [List.mem_singleton.mp h]
              exact hzn
          walk_at "rds"
          refine ⟨(by show 3 ≤ sizeLine; decide), fun t2 ht2 => ?_⟩
          have g10 := Gt.new (o := .tup [V.str (qw qb), .str z, x]) g9.dk ht2
          have e10 := Evl.Ex.new (o := .tup [V.str (qw qb), .str z, x]) ht2
          have b10 := b9.quan (b := qb) (okn_z hzn)
          rw [show n - 1 + 1 = n by omega, show r - 1 + 1 = r by omega] at b10
          exact q _ (.quan qb z f) _ (g16.trans (g7.trans (g8.trans (g9.trans g10)))) (mk_quan (SqT.of upd_same) (dpF_ex e10 d9)) b10
        · walk_at "rds"
          exact kN _ _ ⟨rfl, rfl⟩
      · walk_at "rds"
        exact kN _ _ ⟨rfl, rfl⟩
    obtain ⟨rfl, rfl⟩ := hI
    walk_at "rqs"
    refine rd_ifI (fun σ' H4 => σ' = [some (.ref d), some (.ref p), some (.int (n : Int)), some (.int (r : Int)), some (.int way), none, none, none, none, none] ∧ H4 = H3) (fun N kN => ?_) fun σ' H4 hI => ?_
    · refine rd_if ?_
      walk_at "rds"
      refine rd_ite (fun c => ?_) (fun c => ?_)
      · walk_at "rds"
        refine rd_I ⟨by decide, by decide⟩ ?_
        have eh : (n : Int) / 2 = ((n / 2 : Nat) : Int) := by omega
        walk_at "rds"
        refine ⟨d, l, p, zs, n / 2, r, by rw [eh] <;> rfl, by omega, by omega, g1.dk, hp1, n1, n2, hnk, hok, fun x f H4 g4 d4 b4 => ?_⟩
        walk_at "rds"
        have g14 := g1.trans g4
        refine ⟨d, l, p, zs, n / 2, r, by rw [eh] <;> rfl, by omega, by omega, g4.dk, g4.kp p _ n1 n2 hp1, n1, n2, hnk, hok, fun y g H5 g5 d5 b5 => ?_⟩
        walk_at "rds"
        refine ⟨(by show 3 ≤ sizeLine; decide), fun t2 ht2 => ?_⟩
        have g6 := Gt.new (o := .tup [V.str "same", x, y]) g5.dk ht2
        have e6 := Evl.Ex.new (o := .tup [V.str "same", x, y]) ht2
        exact q _ (.same f g) _ (g14.trans (g5.trans g6)) (mk_same (SqT.of upd_same) (dpF_ex e6 (dpF_gt g5 g4.dk d4)) (dpF_ex e6 d5)) (.same hn2 b4 b5)
      · walk_at "rds"
        exact kN _ _ ⟨rfl, rfl⟩
    obtain ⟨rfl, rfl⟩ := hI
    walk_at "rds"
    refine ⟨d, l, 2, rfl, g1.dk, by decide, by decide, fun kk H5 g5 k0 k1 => ?_⟩
    obtain ⟨k, hkk, hk2, hk3⟩ : ∃ k : Nat, 2 + kk = (k : Int) ∧ 2 ≤ k ∧ k ≤ 3 := ⟨(2 + kk).toNat, by omega, by omega, by omega⟩
    walk_at "rds"
    rw [hkk]
    refine ⟨(k : Int), rfl, by omega, by omega, ?_⟩
    rw [Int.toNat_natCast]
    have g15 := g1.trans g5
    have eq1 : ((n : Int) - 1) / (k : Int) = (((n - 1) / k : Nat) : Int) := by
      rw [show (n : Int) - 1 = ((n - 1 : Nat) : Int) by omega] <;> rfl
    have hlt : (n - 1) / k ≤ n - 1 := Nat.div_le_self _ _
    refine lc_gtF (K := K) (lo := 0) (Gd zs r ((n - 1) / k)) g5.dk (by omega) (σx := fun x => [some (.ref d), some (.ref p), some (.int (n : Int)), some (.int (r : Int)), some (.int way), none, none, some (.int (k : Int)), none, some x]) (fun _ => rfl) (fun _ => rfl) (fun i hi H6 N g6 kN => ?_) fun D acc fs H6 g6 hDn hDa hx hl hb => ?_
    · walk_at "rds"
      refine rd_I ⟨by omega, by omega⟩ ?_
      walk_at "rds"
      refine ⟨d, l, p, zs, (n - 1) / k, r, by rw [eq1] <;> rfl, by omega, by omega, g6.dk, (g15.trans g6).kp p _ n1 n2 hp, n1, n2, hnk, hok, fun x f H7 g7 d7 b7 => kN x f H7 g7 d7 b7⟩
    have g16 := g15.trans g6
    walk_at "rds"
    refine ⟨(by show 2 ≤ sizeLine; decide), fun p1 hp1 => ?_⟩
    obtain ⟨m1, m2⟩ := g16.dk.off hp1
    have g7 := Gt.new (o := .lst [V.str "and", .str "or"]) g16.dk hp1
    have e7 := Evl.Ex.new (o := .lst [V.str "and", .str "or"]) hp1
    walk_at "rds"
    refine ⟨d, l, p1, [V.str "and", .str "or"], rfl, g7.dk, upd_same, m1, m2, by decide, by decide, fun y H8 g8 hy => ?_⟩
    obtain ⟨cb, rfl⟩ : ∃ cb, y = V.str (cw cb) := by
      simp only [List.mem_cons, List.not_mem_nil, or_false] at hy
      rcases hy with rfl | rfl
      · exact ⟨true, rfl⟩
      · exact ⟨false, rfl⟩
    have D1 := g5.dk.off hDn
    have hx8 := dpsF_gt g8 g7.dk (dpsF_ex e7 hx)
    walk_at "rds"
    refine rd_tupL (SqL.of (g8.kp D _ D1.1 D1.2 (e7 _ _ hDa))) fun t1 ht1 => ?_
    have g9 := Gt.new (o := .tup acc) g8.dk ht1
    have e9 := Evl.Ex.new (o := .tup acc) ht1
    walk_at "rds"
    refine ⟨(by show 2 ≤ sizeLine; decide), fun t2 ht2 => ?_⟩
    have g10 := Gt.new (o := .tup [V.str (cw cb), .ref t1]) g9.dk ht2
    have e10 := Evl.Ex.new (o := .tup [V.str (cw cb), .ref t1]) ht2
    exact q _ (.conn cb fs) _ (g16.trans (g7.trans (g8.trans (g9.trans g10)))) (mk_conn (Evl.ex_t e10 (SqT.of upd_same)) (dpsF_ex (e9.trans e10) hx8) (SqT.of upd_same)) (.conn hn2 hk2 hk3 hl hb)
theorem ok_fm {f fD fP : Addr} {fd fdD fdP : FuncData} (F : Fun K "_law_formula" "_law_formula" s_law_formula f fd) (T : Bl mg)
    (G_law_take : FnOk P w K mg base CX0 1 fD fdD ["bag", "many"] spTake) (C_law_take : Callee K mg "_law_take" fD fdD ["bag", "many"])
    (G_law_pick : FnOk P w K mg base CX0 2 fP fdP ["bag", "some"] spPick) (C_law_pick : Callee K mg "_law_pick" fP fdP ["bag", "some"])
    (C_law_formula : Callee K mg "_law_formula" f fd ["bag", "names", "size", "more"]) : ∀ m, FnOk P w K mg base CX0 (m + 2) f fd ["bag", "names", "size", "more"] (spFm K m)
  | 0 => ok_fm0
  | m + 1 => ok_fm1 F T (by omega) (by omega) G_law_take C_law_take G_law_pick C_law_pick (ok_fm F T G_law_take C_law_take G_law_pick C_law_pick C_law_formula m) C_law_formula
end
end KA
set_option Elab.async false
set_option linter.all false
set_option maxRecDepth 100000
set_option maxHeartbeats 1000000
/-! zip of a list and a tuple. -/
namespace Ea
open PySem PySem.Spec PyProof.Rows L2
/-- the list at a and the tuple at b, the items in new pairs -/
def ItzN (K : PySem.W.Frag) (a b : Addr) : It :=
  ⟨fun i H => ∃ (xs ys : List V) (x y : V), SqL K H a xs ∧ SqT K H b ys ∧ xs[i]? = some x ∧ ys[i]? = some y,
    fun i H v H' => ∃ T x y, v = .ref T ∧ H T = none ∧ H' = upd H T (.tup [x, y]) ∧ (∀ xs, SqL K H a xs → xs[i]? = some x) ∧ ∀ ys, SqT K H b ys → ys[i]? = some y,
    fun i H => ∃ xs ys : List V, SqL K H a xs ∧ SqT K H b ys ∧ i ≤ xs.length ∧ i ≤ ys.length ∧ (i = xs.length ∨ i = ys.length)⟩
theorem cells_sepN {h : Heap} {z TI TO i1 i2 a b : Addr} {k1 k2 : Nat} {xs ys : Array Value} {x y : Value} (C : Cells z TI TO i1 i2) (hz : IsZip h z TI TO .none) (hTO : IsTupOf2 h TO x y)
    (h1 : h.IsListIter i1 a k1) (h2 : h.IsTupleIter i2 b k2) (ha : h.IsList a xs) (hb : h.IsTuple b ys) (nTb : TO ≠ b) : ZipSep2 z TI TO i1 i2 [i1, a] [i2, b] ∧ a ≠ i1 ∧ b ≠ i2 := by
  obtain ⟨o1, e1, c1, _⟩ := h1
  obtain ⟨o2, e2, c2, _⟩ := h2
  obtain ⟨oa, ea, ca, _⟩ := ha
  obtain ⟨ob, eb, cb, _⟩ := hb
  have nza : z ≠ a := apart hz ea (by rw [ca]; show Value.type "zip" ≠ Value.type "list"; decide)
  have nzb : z ≠ b := apart hz eb (by rw [cb]; show Value.type "zip" ≠ Value.type "tuple"; decide)
  have hTa : TO ≠ a := apart hTO ea (by rw [ca]; show Value.type "tuple" ≠ Value.type "list"; decide)
  have n1b : i1 ≠ b := apart e1 eb (by rw [c1, cb]; decide)
  have n2a : i2 ≠ a := apart e2 ea (by rw [c2, ca]; decide)
  have na1 : a ≠ i1 := apart ea e1 (by rw [ca, c1]; decide)
  have nb2 : b ≠ i2 := apart eb e2 (by rw [cb, c2]; decide)
  refine ⟨{ TIz := C.TIz, TOz := C.TOz, TITO := C.TITO, TIi1 := C.TIi1, mem1 := by simp, zf1 := ?_, Tf1 := ?_, TIi2 := C.TIi2, mem2 := by simp, zf2 := ?_, Tf2 := ?_, sep1_2 := ?_, sep2_1 := ?_ }, na1, nb2⟩
  · simp [C.zi1, nza]
  · simp [C.TOi1, hTa]
  · simp [C.zi2, nzb]
  · simp [C.TOi2, nTb]
  · simp [C.i12, n1b]
  · simp [C.i12.symm, n2a]
theorem turn_zipN {P : Program} {w : World} {K : PySem.W.Frag} {elts : List Expr} {kk : Nat} {tpos : Pos} {a b z TI TO i1 i2 : Addr} (C : Cells z TI TO i1 i2) (hTb : TO ≠ b) :
    L2.Turn P w K (.Tuple elts kk tpos) (ItzN K a b) [z, TI, TO, i1, i2] z (fun i h => IsZip h z TI TO .none ∧ IsTupOf2 h TI (.ref i1) (.ref i2) ∧ (∃ x y, IsTupOf2 h TO x y) ∧ h.IsListIter i1 a i ∧ h.IsTupleIter i2 b i) where
  mem := by simp
  obj := fun i h st c hc => by
    obtain ⟨hz, hTI, ⟨x, y, hTO⟩, ⟨o1, e1, _, d1⟩, ⟨o2, e2, _, d2⟩⟩ := st
    have e' : c = z ∨ c = TI ∨ c = TO ∨ c = i1 ∨ c = i2 := by simpa using hc
    rcases e' with rfl | rfl | rfl | rfl | rfl
    · exact ⟨_, hz, fun v q => nomatch q⟩
    · exact ⟨_, hTI, fun v q => nomatch q⟩
    · exact ⟨_, hTO, fun v q => nomatch q⟩
    · exact ⟨o1, e1, fun v q => by rw [d1] at q; cases q⟩
    · exact ⟨o2, e2, fun v q => by rw [d2] at q; cases q⟩
  keep := fun i h h' st k => by
    obtain ⟨hz, hTI, ⟨x, y, hTO⟩, h1, h2⟩ := st
    exact ⟨k z (by simp) _ hz, k TI (by simp) _ hTI, ⟨x, y, k TO (by simp) _ hTO⟩, h1.at fun o q => k i1 (by simp) o q, h2.at fun o q => k i2 (by simp) o q⟩
  item := by
    intro X hP hw hK hc i pins s σ H E I hf st hg
    subst hP hw hK
    obtain ⟨hz, hTI, ⟨x0, y0, hTO⟩, h1, h2⟩ := st
    obtain ⟨xs, ys, x, y, hqx, hqy, hx, hy⟩ := hg
    obtain ⟨its, rv, p, _⟩ := I.list hqx
    obtain ⟨its2, rv2, p2, _⟩ := I.tuple hqy
    obtain ⟨u, hu, ru⟩ := rv.get hx
    obtain ⟨u2, hu2, ru2⟩ := rv2.get hy
    have pt : s.heap.IsTuple b its2.toArray := p2
    obtain ⟨S, na1, nb2⟩ := cells_sepN C hz hTO h1 h2 p.isList pt hTb
    have hzl : z < s.heap.objs.size := Heap.lt_size hz
    have hlt1 : i < its.toArray.size := by
      have := (List.getElem?_eq_some_iff.mp hu).1
      simpa using this
    have hlt2 : i < its2.toArray.size := by
      have := (List.getElem?_eq_some_iff.mp hu2).1
      simpa using this
    refine wpAny_pyNext_zipD2_item S (Draws.list (prog := X.prog) (w := X.w) (A := X.A.in1) (I.ok.hd hc) i1 a na1 its.toArray) (Draws.tuple (prog := X.prog) (w := X.w) (A := X.A.in1) (I.ok.hd hc) i2 b nb2 its2.toArray) hz hTI hTO ⟨h1, p.isList⟩ ⟨h2, pt⟩ hlt1 hlt2 fun x1 x2 h' tk hP1 hP2 z' TO' st1 st2 hT hsz hk => ?_
    obtain rfl : u = x1 := by
      have q : its[i]? = some x1 := by simpa using hP1
      rw [hu] at q
      exact Option.some.inj q
    obtain rfl : u2 = x2 := by
      have q : its2[i]? = some x2 := by simpa using hP2
      rw [hu2] at q
      exact Option.some.inj q
    refine ⟨_, rfl, wpAny_letOwnedTupleGo_zip (s := { s with heap := h', toks := tk }) z' fun h'' z'' sb => ?_⟩
    have hT2 : h''.get? s.heap.objs.size = some { cls := .type "tuple", data := .seq #[u, u2] } := (sb.2 _ (Nat.ne_of_gt hzl)).trans hT
    have new : ObjOk X.prog X.w (upd H s.heap.objs.size (.tup [x, y])) h'' s.heap.objs.size (.tup [x, y]) :=
      ⟨by show 2 ≤ sizeLine; decide, [u, u2], .cons ru (.cons ru2 .nil), ⟨_, hT2, rfl, _, rfl⟩⟩
    have I1 : Inv X pins σ (upd H s.heap.objs.size (.tup [x, y])) { s with heap := h'', toks := tk } :=
      I.turnedNew (ch := [z, TI, TO, i1, i2]) (fun c o hb q => (sb.2 c (fun q' => hb (by simp [q']))).trans (hk c o (fun q' => hb (by simp [q'])) (fun q' => hb (by simp [q'])) (fun q' => hb (by simp [q'])) (fun q' => hb (by simp [q'])) q)) hf (Nat.le_refl _) new
    refine ⟨.ref s.heap.objs.size, _, I1, rfl, ⟨_, x, y, rfl, I.hok.fresh (Nat.le_refl _), rfl, fun l hl => by rw [I.list_inj hl hqx]; exact hx, fun l hl => by rw [I.tuple_inj hl hqy]; exact hy⟩, ⟨z'', ?_, ⟨u, u2, ?_⟩, ?_, ?_⟩, fun c hcm => ?_⟩
    · exact (sb.2 _ C.TIz).trans (hk _ _ C.TIz C.TITO C.TIi1 C.TIi2 hTI)
    · exact (sb.2 _ C.TOz).trans TO'
    · exact st1.1.at fun o q => (sb.2 _ C.zi1.symm).trans q
    · exact st2.1.at fun o q => (sb.2 _ C.zi2.symm).trans q
    · have hlt : c < s.heap.objs.size := by
        have e' : c = z ∨ c = TI ∨ c = TO ∨ c = i1 ∨ c = i2 := by simpa using hcm
        rcases e' with rfl | rfl | rfl | rfl | rfl
        · exact hzl
        · exact Heap.lt_size hTI
        · exact Heap.lt_size hTO
        · obtain ⟨_, e1, _⟩ := h1
          exact Heap.lt_size e1
        · obtain ⟨_, e2, _⟩ := h2
          exact Heap.lt_size e2
      rw [upd_ne (Nat.ne_of_lt hlt)]
      exact (hf c hcm).1
  done := by
    intro X hP hw hK hc i pins s σ H E I hf st hg
    subst hP hw hK
    obtain ⟨hz, hTI, ⟨x0, y0, hTO⟩, h1, h2⟩ := st
    obtain ⟨xs, ys, hqx, hqy, l1, l2, hend⟩ := hg
    obtain ⟨its, rv, p, _⟩ := I.list hqx
    obtain ⟨its2, rv2, p2, _⟩ := I.tuple hqy
    have pt : s.heap.IsTuple b its2.toArray := p2
    obtain ⟨S, na1, nb2⟩ := cells_sepN C hz hTO h1 h2 p.isList pt hTb
    have k1 := rv.length
    have k2 := rv2.length
    have m1 : i ≤ its.toArray.size := by rw [List.size_toArray]; omega
    have m2 : i ≤ its2.toArray.size := by rw [List.size_toArray]; omega
    have m3 : i = its.toArray.size ∨ i = its2.toArray.size := by rw [List.size_toArray, List.size_toArray]; omega
    exact wpAny_pyNext_zipD2_end S (Draws.list (prog := X.prog) (w := X.w) (A := X.A.in1) (I.ok.hd hc) i1 a na1 its.toArray) (Draws.tuple (prog := X.prog) (w := X.w) (A := X.A.in1) (I.ok.hd hc) i2 b nb2 its2.toArray) hz hTI hTO ⟨h1, p.isList⟩ ⟨h2, pt⟩ m1 m2 m3 fun h' tk hk => ⟨rfl, I.turnedL (t' := tk) (ch := [z, TI, TO, i1, i2]) (fun c o hb q =>
      hk c o (fun q' => hb (by simp [q'])) (fun q' => hb (by simp [q'])) (fun q' => hb (by simp [q'])) (fun q' => hb (by simp [q'])) q) hf⟩
  self := fun A i s Q E st h => wpAny_pyIter_zip st.1 h
def iZipN (K : PySem.W.Frag) (ta : TA) : TI := fun σ H R => ta σ H fun vs H1 => ∃ a b xs ys, vs = [.ref a, .ref b] ∧ SqL K H1 a xs ∧ SqT K H1 b ys ∧ R (ItzN K a b) H1
theorem pi_zipN {X : Cx} {K : PySem.W.Frag} (hKK : X.K = K) {e e2 : Expr} {ta : TA} {p pos tpos : Pos} {elts : List Expr} {kk : Nat} (hg : L2.Gl X "zip") (hm : X.mg "zip" = none) (ha : PA X [e, e2] ta)
    (hs : starEach [e, e2] X.env = (false, eval e X.env) :: starEach [e2] X.env := by rfl) (hpl : (backTo pos (starEach [e2] X.env)).any (·.1) = false := by rfl) :
    PI X (.Tuple elts kk tpos) (.Call (.Name "zip" p) [e, e2] [] pos) (iZipN K ta) := by
  subst hKK
  refine ⟨fun pins s σ H R I h => ?_⟩
  refine Call_ (ld_blt I hg hm PyProof.Rows.boot_zip (PyProof.Rows.callWith_type1 (thn (ha.run pos pins s σ H _ I h) fun us s1 ⟨vs, H1, I1, r1, q1⟩ => ?_) hs hpl))
  obtain ⟨a, b, xs, ys, ex, hqx, hqy, q⟩ := q1
  subst ex
  cases r1 with
  | cons r rr =>
    cases rr with
    | cons r' rr =>
      cases rr
      cases r
      cases r'
      obtain ⟨its, rv, p1, _⟩ := I1.list hqx
      obtain ⟨its2, rv2, p2, _⟩ := I1.tuple hqy
      obtain ⟨o1, ho1, _⟩ := id p2
      refine zip_begins2 (begins_list a its.toArray) (begins_tuple b its2.toArray) p1.isList (show s1.heap.IsTuple b its2.toArray from p2) fun h' hz hTI hTO h1 h2 hsz hk => wpAny_pyIter_zip hz ?_
      have I2 : Inv X pins σ H1 { s1 with heap := h' } := I1.kept (t' := s1.toks) hk
      have C : Cells (s1.heap.objs.size + 4) (s1.heap.objs.size + 2) (s1.heap.objs.size + 3) s1.heap.objs.size (s1.heap.objs.size + 1) := by
        constructor <;> (intro e; have e : (_ : Nat) = _ := e; omega)
      have hTb : (s1.heap.objs.size + 3 : Nat) ≠ b := Nat.ne_of_gt (Nat.lt_of_lt_of_le (Heap.lt_size ho1) (Nat.le_add_right _ _))
      refine ⟨s1.heap.objs.size + 4, [s1.heap.objs.size + 4, s1.heap.objs.size + 2, s1.heap.objs.size + 3, s1.heap.objs.size, s1.heap.objs.size + 1], _, _, H1, rfl, I2, turn_zipN C hTb, ⟨hz, hTI, ⟨_, _, hTO⟩, ⟨_, h1, rfl, rfl⟩, ⟨_, h2, rfl, rfl⟩⟩, fun c hcm => ?_, q⟩
      have e' : c = s1.heap.objs.size + 4 ∨ c = s1.heap.objs.size + 2 ∨ c = s1.heap.objs.size + 3 ∨ c = s1.heap.objs.size ∨ c = s1.heap.objs.size + 1 := by simpa using hcm
      have hle : s1.heap.objs.size ≤ c := by
        rcases e' with rfl | rfl | rfl | rfl | rfl
        · exact Nat.le_add_right _ _
        · exact Nat.le_add_right _ _
        · exact Nat.le_add_right _ _
        · exact Nat.le_refl _
        · exact Nat.le_add_right _ _
      exact I1.fpOk hle (I1.hok.fresh hle)
theorem rd_iZipN {R : It → Hp → Prop} {ta : TA} {σ : L2.St} {H : Hp} {K : PySem.W.Frag} (h : ta σ H fun vs H1 => ∃ a b xs ys, vs = [.ref a, .ref b] ∧ SqL K H1 a xs ∧ SqT K H1 b ys ∧ R (ItzN K a b) H1) : iZipN K ta σ H R := h
section
variable {K : PySem.W.Frag} {σ : L2.St} {H : Hp} {Q : VK} {tt : TT} {te : TE} {vs : List Nat} {j1 j2 k : Nat} {σx : V → V → L2.St} {a b : Addr} {f : Nat → Bool} {g : Nat → V}
theorem lc_zipN {xs ys : List V} (hk : k = 2) (hx : SqL K H a xs) (hy : SqT K H b ys) (hl : xs.length = ys.length) (hz : xs.length ≤ 40000) (hσ : ∀ x y, ((wipe σ vs).set j1 (some x)).set j2 (some y) = σx x y) (hw : ∀ x y, wipe (σx x y) vs = wipe σ vs)
    (f : Nat → Bool) (g : Nat → V) (hs : ∀ i, i < xs.length → TurnP H tt te σx (fun i => xs.getD i .non) (fun i => ys.getD i .non) f g i)
    (hd : ∀ D H', Evl.Ex H H' → H D = none → H' D = some (.lst (((List.range xs.length).filter f).map g)) → Q (.ref D) H') : LcR (gTup K k (gCons (gName j1) (gCons (gName j2) gNil))) tt te vs σ Q (ItzN K a b) H :=
  lc_pairs hk hz (fun i H' e hi => ⟨xs, ys, xs[i], ys[i]'(by omega), Evl.ex_l e hx, Evl.ex_t e hy, List.getElem?_eq_getElem hi, List.getElem?_eq_getElem (by omega)⟩) (fun H' e => ⟨xs, ys, Evl.ex_l e hx, Evl.ex_t e hy, Nat.le_refl _, by omega, .inl rfl⟩)
    (fun i H1 x H2 e hi hyy => by
      obtain ⟨T, x, y, rfl, hT, rfl, h1, h2⟩ := hyy
      have h1 := h1 xs (Evl.ex_l e hx)
      have h2 := h2 ys (Evl.ex_t e hy)
      refine ⟨T, rfl, hT, ?_⟩
      show _ = upd H1 T (.tup [xs.getD i .non, ys.getD i .non])
      rw [List.getD_eq_getElem?_getD, h1, List.getD_eq_getElem?_getD, h2] <;> rfl) hσ hw hs hd
/-- of two lists -/
theorem lc_zipLL {xs ys : List V} (hk : k = 2) (hx : SqL K H a xs) (hy : SqL K H b ys) (hl : xs.length = ys.length) (hz : xs.length ≤ 40000) (hσ : ∀ x y, ((wipe σ vs).set j1 (some x)).set j2 (some y) = σx x y) (hw : ∀ x y, wipe (σx x y) vs = wipe σ vs)
    (f : Nat → Bool) (g : Nat → V) (hs : ∀ i, i < xs.length → TurnP H tt te σx (fun i => xs.getD i .non) (fun i => ys.getD i .non) f g i)
    (hd : ∀ D H', Evl.Ex H H' → H D = none → H' D = some (.lst (((List.range xs.length).filter f).map g)) → Q (.ref D) H') : LcR (gTup K k (gCons (gName j1) (gCons (gName j2) gNil))) tt te vs σ Q (Itz K a b) H :=
  lc_pairs hk hz (fun i H' e hi => ⟨xs, ys, xs[i], ys[i]'(by omega), Evl.ex_l e hx, Evl.ex_l e hy, List.getElem?_eq_getElem hi, List.getElem?_eq_getElem (by omega)⟩) (fun H' e => ⟨xs, ys, Evl.ex_l e hx, Evl.ex_l e hy, Or.inl (Nat.le_refl _)⟩)
    (fun i H1 x H2 e hi hyy => by
      obtain ⟨T, x, y, rfl, hT, rfl, h1, h2⟩ := hyy
      have h1 := h1 xs (Evl.ex_l e hx)
      have h2 := h2 ys (Evl.ex_l e hy)
      refine ⟨T, rfl, hT, ?_⟩
      show _ = upd H1 T (.tup [xs.getD i .non, ys.getD i .non])
      rw [List.getD_eq_getElem?_getD, h1, List.getD_eq_getElem?_getD, h2] <;> rfl) hσ hw hs hd
end
end Ea
set_option Elab.async false
set_option linter.all false
set_option maxRecDepth 100000
set_option maxHeartbeats 400000
set_option pp.maxSteps 300
namespace KA
open PySem PySem.Spec PyProof.Rows L2 Ea
local macro_rules | `(tactic| walk_at "rd") => `(tactic| first
  | (with_reducible refine rd_iItems ?_) | (with_reducible refine rd_sc2 ?_) | (with_reducible refine rd_lc2 ?_) | (with_reducible refine rd_iZipN ?_) | (with_reducible refine rd_iZipL ?_) | (with_reducible refine rd_revL ?_) | (with_reducible refine rd_lstZ ?_) | (with_reducible refine rd_iRev ?_)
  | (with_reducible refine rd_seq ?_) | (with_reducible refine rd_asg ?_) | (with_reducible refine rd_if ?_) | (with_reducible refine rd_ret ?_) | (with_reducible refine rd_next ?_)
  | (with_reducible refine rd_drop ?_) | ((with_reducible refine rd_name (σ' := ?ss) ?hs ?_); (case hs => (dsimp only [List.set]; exact rfl)))
  | ((with_reducible refine rd_var (v := ?vv) ?hv ?_); (case hv => exact rfl)) | (with_reducible refine rd_c ?_) | (with_reducible refine rd_op ?_) | (with_reducible refine rd_un ?_)
  | (with_reducible refine rd_I0 ?_) | (with_reducible refine rd_U ?_) | (with_reducible refine rd_test ?_) | (with_reducible refine rd_B ?_) | (with_reducible refine rd_k ?_)
  | (with_reducible refine rd_not ?_) | (with_reducible refine rd_and ?_) | (with_reducible refine rd_or ?_) | (with_reducible refine rd_ifE ?_)
  | (with_reducible refine rd_par ?_) | ((with_reducible refine rd_par2 (σ' := ?ss) ?hs ?_); (case hs => (dsimp only [List.set]; exact rfl)))
  | (with_reducible refine rd_gsub ?_) | (with_reducible refine rd_andV ?_) | (with_reducible refine rd_orV ?_) | (with_reducible refine rd_notV ?_)
  | (with_reducible refine rd_lc ?_) | (with_reducible refine rd_iTup ?_) | (with_reducible refine rd_iList ?_) | (with_reducible refine rd_iRng1 ?_) | (with_reducible refine rd_iRng2 ?_) | (with_reducible refine rd_iEnumT ?_) | (with_reducible refine rd_iEnum ?_) | (with_reducible refine rd_iZipM ?_) | (with_reducible refine rd_iEnumS ?_) | (with_reducible refine rd_iKeys ?_) | (with_reducible refine rd_din ?_) | (with_reducible refine rd_dnotin ?_)
  | (with_reducible refine rd_yes ?_) | (with_reducible refine rd_true ?_) | (with_reducible refine rd_false ?_) | (with_reducible refine rd_m1 ?_) | (with_reducible refine rd_isS ?_)
  | ((with_reducible refine rd_eq ?hs ?_); (case hs => exact rfl)) | ((with_reducible refine rd_ne ?hs ?_); (case hs => exact rfl))
  | (with_reducible refine rd_listRg ?_) | (with_reducible refine rd_rg2 ?_) | (with_reducible refine rd_rgk ?_)
  | (with_reducible refine rd_dnew ?_) | (with_reducible refine rd_ddel ?_) | (with_reducible refine rd_kw ?_) | (with_reducible refine rd_callS ?_) | (with_reducible refine rd_dc ?_) | (with_reducible refine rd_for ?_) | (with_reducible refine rd_tru ?_) | (with_reducible refine rd_truI ?_)
  | (with_reducible refine rd_nil ?_) | (with_reducible refine rd_cons ?_) | (with_reducible refine rd_call ?_) | (with_reducible refine rd_cb ?_)
  | (with_reducible refine rd_tup ?_) | (with_reducible refine rd_lst ?_) | (with_reducible refine rd_dget ?_) | (with_reducible refine rd_dput ?_) | (with_reducible refine rd_dget2 ?_) | (with_reducible refine rd_sl ?_)
  | (with_reducible refine rd_nopart ?_) | (with_reducible refine rd_part ?_) | (with_reducible refine rd_parti ?_) | (with_reducible refine rd_bm ?_) | (with_reducible refine rd_bm0 ?_)
  | (with_reducible refine rd_int ?_) | (with_reducible refine rd_intb ?_) | (with_reducible refine rd_abs ?_) | (with_reducible refine rd_min2 ?_) | (with_reducible refine rd_max2 ?_))
local macro_rules | `(tactic| walk_at "rds") => `(tactic| repeat (walk_at "rd"))
local macro_rules | `(tactic| walk_at "rq") => `(tactic| first
  | (with_reducible refine rd_iItems ?_) | (with_reducible refine rd_sc2 ?_) | (with_reducible refine rd_lc2 ?_) | (with_reducible refine rd_iZipN ?_) | (with_reducible refine rd_iZipL ?_) | (with_reducible refine rd_revL ?_) | (with_reducible refine rd_lstZ ?_) | (with_reducible refine rd_iRev ?_)
  | (with_reducible refine rd_seq ?_) | (with_reducible refine rd_asg ?_) | (with_reducible refine rd_ret ?_) | (with_reducible refine rd_next ?_)
  | (with_reducible refine rd_drop ?_) | ((with_reducible refine rd_name (σ' := ?ss) ?hs ?_); (case hs => (dsimp only [List.set]; exact rfl)))
  | ((with_reducible refine rd_var (v := ?vv) ?hv ?_); (case hv => exact rfl)) | (with_reducible refine rd_c ?_) | (with_reducible refine rd_op ?_) | (with_reducible refine rd_un ?_)
  | (with_reducible refine rd_I0 ?_) | (with_reducible refine rd_U ?_) | (with_reducible refine rd_test ?_) | (with_reducible refine rd_B ?_) | (with_reducible refine rd_k ?_)
  | (with_reducible refine rd_not ?_) | (with_reducible refine rd_and ?_) | (with_reducible refine rd_or ?_) | (with_reducible refine rd_ifE ?_)
  | (with_reducible refine rd_par ?_) | ((with_reducible refine rd_par2 (σ' := ?ss) ?hs ?_); (case hs => (dsimp only [List.set]; exact rfl)))
  | (with_reducible refine rd_gsub ?_) | (with_reducible refine rd_andV ?_) | (with_reducible refine rd_orV ?_) | (with_reducible refine rd_notV ?_)
  | (with_reducible refine rd_lc ?_) | (with_reducible refine rd_iTup ?_) | (with_reducible refine rd_iList ?_) | (with_reducible refine rd_iRng1 ?_) | (with_reducible refine rd_iRng2 ?_) | (with_reducible refine rd_iEnumT ?_) | (with_reducible refine rd_iEnum ?_) | (with_reducible refine rd_iZipM ?_) | (with_reducible refine rd_iEnumS ?_) | (with_reducible refine rd_iKeys ?_) | (with_reducible refine rd_din ?_) | (with_reducible refine rd_dnotin ?_)
  | (with_reducible refine rd_yes ?_) | (with_reducible refine rd_true ?_) | (with_reducible refine rd_false ?_) | (with_reducible refine rd_m1 ?_) | (with_reducible refine rd_isS ?_)
  | ((with_reducible refine rd_eq ?hs ?_); (case hs => exact rfl)) | ((with_reducible refine rd_ne ?hs ?_); (case hs => exact rfl))
  | (with_reducible refine rd_listRg ?_) | (with_reducible refine rd_rg2 ?_) | (with_reducible refine rd_rgk ?_)
  | (with_reducible refine rd_dnew ?_) | (with_reducible refine rd_ddel ?_) | (with_reducible refine rd_kw ?_) | (with_reducible refine rd_callS ?_) | (with_reducible refine rd_dc ?_) | (with_reducible refine rd_for ?_) | (with_reducible refine rd_tru ?_) | (with_reducible refine rd_truI ?_)
  | (with_reducible refine rd_nil ?_) | (with_reducible refine rd_cons ?_) | (with_reducible refine rd_call ?_) | (with_reducible refine rd_cb ?_)
  | (with_reducible refine rd_tup ?_) | (with_reducible refine rd_lst ?_) | (with_reducible refine rd_dget ?_) | (with_reducible refine rd_dput ?_) | (with_reducible refine rd_dget2 ?_) | (with_reducible refine rd_sl ?_)
  | (with_reducible refine rd_nopart ?_) | (with_reducible refine rd_part ?_) | (with_reducible refine rd_parti ?_) | (with_reducible refine rd_bm ?_) | (with_reducible refine rd_bm0 ?_)
  | (with_reducible refine rd_int ?_) | (with_reducible refine rd_intb ?_) | (with_reducible refine rd_abs ?_) | (with_reducible refine rd_min2 ?_) | (with_reducible refine rd_max2 ?_))
local macro_rules | `(tactic| walk_at "rqs") => `(tactic| repeat (walk_at "rq"))
local macro_rules | `(tactic| walk_at "rv") => `(tactic| first
  | (with_reducible refine rd_iItems ?_) | (with_reducible refine rd_sc2 ?_) | (with_reducible refine rd_lc2 ?_) | (with_reducible refine rd_iZipN ?_) | (with_reducible refine rd_iZipL ?_) | (with_reducible refine rd_revL ?_) | (with_reducible refine rd_lstZ ?_) | (with_reducible refine rd_iRev ?_)
  | (with_reducible refine rd_seq ?_) | (with_reducible refine rd_asg ?_) | (with_reducible refine rd_ret ?_) | (with_reducible refine rd_next ?_)
  | (with_reducible refine rd_drop ?_) | ((with_reducible refine rd_name (σ' := ?ss) ?hs ?_); (case hs => (dsimp only [List.set]; exact rfl)))
  | ((with_reducible refine rd_var (v := ?vv) ?hv ?_); (case hv => exact rfl)) | (with_reducible refine rd_c ?_) | (with_reducible refine rd_op ?_) | (with_reducible refine rd_un ?_)
  | (with_reducible refine rd_I0 ?_) | (with_reducible refine rd_U ?_) | (with_reducible refine rd_test ?_) | (with_reducible refine rd_B ?_) | (with_reducible refine rd_k ?_)
  | (with_reducible refine rd_not ?_) | (with_reducible refine rd_and ?_) | (with_reducible refine rd_or ?_)
  | (with_reducible refine rd_par ?_) | ((with_reducible refine rd_par2 (σ' := ?ss) ?hs ?_); (case hs => (dsimp only [List.set]; exact rfl)))
  | (with_reducible refine rd_gsub ?_) | (with_reducible refine rd_andV ?_) | (with_reducible refine rd_orV ?_) | (with_reducible refine rd_notV ?_)
  | (with_reducible refine rd_lc ?_) | (with_reducible refine rd_iTup ?_) | (with_reducible refine rd_iList ?_) | (with_reducible refine rd_iRng1 ?_) | (with_reducible refine rd_iRng2 ?_) | (with_reducible refine rd_iEnumT ?_) | (with_reducible refine rd_iEnum ?_) | (with_reducible refine rd_iZipM ?_) | (with_reducible refine rd_iEnumS ?_) | (with_reducible refine rd_iKeys ?_) | (with_reducible refine rd_din ?_) | (with_reducible refine rd_dnotin ?_)
  | (with_reducible refine rd_yes ?_) | (with_reducible refine rd_true ?_) | (with_reducible refine rd_false ?_) | (with_reducible refine rd_m1 ?_) | (with_reducible refine rd_isS ?_)
  | ((with_reducible refine rd_eq ?hs ?_); (case hs => exact rfl)) | ((with_reducible refine rd_ne ?hs ?_); (case hs => exact rfl))
  | (with_reducible refine rd_listRg ?_) | (with_reducible refine rd_rg2 ?_) | (with_reducible refine rd_rgk ?_)
  | (with_reducible refine rd_dnew ?_) | (with_reducible refine rd_ddel ?_) | (with_reducible refine rd_kw ?_) | (with_reducible refine rd_callS ?_) | (with_reducible refine rd_dc ?_) | (with_reducible refine rd_for ?_) | (with_reducible refine rd_tru ?_) | (with_reducible refine rd_truI ?_)
  | (with_reducible refine rd_nil ?_) | (with_reducible refine rd_cons ?_) | (with_reducible refine rd_call ?_) | (with_reducible refine rd_cb ?_)
  | (with_reducible refine rd_tup ?_) | (with_reducible refine rd_lst ?_) | (with_reducible refine rd_dget ?_) | (with_reducible refine rd_dput ?_) | (with_reducible refine rd_dget2 ?_) | (with_reducible refine rd_sl ?_)
  | (with_reducible refine rd_nopart ?_) | (with_reducible refine rd_part ?_) | (with_reducible refine rd_parti ?_) | (with_reducible refine rd_bm ?_) | (with_reducible refine rd_bm0 ?_)
  | (with_reducible refine rd_int ?_) | (with_reducible refine rd_intb ?_) | (with_reducible refine rd_abs ?_) | (with_reducible refine rd_min2 ?_) | (with_reducible refine rd_max2 ?_))
local macro_rules | `(tactic| walk_at "rvs") => `(tactic| repeat (walk_at "rv"))

def envR : List Str → List Bool → Str → Bool
  | z :: t, b :: u, y => if y = z then b else envR t u y
  | _, _, _ => false
/-- the world of a row: a name's last place counts -/
def envL (zs : List Str) (row : List Bool) : Str → Bool := envR zs.reverse row.reverse
theorem envL_snoc (zs : List Str) (x : Str) (row : List Bool) (b : Bool) : envL (zs ++ [x]) (row ++ [b]) = setW (envL zs row) x b := funext fun y => by
  unfold envL setW
  rw [List.reverse_append, List.reverse_append]
  rfl
theorem envR_at : ∀ {zr : List Str} {z : Str}, z ∈ zr → ∃ j : Nat, j < zr.length ∧ zr[j]? = some z ∧ (∀ m y, m < j → zr[m]? = some y → y ≠ z) ∧ ∀ br : List Bool, br.length = zr.length → br[j]? = some (envR zr br z)
  | [], _, h => by cases h
  | y :: t, z, h => by
    by_cases c : z = y
    · subst c
      refine ⟨0, by simp, rfl, fun m y hm => absurd hm (Nat.not_lt_zero _), fun br hb => ?_⟩
      match br, hb with
      | b :: u, hb =>
        show some b = some (if z = z then b else _)
        rw [if_pos rfl]
    · have h2 : z ∈ t := (List.mem_cons.mp h).resolve_left c
      obtain ⟨j, h3, h4, h5, h6⟩ := envR_at h2
      refine ⟨j + 1, by simpa using h3, h4, fun m x hm hx => ?_, fun br hb => ?_⟩
      · match m, hm, hx with
        | 0, _, hx =>
          obtain rfl : y = x := Option.some.inj hx
          exact fun e => c e.symm
        | m + 1, hm, hx => exact h5 m x (by omega) hx
      · match br, hb with
        | b :: u, hb =>
          show u[j]? = some (if z = y then b else _)
          rw [if_neg c]
          exact h6 u (by simpa using hb)
/-- rows of truth values -/
def TB (K : PySem.W.Frag) (H : Hp) (ws : List V) (rows : List (List Bool)) : Prop := ws.length = rows.length ∧ ∀ (i : Nat) (row : List Bool), rows[i]? = some row → ∃ a : Addr, ws[i]? = some (.ref a) ∧ SqT K H a (row.map V.bl)
section
variable {K : PySem.W.Frag} {H H' : Hp} {ws : List V} {rows : List (List Bool)}
theorem TB.ex (e : Evl.Ex H H') (h : TB K H ws rows) : TB K H' ws rows := ⟨h.1, fun i row hi => by
  obtain ⟨a, h1, h2⟩ := h.2 i row hi
  exact ⟨a, h1, Evl.ex_t e h2⟩⟩
theorem TB.upd {D : Addr} {ys u : List V} (e : H D = some (.lst ys)) (h : TB K H ws rows) : TB K (upd H D (.lst u)) ws rows := ⟨h.1, fun i row hi => by
  obtain ⟨a, h1, h2⟩ := h.2 i row hi
  exact ⟨a, h1, tup_upd e lst_not h2⟩⟩
theorem TB.nil : TB K H [] [] := ⟨rfl, fun i row h => by simp at h⟩
theorem TB.snoc {a : Addr} {row : List Bool} (h : TB K H ws rows) (s : SqT K H a (row.map V.bl)) : TB K H (ws ++ [.ref a]) (rows ++ [row]) := ⟨by rw [List.length_append, List.length_append, h.1] <;> rfl, fun i r hi => by
  rw [List.getElem?_append] at hi
  split at hi
  · next c =>
    obtain ⟨b, h1, h2⟩ := h.2 i r hi
    exact ⟨b, by rw [List.getElem?_append_left (by rw [h.1]; exact c)]; exact h1, h2⟩
  · next c =>
    have hi0 : i - rows.length = 0 := by
      have := (List.getElem?_eq_some_iff.mp hi).1
      rw [List.length_singleton] at this
      omega
    rw [hi0] at hi
    obtain rfl : row = r := Option.some.inj hi
    exact ⟨a, by rw [List.getElem?_append_right (by rw [h.1]; omega), h.1, hi0] <;> rfl, s⟩⟩
theorem TB.app {vs : List V} {more : List (List Bool)} (h : TB K H ws rows) (h2 : TB K H vs more) : TB K H (ws ++ vs) (rows ++ more) := ⟨by rw [List.length_append, List.length_append, h.1, h2.1], fun i r hi => by
  rw [List.getElem?_append] at hi
  split at hi
  · next c =>
    obtain ⟨b, h1, h2⟩ := h.2 i r hi
    exact ⟨b, by rw [List.getElem?_append_left (by rw [h.1]; exact c)]; exact h1, h2⟩
  · next c =>
    obtain ⟨b, h3, h4⟩ := h2.2 _ r hi
    exact ⟨b, by rw [List.getElem?_append_right (by rw [h.1]; omega), h.1]; exact h3, h4⟩⟩
end
def flags : Nat → List (List Bool)
  | 0 => [[]]
  | k + 1 => (flags k).map (· ++ [true]) ++ (flags k).map (· ++ [false])
theorem flags_len : ∀ k, (flags k).length = 2 ^ k
  | 0 => rfl
  | k + 1 => by
    rw [flags, List.length_append, List.length_map, List.length_map, flags_len k, Nat.pow_succ]
    omega
theorem flags_row : ∀ {k : Nat} {row : List Bool}, row ∈ flags k → row.length = k
  | 0, row, h => by rw [flags] at h; rw [List.mem_singleton.mp h]; rfl
  | k + 1, row, h => by
    rw [flags] at h
    rcases List.mem_append.mp h with h | h <;> obtain ⟨r, hr, rfl⟩ := List.mem_map.mp h <;> rw [List.length_append, flags_row hr] <;> rfl
section
variable {K : PySem.W.Frag} {σ : L2.St} {H : Hp} {Q : VK} {te : TE} {vs : List Nat} {j : Nat} {σx : V → L2.St} {a : Addr} {ws : List V} {rows : List (List Bool)}
/-- rows made longer -/
theorem lc_longer (b : Bool) (hx : H a = some (.lst ws)) (hw : TB K H ws rows) (hz : rows.length ≤ 20000) (hσ : ∀ x, (wipe σ vs).set j (some x) = σx x) (hwp : ∀ x, wipe (σx x) vs = wipe σ vs)
    (hs : ∀ (p : Addr) (row : List Bool), row ∈ rows → ∀ (H' : Hp) (N : VK), Evl.Ex H H' → SqT K H' p (row.map V.bl) → (∀ (q : Addr) (H3 : Hp), Evl.Ex H' H3 → SqT K H3 q ((row ++ [b]).map V.bl) → N (.ref q) H3) → te (σx (.ref p)) H' N)
    (hd : ∀ D acc H', Evl.Ex H H' → H D = none → H' D = some (.lst acc) → TB K H' acc (rows.map (· ++ [b])) → Q (.ref D) H') : LcR (gName j) tYes te vs σ Q (Itl K a) H :=
  lc_lsL (K := K) (xs := ws) (fun D i acc H' => TB K H' acc ((rows.take i).map (· ++ [b]))) (fun i acc H1 D u e h => h.upd e) (SqL.of hx) (by rw [hw.1]; omega) hσ hwp (fun D H' _ => TB.nil) (fun i x hi D acc H' N ex hDa hP kN => by
    have hil : i < rows.length := by rw [← hw.1]; exact (List.getElem?_eq_some_iff.mp hi).1
    obtain ⟨p, h1, h2⟩ := hw.2 i rows[i] (List.getElem?_eq_getElem hil)
    rw [hi] at h1
    obtain rfl : x = V.ref p := Option.some.inj h1
    refine hs p rows[i] (List.getElem_mem hil) H' N ex (Evl.ex_t ex h2) fun q H3 e3 sq => kN _ _ e3 ?_
    rw [List.take_add_one, List.getElem?_eq_getElem hil, List.map_append]
    exact ((hP.ex e3).snoc sq).upd (e3 _ _ hDa)) fun D acc H' ex hn hD hP => by
    rw [hw.1, List.take_length] at hP
    exact hd D acc H' ex hn hD hP
end
section
variable {P : Program} {w : World} {K : PySem.W.Frag} {mg : Str → Option Value} {base : Heap}
def spFlags (K : PySem.W.Frag) : Sp := fun vs H Q _ => ∃ k : Nat, vs = [.int (k : Int)] ∧ k ≤ 10 ∧ ∀ (D : Addr) (ws : List V) (H' : Hp), Evl.Ex H H' → H D = none → H' D = some (.lst ws) → TB K H' ws (flags k) → Q (.ref D) H'
end
end KA
set_option Elab.async false
set_option linter.all false
set_option maxRecDepth 100000
set_option maxHeartbeats 400000
set_option pp.maxSteps 300
namespace KA
open PySem PySem.Spec PyProof.Rows L2 Ea
local macro_rules | `(tactic| walk_at "rd") => `(tactic| first
  | (with_reducible refine rd_iItems ?_) | (with_reducible refine rd_sc2 ?_) | (with_reducible refine rd_lc2 ?_) | (with_reducible refine rd_iZipN ?_) | (with_reducible refine rd_iZipL ?_) | (with_reducible refine rd_revL ?_) | (with_reducible refine rd_lstZ ?_) | (with_reducible refine rd_iRev ?_)
  | (with_reducible refine rd_seq ?_) | (with_reducible refine rd_asg ?_) | (with_reducible refine rd_if ?_) | (with_reducible refine rd_ret ?_) | (with_reducible refine rd_next ?_)
  | (with_reducible refine rd_drop ?_) | ((with_reducible refine rd_name (σ' := ?ss) ?hs ?_); (case hs => (dsimp only [List.set]; exact rfl)))
  | ((with_reducible refine rd_var (v := ?vv) ?hv ?_); (case hv => exact rfl)) | (with_reducible refine rd_c ?_) | (with_reducible refine rd_op ?_) | (with_reducible refine rd_un ?_)
  | (with_reducible refine rd_I0 ?_) | (with_reducible refine rd_U ?_) | (with_reducible refine rd_test ?_) | (with_reducible refine rd_B ?_) | (with_reducible refine rd_k ?_)
  | (with_reducible refine rd_not ?_) | (with_reducible refine rd_and ?_) | (with_reducible refine rd_or ?_) | (with_reducible refine rd_ifE ?_)
  | (with_reducible refine rd_par ?_) | ((with_reducible refine rd_par2 (σ' := ?ss) ?hs ?_); (case hs => (dsimp only [List.set]; exact rfl)))
  | (with_reducible refine rd_gsub ?_) | (with_reducible refine rd_andV ?_) | (with_reducible refine rd_orV ?_) | (with_reducible refine rd_notV ?_)
  | (with_reducible refine rd_lc ?_) | (with_reducible refine rd_iTup ?_) | (with_reducible refine rd_iList ?_) | (with_reducible refine rd_iRng1 ?_) | (with_reducible refine rd_iRng2 ?_) | (with_reducible refine rd_iEnumT ?_) | (with_reducible refine rd_iEnum ?_) | (with_reducible refine rd_iZipM ?_) | (with_reducible refine rd_iEnumS ?_) | (with_reducible refine rd_iKeys ?_) | (with_reducible refine rd_din ?_) | (with_reducible refine rd_dnotin ?_)
  | (with_reducible refine rd_yes ?_) | (with_reducible refine rd_true ?_) | (with_reducible refine rd_false ?_) | (with_reducible refine rd_m1 ?_) | (with_reducible refine rd_isS ?_)
  | ((with_reducible refine rd_eq ?hs ?_); (case hs => exact rfl)) | ((with_reducible refine rd_ne ?hs ?_); (case hs => exact rfl))
  | (with_reducible refine rd_listRg ?_) | (with_reducible refine rd_rg2 ?_) | (with_reducible refine rd_rgk ?_)
  | (with_reducible refine rd_dnew ?_) | (with_reducible refine rd_ddel ?_) | (with_reducible refine rd_kw ?_) | (with_reducible refine rd_callS ?_) | (with_reducible refine rd_dc ?_) | (with_reducible refine rd_for ?_) | (with_reducible refine rd_tru ?_) | (with_reducible refine rd_truI ?_)
  | (with_reducible refine rd_nil ?_) | (with_reducible refine rd_cons ?_) | (with_reducible refine rd_call ?_) | (with_reducible refine rd_cb ?_)
  | (with_reducible refine rd_tup ?_) | (with_reducible refine rd_lst ?_) | (with_reducible refine rd_dget ?_) | (with_reducible refine rd_dput ?_) | (with_reducible refine rd_dget2 ?_) | (with_reducible refine rd_sl ?_)
  | (with_reducible refine rd_nopart ?_) | (with_reducible refine rd_part ?_) | (with_reducible refine rd_parti ?_) | (with_reducible refine rd_bm ?_) | (with_reducible refine rd_bm0 ?_)
  | (with_reducible refine rd_int ?_) | (with_reducible refine rd_intb ?_) | (with_reducible refine rd_abs ?_) | (with_reducible refine rd_min2 ?_) | (with_reducible refine rd_max2 ?_))
local macro_rules | `(tactic| walk_at "rds") => `(tactic| repeat (walk_at "rd"))
local macro_rules | `(tactic| walk_at "rq") => `(tactic| first
  | (with_reducible refine rd_iItems ?_) | (with_reducible refine rd_sc2 ?_) | (with_reducible refine rd_lc2 ?_) | (with_reducible refine rd_iZipN ?_) | (with_reducible refine rd_iZipL ?_) | (with_reducible refine rd_revL ?_) | (with_reducible refine rd_lstZ ?_) | (with_reducible refine rd_iRev ?_)
  | (with_reducible refine rd_seq ?_) | (with_reducible refine rd_asg ?_) | (with_reducible refine rd_ret ?_) | (with_reducible refine rd_next ?_)
  | (with_reducible refine rd_drop ?_) | ((with_reducible refine rd_name (σ' := ?ss) ?hs ?_); (case hs => (dsimp only [List.set]; exact rfl)))
  | ((with_reducible refine rd_var (v := ?vv) ?hv ?_); (case hv => exact rfl)) | (with_reducible refine rd_c ?_) | (with_reducible refine rd_op ?_) | (with_reducible refine rd_un ?_)
  | (with_reducible refine rd_I0 ?_) | (with_reducible refine rd_U ?_) | (with_reducible refine rd_test ?_) | (with_reducible refine rd_B ?_) | (with_reducible refine rd_k ?_)
  | (with_reducible refine rd_not ?_) | (with_reducible refine rd_and ?_) | (with_reducible refine rd_or ?_) | (with_reducible refine rd_ifE ?_)
  | (with_reducible refine rd_par ?_) | ((with_reducible refine rd_par2 (σ' := ?ss) ?hs ?_); (case hs => (dsimp only [List.set]; exact rfl)))
  | (with_reducible refine rd_gsub ?_) | (with_reducible refine rd_andV ?_) | (with_reducible refine rd_orV ?_) | (with_reducible refine rd_notV ?_)
  | (with_reducible refine rd_lc ?_) | (with_reducible refine rd_iTup ?_) | (with_reducible refine rd_iList ?_) | (with_reducible refine rd_iRng1 ?_) | (with_reducible refine rd_iRng2 ?_) | (with_reducible refine rd_iEnumT ?_) | (with_reducible refine rd_iEnum ?_) | (with_reducible refine rd_iZipM ?_) | (with_reducible refine rd_iEnumS ?_) | (with_reducible refine rd_iKeys ?_) | (with_reducible refine rd_din ?_) | (with_reducible refine rd_dnotin ?_)
  | (with_reducible refine rd_yes ?_) | (with_reducible refine rd_true ?_) | (with_reducible refine rd_false ?_) | (with_reducible refine rd_m1 ?_) | (with_reducible refine rd_isS ?_)
  | ((with_reducible refine rd_eq ?hs ?_); (case hs => exact rfl)) | ((with_reducible refine rd_ne ?hs ?_); (case hs => exact rfl))
  | (with_reducible refine rd_listRg ?_) | (with_reducible refine rd_rg2 ?_) | (with_reducible refine rd_rgk ?_)
  | (with_reducible refine rd_dnew ?_) | (with_reducible refine rd_ddel ?_) | (with_reducible refine rd_kw ?_) | (with_reducible refine rd_callS ?_) | (with_reducible refine rd_dc ?_) | (with_reducible refine rd_for ?_) | (with_reducible refine rd_tru ?_) | (with_reducible refine rd_truI ?_)
  | (with_reducible refine rd_nil ?_) | (with_reducible refine rd_cons ?_) | (with_reducible refine rd_call ?_) | (with_reducible refine rd_cb ?_)
  | (with_reducible refine rd_tup ?_) | (with_reducible refine rd_lst ?_) | (with_reducible refine rd_dget ?_) | (with_reducible refine rd_dput ?_) | (with_reducible refine rd_dget2 ?_) | (with_reducible refine rd_sl ?_)
  | (with_reducible refine rd_nopart ?_) | (with_reducible refine rd_part ?_) | (with_reducible refine rd_parti ?_) | (with_reducible refine rd_bm ?_) | (with_reducible refine rd_bm0 ?_)
  | (with_reducible refine rd_int ?_) | (with_reducible refine rd_intb ?_) | (with_reducible refine rd_abs ?_) | (with_reducible refine rd_min2 ?_) | (with_reducible refine rd_max2 ?_))
local macro_rules | `(tactic| walk_at "rqs") => `(tactic| repeat (walk_at "rq"))
local macro_rules | `(tactic| walk_at "rv") => `(tactic| first
  | (with_reducible refine rd_iItems ?_) | (with_reducible refine rd_sc2 ?_) | (with_reducible refine rd_lc2 ?_) | (with_reducible refine rd_iZipN ?_) | (with_reducible refine rd_iZipL ?_) | (with_reducible refine rd_revL ?_) | (with_reducible refine rd_lstZ ?_) | (with_reducible refine rd_iRev ?_)
  | (with_reducible refine rd_seq ?_) | (with_reducible refine rd_asg ?_) | (with_reducible refine rd_ret ?_) | (with_reducible refine rd_next ?_)
  | (with_reducible refine rd_drop ?_) | ((with_reducible refine rd_name (σ' := ?ss) ?hs ?_); (case hs => (dsimp only [List.set]; exact rfl)))
  | ((with_reducible refine rd_var (v := ?vv) ?hv ?_); (case hv => exact rfl)) | (with_reducible refine rd_c ?_) | (with_reducible refine rd_op ?_) | (with_reducible refine rd_un ?_)
  | (with_reducible refine rd_I0 ?_) | (with_reducible refine rd_U ?_) | (with_reducible refine rd_test ?_) | (with_reducible refine rd_B ?_) | (with_reducible refine rd_k ?_)
  | (with_reducible refine rd_not ?_) | (with_reducible refine rd_and ?_) | (with_reducible refine rd_or ?_)
  | (with_reducible refine rd_par ?_) | ((with_reducible refine rd_par2 (σ' := ?ss) ?hs ?_); (case hs => (dsimp only [List.set]; exact rfl)))
  | (with_reducible refine rd_gsub ?_) | (with_reducible refine rd_andV ?_) | (with_reducible refine rd_orV ?_) | (with_reducible refine rd_notV ?_)
  | (with_reducible refine rd_lc ?_) | (with_reducible refine rd_iTup ?_) | (with_reducible refine rd_iList ?_) | (with_reducible refine rd_iRng1 ?_) | (with_reducible refine rd_iRng2 ?_) | (with_reducible refine rd_iEnumT ?_) | (with_reducible refine rd_iEnum ?_) | (with_reducible refine rd_iZipM ?_) | (with_reducible refine rd_iEnumS ?_) | (with_reducible refine rd_iKeys ?_) | (with_reducible refine rd_din ?_) | (with_reducible refine rd_dnotin ?_)
  | (with_reducible refine rd_yes ?_) | (with_reducible refine rd_true ?_) | (with_reducible refine rd_false ?_) | (with_reducible refine rd_m1 ?_) | (with_reducible refine rd_isS ?_)
  | ((with_reducible refine rd_eq ?hs ?_); (case hs => exact rfl)) | ((with_reducible refine rd_ne ?hs ?_); (case hs => exact rfl))
  | (with_reducible refine rd_listRg ?_) | (with_reducible refine rd_rg2 ?_) | (with_reducible refine rd_rgk ?_)
  | (with_reducible refine rd_dnew ?_) | (with_reducible refine rd_ddel ?_) | (with_reducible refine rd_kw ?_) | (with_reducible refine rd_callS ?_) | (with_reducible refine rd_dc ?_) | (with_reducible refine rd_for ?_) | (with_reducible refine rd_tru ?_) | (with_reducible refine rd_truI ?_)
  | (with_reducible refine rd_nil ?_) | (with_reducible refine rd_cons ?_) | (with_reducible refine rd_call ?_) | (with_reducible refine rd_cb ?_)
  | (with_reducible refine rd_tup ?_) | (with_reducible refine rd_lst ?_) | (with_reducible refine rd_dget ?_) | (with_reducible refine rd_dput ?_) | (with_reducible refine rd_dget2 ?_) | (with_reducible refine rd_sl ?_)
  | (with_reducible refine rd_nopart ?_) | (with_reducible refine rd_part ?_) | (with_reducible refine rd_parti ?_) | (with_reducible refine rd_bm ?_) | (with_reducible refine rd_bm0 ?_)
  | (with_reducible refine rd_int ?_) | (with_reducible refine rd_intb ?_) | (with_reducible refine rd_abs ?_) | (with_reducible refine rd_min2 ?_) | (with_reducible refine rd_max2 ?_))
local macro_rules | `(tactic| walk_at "rvs") => `(tactic| repeat (walk_at "rv"))

theorem rd_revL {K : PySem.W.Frag} {te : TE} {σ : L2.St} {H : Hp} {Q : VK} (h : te σ H fun x H1 => ∃ a xs, x = .ref a ∧ SqL K H1 a xs ∧ ∀ p, H1 p = none → Q (.ref p) (upd H1 p (.lst xs.reverse))) : tRevL K te σ H Q := h
theorem hu65 {A : Around} {k : Nat} (hr : Room k A) : A.units + 65 < cLine := by
  have := hr.un
  omega
theorem filt_true (l : List Nat) : (l.filter fun _ => true) = l := List.filter_eq_self.mpr fun _ _ => rfl
theorem str_shaped {z : Str} (h : (PyData.str z).canLay0 = true) : SeqAt.shaped (.str z) = true := by
  unfold SeqAt.shaped
  rw [h] <;> rfl
theorem back_none {H H1 : Hp} {D : Addr} (e : Evl.Ex H H1) (h : H1 D = none) : H D = none := by
  cases hq : H D with
  | none => rfl
  | some o => rw [e _ _ hq] at h; cases h
/-- a formula's column -/
def colB (f : Fm) (zs : List Str) (rows : List (List Bool)) : List Bool := rows.map fun row => sem f (envL zs row)
theorem colB_len (f : Fm) (zs : List Str) (rows : List (List Bool)) : (colB f zs rows).length = rows.length := List.length_map ..
theorem zip_map (op : Bool → Bool → Bool) (f g : List Bool → Bool) (rows : List (List Bool)) : List.zipWith op (rows.map f) (rows.map g) = rows.map fun r => op (f r) (g r) := by
  induction rows with
  | nil => rfl
  | cons r t ih => rw [List.map_cons, List.map_cons, List.zipWith_cons_cons, ih, List.map_cons]
theorem colB_quan (b : Bool) (x : Str) (f : Fm) (zs : List Str) (rows : List (List Bool)) :
    List.zipWith (fun p q => if b = true then p && q else p || q) (colB f (zs ++ [x]) (rows.map (· ++ [true]))) (colB f (zs ++ [x]) (rows.map (· ++ [false]))) = colB (.quan b x f) zs rows := by
  unfold colB
  rw [List.map_map, List.map_map, zip_map]
  refine List.map_congr_left fun row _ => ?_
  show (if b = true then sem f (envL (zs ++ [x]) (row ++ [true])) && sem f (envL (zs ++ [x]) (row ++ [false])) else sem f (envL (zs ++ [x]) (row ++ [true])) || sem f (envL (zs ++ [x]) (row ++ [false]))) = _
  rw [envL_snoc, envL_snoc, sem]
theorem colB_same (f g : Fm) (zs : List Str) (rows : List (List Bool)) : List.zipWith (fun p q => p == q) (colB f zs rows) (colB g zs rows) = colB (.same f g) zs rows := by
  unfold colB
  rw [zip_map]
  exact List.map_congr_left fun row _ => by rw [sem]
/-- what a row of parts comes to from the left -/
def accB (b : Bool) (fs : List Fm) (ρ : Str → Bool) : Bool := fs.foldl (fun a g => if b = true then a && sem g ρ else a || sem g ρ) b
theorem accB_fold (b : Bool) (ρ : Str → Bool) : ∀ (fs : List Fm) (c : Bool), fs.foldl (fun a g => if b = true then a && sem g ρ else a || sem g ρ) c = if b = true then c && semL b fs ρ else c || semL b fs ρ
  | [], c => by cases b <;> cases c <;> simp [semL]
  | f :: t, c => by
    rw [List.foldl_cons, accB_fold b ρ t, semL]
    cases b
    · simp only [Bool.false_eq_true, if_false, Bool.or_assoc]
    · simp only [if_true, Bool.and_assoc]
theorem accB_sem (b : Bool) (fs : List Fm) (ρ : Str → Bool) : accB b fs ρ = sem (.conn b fs) ρ := by
  unfold accB
  rw [accB_fold, sem]
  cases b <;> simp
theorem accB_snoc (b : Bool) (fs : List Fm) (g : Fm) (ρ : Str → Bool) : accB b (fs ++ [g]) ρ = if b = true then accB b fs ρ && sem g ρ else accB b fs ρ || sem g ρ := by
  unfold accB
  rw [List.foldl_append]
  rfl
section
variable {K : PySem.W.Frag} {σ : L2.St} {H : Hp} {Q : VK} {te : TE} {vs : List Nat} {j j1 j2 k : Nat} {σx : V → L2.St} {σz : V → V → L2.St} {a b : Addr} {ws : List V} {rows : List (List Bool)}
/-- one thing for each row -/
theorem lc_rowsB (g : List Bool → Bool) (hx : H a = some (.lst ws)) (hw : TB K H ws rows) (hz : rows.length ≤ 20000) (hσ : ∀ x, (wipe σ vs).set j (some x) = σx x) (hwp : ∀ x, wipe (σx x) vs = wipe σ vs)
    (hs : ∀ (p : Addr) (row : List Bool), row ∈ rows → ∀ (H' : Hp) (N : VK), Evl.Ex H H' → SqT K H' p (row.map V.bl) → (∀ (H3 : Hp), Evl.Ex H' H3 → N (.bl (g row)) H3) → te (σx (.ref p)) H' N)
    (hd : ∀ D H', Evl.Ex H H' → H D = none → H' D = some (.lst ((rows.map g).map V.bl)) → Q (.ref D) H') : LcR (gName j) tYes te vs σ Q (Itl K a) H :=
  lc_lsL (K := K) (xs := ws) (fun D i acc H' => acc = ((rows.take i).map g).map V.bl) (fun i acc H1 D u e h => h) (SqL.of hx) (by rw [hw.1]; omega) hσ hwp (fun D H' _ => rfl) (fun i x hi D acc H' N ex hDa hP kN => by
    have hil : i < rows.length := by rw [← hw.1]; exact (List.getElem?_eq_some_iff.mp hi).1
    obtain ⟨p, h1, h2⟩ := hw.2 i rows[i] (List.getElem?_eq_getElem hil)
    rw [hi] at h1
    obtain rfl : x = V.ref p := Option.some.inj h1
    refine hs p rows[i] (List.getElem_mem hil) H' N ex (Evl.ex_t ex h2) fun H3 e3 => kN _ _ e3 ?_
    rw [List.take_add_one, List.getElem?_eq_getElem hil, List.map_append, List.map_append, hP] <;> rfl) fun D acc H' ex hn hD hP => by
    rw [hw.1, List.take_length] at hP
    rw [hP] at hD
    exact hd D H' ex hn hD
/-- two columns beside each other -/
theorem lc_zipB {as bs : List Bool} (op : Bool → Bool → Bool) (hk : k = 2) (hx : H a = some (.lst (as.map V.bl))) (hy : H b = some (.lst (bs.map V.bl))) (hl : as.length = bs.length) (hz : as.length ≤ 20000) (hσ : ∀ x y, ((wipe σ vs).set j1 (some x)).set j2 (some y) = σz x y) (hw : ∀ x y, wipe (σz x y) vs = wipe σ vs)
    (hs : ∀ (p q : Bool) (H' : Hp) (N : VK), Evl.Ex H H' → (∀ H3, Evl.Ex H' H3 → N (.bl (op p q)) H3) → te (σz (.bl p) (.bl q)) H' N)
    (hd : ∀ D H', Evl.Ex H H' → H D = none → H' D = some (.lst ((List.zipWith op as bs).map V.bl)) → Q (.ref D) H') : LcR (gTup K k (gCons (gName j1) (gCons (gName j2) gNil))) tYes te vs σ Q (Itz K a b) H :=
  lc_zipLL hk (SqL.of hx) (SqL.of hy) (by rw [List.length_map, List.length_map, hl]) (by rw [List.length_map]; omega) hσ hw (fun _ => true) (fun i => .bl (op (as.getD i false) (bs.getD i false))) (fun i hi H' N S ex k1 _ => by
    rw [List.length_map] at hi
    have e1 : (as.map V.bl).getD i .non = .bl (as.getD i false) := by rw [List.getD_eq_getElem?_getD, List.getElem?_map, List.getD_eq_getElem?_getD, List.getElem?_eq_getElem hi] <;> rfl
    have e2 : (bs.map V.bl).getD i .non = .bl (bs.getD i false) := by rw [List.getD_eq_getElem?_getD, List.getElem?_map, List.getD_eq_getElem?_getD, List.getElem?_eq_getElem (by omega : i < bs.length)] <;> rfl
    dsimp only
    rw [e1, e2]
    exact rd_yes (rd_true (hs _ _ _ _ ex (k1 rfl)))) fun D H' ex hn hD => by
    refine hd D H' ex hn ?_
    rw [hD, filt_true]
    congr 2
    rw [List.length_map]
    refine List.ext_getElem ?_ fun i h1 h2 => ?_
    · rw [List.length_map, List.length_map, List.length_zipWith]
      simp [hl]
    · have hi : i < as.length := by simpa using h1
      simp [List.getD_eq_getElem?_getD, List.getElem?_eq_getElem hi, List.getElem?_eq_getElem (by omega : i < bs.length)]
end
section
variable {K : PySem.W.Frag} {σ : L2.St} {H : Hp} {Q : VK} {te : TE} {vs : List Nat} {j : Nat} {σx : V → L2.St} {a : Addr} {as : List Bool}
theorem lc_mapB (g : Bool → Bool) (hx : H a = some (.lst (as.map V.bl))) (hz : as.length ≤ 20000) (hσ : ∀ x, (wipe σ vs).set j (some x) = σx x) (hwp : ∀ x, wipe (σx x) vs = wipe σ vs)
    (hs : ∀ (p : Bool) (H' : Hp) (N : VK), Evl.Ex H H' → (∀ (H3 : Hp), Evl.Ex H' H3 → N (.bl (g p)) H3) → te (σx (.bl p)) H' N)
    (hd : ∀ D H', Evl.Ex H H' → H D = none → H' D = some (.lst ((as.map g).map V.bl)) → Q (.ref D) H') : LcR (gName j) tYes te vs σ Q (Itl K a) H :=
  lc_lsL (K := K) (xs := as.map V.bl) (fun D i acc H' => acc = ((as.take i).map g).map V.bl) (fun i acc H1 D u e h => h) (SqL.of hx) (by rw [List.length_map]; omega) hσ hwp (fun D H' _ => rfl) (fun i x hi D acc H' N ex hDa hP kN => by
    rw [List.getElem?_map] at hi
    obtain ⟨p, hp, rfl⟩ := Option.map_eq_some_iff.mp hi
    refine hs p H' N ex fun H3 e3 => kN _ _ e3 ?_
    rw [List.take_add_one, hp, List.map_append, List.map_append, hP] <;> rfl) fun D acc H' ex hn hD hP => by
    rw [List.length_map, List.take_length] at hP
    rw [hP] at hD
    exact hd D H' ex hn hD
end
/-- lists of lists, none of them at D -/
def LLs (H : Hp) (D : Addr) (us : List V) (cs : List (List V)) : Prop := us.length = cs.length ∧ ∀ (i : Nat) (c : List V), cs[i]? = some c → ∃ L : Addr, us[i]? = some (.ref L) ∧ L ≠ D ∧ H L = some (.lst c)
theorem LLs.snoc {H H3 : Hp} {D L : Addr} {us : List V} {cs : List (List V)} {c u : List V} (h : LLs H D us cs) (e : Evl.Ex H H3) (hL : L ≠ D) (hc : H3 L = some (.lst c)) : LLs (upd H3 D (.lst u)) D (us ++ [.ref L]) (cs ++ [c]) := ⟨by rw [List.length_append, List.length_append, h.1] <;> rfl, fun i r hi => by
  rw [List.getElem?_append] at hi
  split at hi
  · next q =>
    obtain ⟨b, h1, h2, h3⟩ := h.2 i r hi
    exact ⟨b, by rw [List.getElem?_append_left (by rw [h.1]; exact q)]; exact h1, h2, by rw [upd_ne h2]; exact e _ _ h3⟩
  · next q =>
    have hi0 : i - cs.length = 0 := by
      have := (List.getElem?_eq_some_iff.mp hi).1
      rw [List.length_singleton] at this
      omega
    rw [hi0] at hi
    obtain rfl : c = r := Option.some.inj hi
    exact ⟨L, by rw [List.getElem?_append_right (by rw [h.1]; omega), h.1, hi0] <;> rfl, hL, by rw [upd_ne hL]; exact hc⟩⟩
theorem LLs.ex {H H' : Hp} {D : Addr} {us : List V} {cs : List (List V)} (e : Evl.Ex H H') (h : LLs H D us cs) : LLs H' D us cs := ⟨h.1, fun i c hi => by
  obtain ⟨L, h1, h2, h3⟩ := h.2 i c hi
  exact ⟨L, h1, h2, e _ _ h3⟩⟩
theorem lc_llT {K : PySem.W.Frag} {σ : L2.St} {H : Hp} {Q : VK} {te : TE} {vs : List Nat} {j : Nat} {σx : V → L2.St} {a : Addr} {xs : List V} (C : Nat → List V) (hx : SqT K H a xs) (hz : xs.length ≤ 20000) (hσ : ∀ x, (wipe σ vs).set j (some x) = σx x) (hw : ∀ x, wipe (σx x) vs = wipe σ vs)
    (hs : ∀ i x, xs[i]? = some x → ∀ (H' : Hp) (N : VK), Evl.Ex H H' → (∀ L H3, Evl.Ex H' H3 → H' L = none → H3 L = some (.lst (C i)) → N (.ref L) H3) → te (σx x) H' N)
    (hd : ∀ D acc H', Evl.Ex H H' → H D = none → H' D = some (.lst acc) → LLs H' D acc ((List.range xs.length).map C) → Q (.ref D) H') : LcR (gName j) tYes te vs σ Q (Itt K a) H :=
  lc_lsT (K := K) (xs := xs) (fun D i acc H' => LLs H' D acc ((List.range i).map C)) (fun i acc H1 D u e h => ⟨h.1, fun i c hi => by
    obtain ⟨L, h1, h2, h3⟩ := h.2 i c hi
    exact ⟨L, h1, h2, by rw [upd_ne h2]; exact h3⟩⟩) hx (by omega) hσ hw (fun D H' _ => ⟨rfl, fun i c h => by simp at h⟩) (fun i x hi D acc H' N ex hDa hP kN => by
    refine hs i x hi H' N ex fun L H3 e3 hn hL => kN _ _ e3 ?_
    rw [List.range_succ, List.map_append]
    exact hP.snoc e3 (fun e => by rw [e, hDa] at hn; cases hn) hL) fun D acc H' ex hn hD hP => hd D acc H' ex hn hD hP
section
variable {P : Program} {w : World} {K : PySem.W.Frag} {mg : Str → Option Value} {base : Heap}
def spCol (K : PySem.W.Frag) (m : Nat) : Sp := fun vs H Q _ => ∃ (v : V) (f : Fm) (N W : Addr) (zs : List Str) (ws : List V) (rows : List (List Bool)), vs = [v, .ref N, .ref W] ∧ Dp K H v (dat f) ∧ dp f ≤ m ∧ nd f ≤ 1000 ∧ okf f = true ∧
  H N = some (.lst (zs.map V.str)) ∧ zs.length + m ≤ 1000 ∧ (∀ z ∈ zs, okn z = true) ∧ (∀ z ∈ fvl f, z ∈ zs) ∧ H W = some (.lst ws) ∧ TB K H ws rows ∧ (∀ row ∈ rows, row.length = zs.length) ∧ rows.length ≤ 1000 ∧
  ∀ (L : Addr) (H' : Hp), Evl.Ex H H' → H L = none → H' L = some (.lst ((colB f zs rows).map V.bl)) → Q (.ref L) H'
end
end KA
set_option Elab.async false
set_option linter.all false
set_option maxRecDepth 100000
set_option maxHeartbeats 400000
/-! Data with dicts of texts, shown; dicts made of pairs of names and truth values. -/
namespace KA
open PySem PySem.Spec PyProof PyProof.Rows L2 Ea
mutual
theorem dz_of_dp {K : PySem.W.Frag} {H : Hp} : ∀ (d : PyData) (v : V), noL d = true → Dp K H v d → Dz K H v d
  | .none, _, _, h => by
    cases h
    exact .non
  | .bool b, _, _, h => by
    cases h
    exact .bl b
  | .int i, _, _, h => by
    cases h
    exact .int i
  | .str x, _, _, h => by
    cases h
    exact .str x
  | .list ds, _, n, _ => by cases n
  | .tuple ds, _, n, h => by
    cases h with
    | tup hs ha => exact .tup hs (dzs_of_dps ds _ n ha)
  | .dict _, _, _, h => by cases h
theorem dzs_of_dps {K : PySem.W.Frag} {H : Hp} : ∀ (ds : List PyData) (vs : List V), noLs ds = true → DpAll K H vs ds → DzAll K H vs ds
  | [], _, _, h => by
    cases h
    exact .nil
  | d :: ds, _, n, h => by
    cases h with
    | cons h1 h2 =>
      have n : (noL d && noLs ds) = true := n
      rw [Bool.and_eq_true] at n
      exact .cons (dz_of_dp d _ n.1 h1) (dzs_of_dps ds _ n.2 h2)
end
/-- x reads as d, and the table of modules is not in it -/
def RdU (K : PySem.W.Frag) (H : Hp) (x : V) (d : PyData) : Prop := ∀ (X : Cx) (pins : List (Addr × Obj)) (σ : L2.St) (s : Shared), X.K = K → Inv X pins σ H s → ∀ u, RelV x u → ∃ as, Reads s.heap u d as ∧ sysModules ∉ as
theorem RdU.dz {K : PySem.W.Frag} {H : Hp} {x : V} {d : PyData} (h : Dz K H x d) : RdU K H x d := fun X pins σ s hK I u r => Dz.reads I d x u (hK ▸ h) r
theorem RdU.fm {K : PySem.W.Frag} {H : Hp} {x : V} {f : Fm} (h : Dp K H x (dat f)) : RdU K H x (dat f) := .dz (dz_of_dp _ _ (noL_dat f) h)
theorem RdU.two {K : PySem.W.Frag} {H : Hp} {L : Addr} {x y : V} {d e : PyData} (hL : L ≠ sysModules) (s : SqL K H L [x, y]) (h1 : RdU K H x d) (h2 : RdU K H y e) : RdU K H (.ref L) (.list [d, e]) := fun X pins σ sh hK I u r => by
  cases r
  subst hK
  obtain ⟨its, rv, ⟨o, n, ho, hc, _, hd⟩, _⟩ := I.list s
  cases rv with
  | cons r1 rv =>
    cases rv with
    | cons r2 rv =>
      cases rv
      obtain ⟨as, q1, m1⟩ := h1 X pins σ sh rfl I _ r1
      obtain ⟨bs, q2, m2⟩ := h2 X pins σ sh rfl I _ r2
      refine ⟨_, Reads.list ho hc hd (ReadsAll.cons q1 (ReadsAll.cons q2 ReadsAll.nil)), fun z => ?_⟩
      rcases List.mem_cons.mp z with e | z
      · exact hL e.symm
      · rcases List.mem_append.mp z with z | z
        · exact m1 z
        · rcases List.mem_append.mp z with z | z
          · exact m2 z
          · cases z
/-! ### dicts of flat values -/
def sV : V → PyData
  | .bl b => .bool b
  | .int i => .int i
  | .str z => .str z
  | _ => .none
def isS : V → Bool
  | .bl _ => true
  | .str _ => true
  | _ => false
def kvD (kvs : List (Key × V)) : List (PyData × PyData) := kvs.map fun kv => (kD kv.1, sV kv.2)
theorem reads_flat {h : Heap} {v : V} {a u : Value} (e : a = u) (r : RelV v u) (hs : isS v = true) : Reads h a (sV v) [] := by
  subst e
  cases v with
  | bl b =>
    cases r
    exact Reads.bool b
  | str z =>
    obtain ⟨t, rfl⟩ := r
    exact Reads.str z t
  | _ => cases hs
theorem pairs_flat {h : Heap} {P : Program} {w : World} : ∀ (kvs : List (Key × V)) (es : List DictEntry) (vs : List (Key × Value)), PySem.Pairs (mixKind P w) es vs → KV kvs vs → (∀ p ∈ kvs, isS p.2 = true) →
    ReadsAll h (es.map (·.key)) ((kvD kvs).map (·.1)) [] ∧ ReadsAll h (es.map (·.val)) ((kvD kvs).map (·.2)) [] := by
  intro kvs
  induction kvs with
  | nil =>
    intro es vs hp hk _
    cases hk
    cases hp
    exact ⟨.nil, .nil⟩
  | cons kv kvs ih =>
    intro es vs hp hk hs
    cases hk with
    | cons r s =>
      cases hp with
      | cons h1 h2 t =>
        obtain ⟨a, b⟩ := ih _ _ t s fun p hp => hs p (List.mem_cons_of_mem _ hp)
        obtain ⟨r1, r2⟩ := r
        rw [← r1] at h1
        exact ⟨ReadsAll.cons (as := []) (bs := []) (key_reads h1) a, ReadsAll.cons (as := []) (bs := []) (reads_flat h2 r2 (hs kv List.mem_cons_self)) b⟩
theorem RdU.dic {K : PySem.W.Frag} {H : Hp} {D : Addr} {kvs : List (Key × V)} (hD : H D = some (.dK kvs)) (hs : ∀ p ∈ kvs, isS p.2 = true) : RdU K H (.ref D) (.dict (kvD kvs)) := fun X pins σ s hK I u r => by
  cases r
  obtain ⟨_, hn, vs, rel, o, es, ep, h1, h2, h3, _, hp, _⟩ := dk_of I.hok hD
  obtain ⟨z1, z2⟩ := pairs_flat (h := s.heap) _ _ _ hp rel hs
  refine ⟨_, Reads.dict h1 h2.1 h3 z1 z2, fun z => ?_⟩
  have z : sysModules ∈ [_] := z
  exact (beq_eq_false_iff_ne.mp hn) (List.mem_singleton.mp z).symm
def okE (p : Key × V) : Bool := (match p.1 with | .inr z => okz z | .inl _ => false) && (match p.2 with | .bl _ => true | .str z => okz z | _ => false)
theorem okE_flat {p : Key × V} (h : okE p = true) : isS p.2 = true := by
  unfold okE at h
  rw [Bool.and_eq_true] at h
  obtain ⟨_, h⟩ := h
  cases hv : p.2 <;> rw [hv] at h <;> first | rfl | cases h
theorem fair_dic : ∀ {kvs : List (Key × V)}, (∀ p ∈ kvs, okE p = true) → PyData.bulkKv (kvD kvs) ≤ 18 * kvs.length ∧ PyData.depthKv (kvD kvs) = 0 ∧ PyData.showableKv (kvD kvs) = true ∧ PyData.leavesShortKv 40 (kvD kvs) = true
  | [], _ => ⟨Nat.zero_le _, rfl, rfl, rfl⟩
  | (k, v) :: t, h => by
    obtain ⟨h1, h2, h3, h4⟩ := fair_dic fun p hp => h p (List.mem_cons_of_mem _ hp)
    have h5 := h (k, v) List.mem_cons_self
    unfold okE at h5
    rw [Bool.and_eq_true] at h5
    obtain ⟨h6, h7⟩ := h5
    cases k with
    | inl i => cases h6
    | inr z =>
      have h6 : okz z = true := h6
      have l1 := okz_len h6
      obtain ⟨s1, s2⟩ := okz_show h6
      have ek : (kvD ((Sum.inr z, v) :: t)) = (PyData.str z, sV v) :: kvD t := rfl
      rw [ek]
      have hv : (sV v).bulk ≤ 8 ∧ (sV v).depth = 0 ∧ (sV v).showable = true ∧ (sV v).leavesShort 40 = true := by
        cases v with
        | bl b => cases b <;> exact ⟨Nat.zero_le _, rfl, rfl, by decide⟩
        | str y =>
          have h7 : okz y = true := h7
          obtain ⟨s3, s4⟩ := okz_show h7
          exact ⟨okz_len h7, rfl, s3, s4⟩
        | _ => cases h7
      obtain ⟨v1, v2, v3, v4⟩ := hv
      refine ⟨?_, ?_, ?_, ?_⟩
      · show (PyData.str z).bulk + (sV v).bulk + 2 + PyData.bulkKv (kvD t) ≤ _
        have e : (PyData.str z).bulk = z.cps.size := by simp only [PyData.bulk]
        rw [e, List.length_cons]
        omega
      · show max (max ((PyData.str z).depth) (sV v).depth) (PyData.depthKv (kvD t)) = 0
        rw [v2, h2]
        rfl
      · show ((PyData.str z).showable && (sV v).showable && PyData.showableKv (kvD t)) = true
        rw [s1, v3, h3] <;> rfl
      · show ((PyData.str z).leavesShort 40 && (sV v).leavesShort 40 && PyData.leavesShortKv 40 (kvD t)) = true
        rw [s2, v4, h4] <;> rfl
theorem Fair.dic {kvs : List (Key × V)} (h : ∀ p ∈ kvs, okE p = true) : Fair (18 * kvs.length) 1 (.dict (kvD kvs)) := by
  obtain ⟨h1, h2, h3, h4⟩ := fair_dic h
  refine ⟨by simpa only [PyData.bulk] using h1, ?_, h3, h4⟩
  show PyData.depthKv (kvD kvs) + 1 ≤ 1
  rw [h2]
  exact Nat.le_refl _
theorem Fair.two {n m k : Nat} {d e : PyData} (h1 : Fair n k d) (h2 : Fair m k e) : Fair (n + 1 + (m + 1 + 0)) (k + 1) (.list [d, e]) := .lst (.cons h1 (.cons h2 (FairAll.nil.mono (Nat.le_refl _) (Nat.le_refl _))))
def rReprW (K : PySem.W.Frag) : List V → Hp → VK → Prop := fun xs H Q => ∃ (x : V) (d : PyData), xs = [x] ∧ RdU K H x d ∧ d.showable = true ∧ d.depth ≤ 40 ∧ d.shown.length ≤ sizeLine ∧ Q (.str d.shown) H
theorem c_reprW {X : Cx} {K : PySem.W.Frag} (hK : X.K = K) (hg : X.A.guards = some []) (hu : X.A.units + 64 < cLine) : CallR X (.builtin "repr") (rReprW K) := by
  intro pins s σ H xs us Q I r h
  obtain ⟨x, d, rfl, hd, h1, h4, h5, q⟩ := h
  obtain ⟨u, rfl, ru⟩ := vals1 r
  obtain ⟨as, rd, hm0⟩ := hd X pins σ s hK I u ru
  have hm : d.hasDict = true → sysModules ∉ as := fun _ => hm0
  cases rd with
  | none => exact P.repr_of_none ⟨.str _, H, I.tok _, ⟨_, rfl⟩, q⟩
  | bool b => exact P.repr_of_bool ⟨.str _, H, I.tok _, ⟨_, rfl⟩, q⟩
  | int i t => exact P.repr_of_int (of_decide_eq_true h1) ⟨.str _, H, I.tok _, ⟨_, rfl⟩, q⟩
  | str y t => exact P.repr_of_str (hsz := h5) ⟨.str _, H, I.tok _, ⟨_, rfl⟩, q⟩
  | list a b c e => exact repr_of_reads' (.list a b c e) h1 hm hg (by omega) (fun _ _ e => e) (fun h' tk u hk => ⟨.str _, H, I.kept hk, ⟨_, rfl⟩, q⟩) h5
  | tuple a b c e => exact repr_of_reads' (.tuple a b c e) h1 hm hg (by omega) (fun _ _ e => e) (fun h' tk u hk => ⟨.str _, H, I.kept hk, ⟨_, rfl⟩, q⟩) h5
  | dict a b c e f => exact repr_of_reads' (.dict a b c e f) h1 hm hg (by omega) (fun _ _ e => e) (fun h' tk u hk => ⟨.str _, H, I.kept hk, ⟨_, rfl⟩, q⟩) h5
theorem rd_reprW {K : PySem.W.Frag} {H : Hp} {Q : VK} {x : V} {d : PyData} {n k : Nat} (hx : RdU K H x d) (h : Fair n k d) (hn : n ≤ 2 ^ 18) (hk : k ≤ 40) (q : Q (.str d.shown) H) : rReprW K [x] H Q :=
  ⟨x, d, rfl, hx, h.show_, Nat.le_trans h.depth hk, h.fits hn, q⟩
/-! ### pairs of names and values -/
abbrev zkv (zs : List Str) (row : List Bool) : List (Key × V) := (zs.zip row).map fun p => (Sum.inr p.1, V.bl p.2)
theorem zip_snoc : ∀ {zs : List Str} {row : List Bool} {z : Str} {b : Bool}, zs.length = row.length → (zs ++ [z]).zip (row ++ [b]) = zs.zip row ++ [(z, b)]
  | [], [], _, _, _ => rfl
  | x :: t, c :: u, z, b, h => by
    show (x, c) :: (t ++ [z]).zip (u ++ [b]) = (x, c) :: (t.zip u ++ [(z, b)])
    rw [zip_snoc (by simpa using h)]
  | [], _ :: _, _, _, h => by simp at h
  | _ :: _, [], _, _, h => by simp at h
theorem mergeK_snoc (l : List (Key × V)) (k : Key) (v : V) : mergeK [] (l ++ [(k, v)]) = putK (mergeK [] l) k v := by
  unfold mergeK
  rw [List.foldl_append]
  rfl
theorem zkv_dic : ∀ (n : Nat) (zs : List Str) (row : List Bool), zs.length = n → row.length = n → DicOf (mergeK [] (zkv zs row)) fun z => if z ∈ zs then some (V.bl (envL zs row z)) else none := by
  intro n
  induction n with
  | zero =>
    intro zs row h1 h2
    obtain rfl := List.eq_nil_of_length_eq_zero h1
    exact DicOf.nil.congr fun z => by simp
  | succ n ih =>
    intro zs row h1 h2
    rcases List.eq_nil_or_concat zs with rfl | ⟨ys, z, hz⟩
    · cases h1
    rcases List.eq_nil_or_concat row with rfl | ⟨r, b, hb⟩
    · cases h2
    have hz : zs = ys ++ [z] := by simpa using hz
    have hb : row = r ++ [b] := by simpa using hb
    subst hz hb
    have l1 : ys.length = n := by simpa using h1
    have l2 : r.length = n := by simpa using h2
    have h := ih ys r l1 l2
    have e : zkv (ys ++ [z]) (r ++ [b]) = zkv ys r ++ [(Sum.inr z, V.bl b)] := by
      unfold zkv
      rw [zip_snoc (by rw [l1, l2]), List.map_append]
      rfl
    rw [e, mergeK_snoc]
    refine (h.put z (.bl b)).congr fun y => ?_
    rw [envL_snoc]
    unfold setW
    by_cases c : y = z
    · subst c
      rw [if_pos rfl, if_pos (List.mem_append_right _ List.mem_cons_self), if_pos rfl]
    · rw [if_neg c, if_neg c]
      by_cases c2 : y ∈ ys
      · rw [if_pos c2, if_pos (List.mem_append_left _ c2)]
      · rw [if_neg c2, if_neg]
        intro h
        rcases List.mem_append.mp h with h | h
        · exact c2 h
        · exact c (List.mem_singleton.mp h)
theorem DicOf.all {kvs : List (Key × V)} {M : Str → Option V} (h : DicOf kvs M) (e : ∀ z v, M z = some v → okE ((Sum.inr z : Key), v) = true) : ∀ p ∈ kvs, okE p = true := fun p hp => by
  obtain ⟨z, e1, e2⟩ := h.2 p hp
  have := e z p.2 e2
  rw [← e1] at this
  exact this
def rDictP (K : PySem.W.Frag) : List V → Hp → VK → Prop := fun xs H Q => ∃ (a : Addr) (ps : List Addr) (kvs : List (Key × V)), xs = [.ref a] ∧ SqL K H a (ps.map V.ref) ∧ Paired (fun p kv => SqT K H p [kV kv.1, kv.2]) ps kvs ∧ ∀ p, H p = none → Q (.ref p) (upd H p (.dK (mergeK [] kvs)))
theorem c_dictP {X : Cx} {K : PySem.W.Frag} (h : X.K = K) (hc : X.calm = true) : CallR X (.type "dict") (rDictP K) := h ▸ call_dictP hc
/-- pairs as values -/
def PrZ (K : PySem.W.Frag) (H : Hp) (acc : List V) (kvs : List (Key × V)) : Prop := ∃ ps : List Addr, acc = ps.map V.ref ∧ Paired (fun p kv => SqT K H p [kV kv.1, kv.2]) ps kvs
section
variable {K : PySem.W.Frag} {H H' : Hp} {acc : List V} {kvs : List (Key × V)}
theorem PrZ.nil : PrZ K H [] [] := ⟨[], rfl, .nil⟩
theorem PrZ.mono (e : ∀ a xs, SqT K H a xs → SqT K H' a xs) (h : PrZ K H acc kvs) : PrZ K H' acc kvs := by
  obtain ⟨ps, e1, e2⟩ := h
  exact ⟨ps, e1, L2.Paired.mapP e2 fun a kv q => e a _ q⟩
theorem prz_app : ∀ {ps : List Addr} {kvs : List (Key × V)} {p : Addr} {kv : Key × V}, Paired (fun p kv => SqT K H p [kV kv.1, kv.2]) ps kvs → SqT K H p [kV kv.1, kv.2] → Paired (fun p kv => SqT K H p [kV kv.1, kv.2]) (ps ++ [p]) (kvs ++ [kv])
  | _, _, _, _, .nil, h => .cons h .nil
  | _, _, _, _, .cons h t, h2 => .cons h (prz_app t h2)
theorem PrZ.snoc {p : Addr} {k : Key} {v : V} (h : PrZ K H acc kvs) (hp : SqT K H p [kV k, v]) : PrZ K H (acc ++ [.ref p]) (kvs ++ [(k, v)]) := by
  obtain ⟨ps, e1, e2⟩ := h
  exact ⟨ps ++ [p], by rw [e1, List.map_append] <;> rfl, prz_app e2 hp⟩
end
section
variable {K : PySem.W.Frag} {σ : L2.St} {H : Hp} {Q : VK} {te : TE} {vs : List Nat} {j1 j2 k : Nat} {σx : V → V → L2.St} {a b : Addr} {zs : List Str} {row : List Bool}
/-- [(z, s) for z, s in zip(names, row)] -/
theorem lc_zipPr (hk : k = 2) (hx : SqL K H a (zs.map V.str)) (hy : SqT K H b (row.map V.bl)) (hl : zs.length = row.length) (hz : zs.length ≤ 20000) (hσ : ∀ x y, ((wipe σ vs).set j1 (some x)).set j2 (some y) = σx x y) (hw : ∀ x y, wipe (σx x y) vs = wipe σ vs)
    (hs : ∀ z s (H' : Hp) (N : VK), Evl.Ex H H' → (∀ p H3, Evl.Ex H' H3 → SqT K H3 p [.str z, .bl s] → N (.ref p) H3) → te (σx (.str z) (.bl s)) H' N)
    (hd : ∀ D acc H', Evl.Ex H H' → H D = none → H' D = some (.lst acc) → PrZ K H' acc (zkv zs row) → Q (.ref D) H') : LcR (gTup K k (gCons (gName j1) (gCons (gName j2) gNil))) tYes te vs σ Q (ItzN K a b) H := fun D hn => by
  refine ⟨fun i m H' => i + m = zs.length ∧ Evl.Ex H H' ∧ ∃ acc, H' D = some (.lst acc) ∧ acc.length ≤ i ∧ PrZ K H' acc ((zkv zs row).take i), ⟨zs.length, by omega, Evl.Ex.new hn, [], upd_same, Nat.le_refl _, PrZ.nil⟩, fun i m H' hW => ?_⟩
  obtain ⟨em, e, acc, ed, hla, hp⟩ := hW
  by_cases hi : i < zs.length
  · have hi2 : i < row.length := by omega
    have g1 : (zs.map V.str)[i]? = some (.str zs[i]) := by rw [List.getElem?_map, List.getElem?_eq_getElem hi] <;> rfl
    have g2 : (row.map V.bl)[i]? = some (.bl row[i]) := by rw [List.getElem?_map, List.getElem?_eq_getElem hi2] <;> rfl
    refine .inr ⟨⟨_, _, _, _, Evl.ex_l e hx, Evl.ex_t e hy, g1, g2⟩, fun H3 => Evl.Ex H H3 ∧ ∃ acc, H3 D = some (.lst acc) ∧ acc.length ≤ i + 1 ∧ PrZ K H3 acc ((zkv zs row).take (i + 1)), fun H3 h3 => ⟨m - 1, by omega, by omega, h3⟩, fun x H2 hyy => ?_⟩
    obtain ⟨T, x, y, rfl, hT, rfl, h1, h2⟩ := hyy
    have h1 := h1 _ (Evl.ex_l e hx)
    have h2 := h2 _ (Evl.ex_t e hy)
    rw [g1] at h1
    rw [g2] at h2
    obtain rfl := Option.some.inj h1
    obtain rfl := Option.some.inj h2
    have eT := Evl.Ex.new (o := .tup [V.str zs[i], .bl row[i]]) hT
    refine rd_gtup2 (x := .str zs[i]) (y := .bl row[i]) (SqT.of upd_same) hk (hσ _ _) ⟨hw _ _, rd_yes (rd_true (hs _ _ _ _ (e.trans eT) fun p H3 e3 sp => ?_))⟩
    have ed3 := e3 _ _ (eT _ _ ed)
    refine ⟨acc, ed3, Evl.sz_lt (by omega), Evl.Ex.mut ((e.trans eT).trans e3) hn, acc ++ [.ref p], upd_same, by rw [List.length_append]; show acc.length + 1 ≤ _; omega, ?_⟩
    have htk : (zkv zs row).take (i + 1) = (zkv zs row).take i ++ [((Sum.inr zs[i] : Key), V.bl row[i])] := by
      rw [List.take_add_one]
      congr 1
      rw [List.getElem?_map, (List.getElem?_zip_eq_some (z := (zs[i], row[i]))).mpr ⟨List.getElem?_eq_getElem hi, List.getElem?_eq_getElem hi2⟩] <;> rfl
    rw [htk]
    have h5 : PrZ K H3 acc ((zkv zs row).take i) := hp.mono fun _ _ t => Evl.ex_t (eT.trans e3) t
    exact (h5.snoc (k := .inr zs[i]) sp).mono fun _ _ t => tup_upd ed3 lst_not t
  · have hin : i = zs.length := by omega
    subst hin
    have hlz : (zkv zs row).length = zs.length := by
      unfold zkv
      rw [List.length_map, List.length_zip]
      omega
    rw [← hlz, List.take_length] at hp
    exact .inl ⟨⟨_, _, Evl.ex_l e hx, Evl.ex_t e hy, Nat.le_of_eq (List.length_map ..).symm, by rw [List.length_map]; omega, .inl (by rw [List.length_map])⟩, hd D acc H' e hn ed hp⟩
end
section
variable {K : PySem.W.Frag} {σ : L2.St} {H : Hp} {tb : TS} {D : Ends} {j1 j2 k : Nat}
/-- for x, y in zip(xs, ys) -/
theorem fr_zipLL {a b : Addr} {xs ys : List V} (hk : k = 2) (he : xs.length = ys.length) (Pv : Nat → L2.St → Hp → Prop) (h0 : Pv 0 σ H) (hl : ∀ i σ H, Pv i σ H → SqL K H a xs ∧ SqL K H b ys)
    (hs : ∀ i σ H1 T, i < xs.length → Pv i σ H1 → H1 T = none → tb { D with nx := Pv (i + 1), ct := Pv (i + 1), bk := D.nx } ((σ.set j1 (some (xs.getD i .non))).set j2 (some (ys.getD i .non))) (upd H1 T (.tup [xs.getD i .non, ys.getD i .non])))
    (hd : ∀ σ H, Pv xs.length σ H → D.nx σ H) : ForR (gTup K k (gCons (gName j1) (gCons (gName j2) gNil))) tb D σ (Itz K a b) H := by
  refine ⟨fun i m σ' H' => i + m = xs.length ∧ Pv i σ' H', ⟨xs.length, by omega, h0⟩, fun i m σ' H' hW => ?_⟩
  obtain ⟨em, hp⟩ := hW
  by_cases hi : i < xs.length
  · refine .inr ⟨⟨xs, ys, xs[i], ys[i]'(by omega), (hl i σ' H' hp).1, (hl i σ' H' hp).2, List.getElem?_eq_getElem hi, List.getElem?_eq_getElem (by omega)⟩, Pv (i + 1), fun σ2 H2 h2 => ⟨m - 1, by omega, by omega, h2⟩, fun x H2 hy => ?_⟩
    obtain ⟨T, x, y, rfl, hT, rfl, hx, hy⟩ := hy
    have hx := hx xs (hl i σ' H' hp).1
    have hy := hy ys (hl i σ' H' hp).2
    have ex : xs.getD i .non = x := by rw [List.getD_eq_getElem?_getD, hx] <;> rfl
    have ey : ys.getD i .non = y := by rw [List.getD_eq_getElem?_getD, hy] <;> rfl
    have q := hs i σ' H' T hi hp hT
    rw [ex, ey] at q
    exact rd_gtup2 (SqT.of upd_same) hk rfl q
  · have hin : i = xs.length := by omega
    subst hin
    exact .inl ⟨⟨xs, ys, (hl _ σ' H' hp).1, (hl _ σ' H' hp).2, .inl (Nat.le_refl _)⟩, hd σ' H' hp⟩
end
end KA
set_option Elab.async false
set_option linter.all false
set_option maxRecDepth 100000
/-! a call by names alone; a test of one thing with itself -/
namespace KA
open PySem PySem.Spec PyProof.Rows L2 Ea
/-- by names alone: the values stand the other way round -/
abbrev KwRev (fd : FuncData) (ks : List Str) : Prop := ∀ (s : Shared) (ws : List Value), ws.length = ks.length → BindsTo s fd ⟨[], ks.reverse.zip ws⟩ (ks.zip ws.reverse)
theorem if_same {x : V} {A B : Prop} (h : B) : if (!decide (x = x)) = true then A else B := by
  rw [decide_eq_true rfl]
  exact h
end KA
set_option Elab.async false
set_option linter.all false
set_option maxRecDepth 100000
set_option maxHeartbeats 400000
/-! set of texts from a tuple or a list; worlds in order; the lowest bit. -/
namespace KA
open PySem PySem.Spec PyProof PyProof.Rows L2 Ea
def rSetTx (P : Program) (w : World) (K : PySem.W.Frag) : List V → Hp → VK → Prop := fun xs H Q => ∃ (a : Addr) (ts : List Str), xs = [.ref a] ∧ (SqT K H a (ts.map V.str) ∨ SqL K H a (ts.map V.str)) ∧ ts.length ≤ 1000 ∧
  ∀ (p : Addr) (l : List Str), H p = none → l.Nodup → l.length ≤ ts.length → (∀ z, z ∈ l ↔ z ∈ ts) → Q (.ref p) (upd H p (SetSO P w p l))
theorem c_setTx {X : Cx} {K : PySem.W.Frag} (hK : X.K = K) (hc : X.calm = true) : CallR X (.type "set") (rSetTx X.prog X.w K) := by
  subst hK
  intro pins s σ H xs us Q I r h
  obtain ⟨a, ts, rfl, ha, hl, q⟩ := h
  rw [Vals.ref1 r]
  have hf : H s.heap.objs.size = none := I.hok.fresh (Nat.le_refl _)
  have fin : ∀ (h2 : Heap) (tk : Nat), TxAt X.prog X.w h2 s.heap.objs.size ts → (∀ b o, s.heap.get? b = some o → h2.get? b = some o) → EP X pins σ Q (.ref s.heap.objs.size) { s with heap := h2, toks := tk } := fun h2 tk tx k => by
    obtain ⟨D, l, ho, hr, nd, hll, hm⟩ := tx
    exact ⟨.ref _, upd H s.heap.objs.size (SetSO X.prog X.w s.heap.objs.size l), I.laid (t' := tk) k (Nat.le_refl _) (setS_new ho hr), rfl, q _ l hf nd hll hm⟩
  rcases ha with ha | ha
  · obtain ⟨its, rv, pt, hz⟩ := I.tuple ha
    exact set_of_tup ts (I.ok.hd hc) pt (by simpa using strsAre_of rv) (by unfold scanBound; omega) fin
  · obtain ⟨its, rv, pt, hz⟩ := I.list ha
    exact set_of_list ts (I.ok.hd hc) pt.isList (by simpa using strsAre_of rv) (by unfold scanBound; omega) fin
theorem pi_revK {X : Cx} {K : PySem.W.Frag} (hK : X.K = K) {tg e : Expr} {ta : TA} {p pos : Pos} (hg : L2.Gl X "reversed") (hm : X.mg "reversed" = none) (ha : PA X [e] ta) (hs : starEach [e] X.env = [(false, eval e X.env)] := by rfl) : PI X tg (.Call (.Name "reversed" p) [e] [] pos) (iRev K ta) := hK ▸ pi_reversed hg hm ha hs
theorem rd_iRev {K : PySem.W.Frag} {ta : TA} {σ : L2.St} {H : Hp} {R : It → Hp → Prop} (h : ta σ H fun vs H1 => ∃ (a : Addr) (xs : List V), vs = [.ref a] ∧ SqL K H1 a xs ∧ R (Itv K a xs.length) H1) : iRev K ta σ H R := h
theorem fr_rev {K : PySem.W.Frag} {σ : L2.St} {H : Hp} {tb : TS} {D : Ends} {j : Nat} {a : Addr} {xs : List V} (Pv : Nat → L2.St → Hp → Prop) (h0 : Pv 0 σ H) (hl : ∀ i σ H, Pv i σ H → SqL K H a xs)
    (hs : ∀ i x σ H, xs[xs.length - 1 - i]? = some x → i < xs.length → Pv i σ H → tb { D with nx := Pv (i + 1), ct := Pv (i + 1), bk := D.nx } (σ.set j (some x)) H) (hd : ∀ σ H, Pv xs.length σ H → D.nx σ H) :
    ForR (gName j) tb D σ (Itv K a xs.length) H := by
  refine ⟨fun i m σ' H' => i + m = xs.length ∧ Pv i σ' H', ⟨xs.length, by omega, h0⟩, fun i m σ' H' hW => ?_⟩
  obtain ⟨em, hp⟩ := hW
  by_cases hi : i < xs.length
  · have hg : xs[xs.length - 1 - i]? = some (xs[xs.length - 1 - i]'(by omega)) := List.getElem?_eq_getElem (by omega)
    refine .inr ⟨⟨hi, xs, _, hl i σ' H' hp, hg⟩, Pv (i + 1), fun σ2 H2 h2 => ⟨m - 1, by omega, by omega, h2⟩, fun x H2 hy => ?_⟩
    obtain ⟨rfl, hx⟩ := hy
    exact hs i x σ' H2 (hx xs (hl i σ' H2 hp)) hi hp
  · have hin : i = xs.length := by omega
    subst hin
    exact .inl ⟨Nat.le_refl _, hd σ' H' hp⟩
/-! ### worlds -/
def envF : List Str → List Bool → Str → Bool
  | z :: t, b :: u, y => if y = z then b else envF t u y
  | _, _, _ => false
def rl : Nat → List (List Bool)
  | 0 => [[]]
  | n + 1 => (rl n).map (true :: ·) ++ (rl n).map (false :: ·)
theorem rl_len : ∀ n, (rl n).length = 2 ^ n
  | 0 => rfl
  | n + 1 => by
    rw [rl, List.length_append, List.length_map, List.length_map, rl_len n, Nat.pow_succ]
    omega
theorem rl_row : ∀ {n : Nat} {row : List Bool}, row ∈ rl n → row.length = n
  | 0, row, h => by rw [rl] at h; rw [List.mem_singleton.mp h]; rfl
  | n + 1, row, h => by
    rw [rl] at h
    rcases List.mem_append.mp h with h | h <;> obtain ⟨r, hr, rfl⟩ := List.mem_map.mp h <;> rw [List.length_cons, rl_row hr]
/-- the same rows, the last place growing -/
theorem rl_back : ∀ n, rl (n + 1) = (rl n).flatMap fun r => [r ++ [true], r ++ [false]]
  | 0 => rfl
  | n + 1 => by
    have h := rl_back n
    have e1 : rl (n + 2) = (rl (n + 1)).map (true :: ·) ++ (rl (n + 1)).map (false :: ·) := rfl
    have e2 : (rl (n + 1)).flatMap (fun r => [r ++ [true], r ++ [false]]) = ((rl n).map (true :: ·)).flatMap (fun r => [r ++ [true], r ++ [false]]) ++ ((rl n).map (false :: ·)).flatMap (fun r => [r ++ [true], r ++ [false]]) := by
      rw [show rl (n + 1) = (rl n).map (true :: ·) ++ (rl n).map (false :: ·) from rfl, List.flatMap_append]
    rw [e1, e2, h, List.map_flatMap, List.map_flatMap, List.flatMap_map, List.flatMap_map]
    rfl
theorem envF_snoc : ∀ {zs : List Str} {row : List Bool} {x : Str} {b : Bool}, zs.length = row.length → x ∉ zs → ∀ y, envF (zs ++ [x]) (row ++ [b]) y = if y = x then b else envF zs row y
  | [], [], x, b, _, _, y => rfl
  | z :: t, c :: u, x, b, h, hx, y => by
    show (if y = z then c else envF (t ++ [x]) (u ++ [b]) y) = if y = x then b else if y = z then c else envF t u y
    have hxz : x ≠ z := fun e => hx (e ▸ List.mem_cons_self)
    rw [envF_snoc (by simpa using h) fun q => hx (List.mem_cons_of_mem _ q)]
    by_cases c1 : y = z
    · rw [if_pos c1, if_neg (fun e => hxz (by rw [← e, c1])), if_pos c1]
    · rw [if_neg c1, if_neg c1]
  | [], _ :: _, _, _, h, _, _ => by simp at h
  | _ :: _, [], _, _, h, _, _ => by simp at h
def wmask : List Str → Str → Option Nat
  | [] => fun _ => none
  | z :: t => widen (wmask t) (2 ^ t.length) z
theorem wmask_lt : ∀ zs : List Str, MLt (wmask zs) (2 ^ zs.length)
  | [] => fun z m h => by cases h
  | z :: t => by
    have := (wmask_lt t).widen z
    rw [List.length_cons, Nat.pow_succ, Nat.mul_comm]
    exact this
theorem wmask_some : ∀ {zs : List Str} {y : Str}, y ∈ zs → ∃ m, wmask zs y = some m
  | z :: t, y, h => by
    show ∃ m, widen (wmask t) (2 ^ t.length) z y = some m
    unfold widen
    by_cases c : y = z
    · exact ⟨_, if_pos c⟩
    · obtain ⟨m, e⟩ := wmask_some ((List.mem_cons.mp h).resolve_left c)
      exact ⟨_, by rw [if_neg c, e]; rfl⟩
/-- world i of the masks is row i -/
theorem wld_row : ∀ {zs : List Str} {i : Nat} {row : List Bool}, (rl zs.length)[i]? = some row → wld (wmask zs) i = envF zs row
  | [], i, row, h => by
    match i, h with
    | 0, h =>
      obtain rfl : [] = row := Option.some.inj h
      funext y
      show ((none : Option Nat).getD 0).testBit 0 = false
      rfl
    | i + 1, h => simp [rl] at h
  | z :: t, i, row, h => by
    rw [List.length_cons, rl] at h
    have hl := rl_len t.length
    rw [List.getElem?_append] at h
    split at h
    · next c =>
      rw [List.length_map, hl] at c
      rw [List.getElem?_map] at h
      obtain ⟨r, hr, rfl⟩ := Option.map_eq_some_iff.mp h
      show wld (widen (wmask t) (2 ^ t.length) z) i = _
      rw [wld_lo (wmask_lt t) z c, wld_row hr]
      rfl
    · next c =>
      rw [List.length_map, hl] at c h
      rw [List.getElem?_map] at h
      obtain ⟨r, hr, rfl⟩ := Option.map_eq_some_iff.mp h
      have hi : i - 2 ^ t.length < 2 ^ t.length := by
        have := (List.getElem?_eq_some_iff.mp hr).1
        omega
      show wld (widen (wmask t) (2 ^ t.length) z) i = _
      rw [show i = 2 ^ t.length + (i - 2 ^ t.length) by omega, wld_hi (wmask_lt t) z hi, wld_row hr]
      rfl
/-! ### the lowest bit -/
theorem low_nat (p : Nat) : 0 < p → ∃ k, p - (p &&& (p - 1)) = 2 ^ k ∧ p.testBit k = true ∧ ∀ j, j < k → p.testBit j = false := by
  induction p using Nat.strongRecOn with
  | _ p ih =>
    intro hp
    have a1 := Nat.and_div_two_pow (a := p) (b := p - 1) (n := 1)
    have a2 := Nat.and_mod_two_pow (a := p) (b := p - 1) (n := 1)
    rw [Nat.pow_one] at a1 a2
    by_cases c : p % 2 = 1
    · refine ⟨0, ?_, by rw [Nat.testBit_zero]; exact decide_eq_true c, fun j hj => absurd hj (Nat.not_lt_zero _)⟩
      have e1 : (p - 1) / 2 = p / 2 := by omega
      have e2 : (p - 1) % 2 = 0 := by omega
      rw [e1, Nat.and_self] at a1
      rw [e2, Nat.and_zero] at a2
      show _ = 1
      omega
    · obtain ⟨k, k1, k2, k3⟩ := ih (p / 2) (by omega) (by omega)
      have e1 : (p - 1) / 2 = p / 2 - 1 := by omega
      have e3 : p % 2 = 0 := by omega
      rw [e1] at a1
      rw [e3, Nat.zero_and] at a2
      refine ⟨k + 1, ?_, by rw [Nat.testBit_succ]; exact k2, fun j hj => ?_⟩
      · rw [Nat.pow_succ, ← k1]
        omega
      · match j, hj with
        | 0, _ => rw [Nat.testBit_zero]; exact decide_eq_false (by omega)
        | j + 1, hj => rw [Nat.testBit_succ]; exact k3 j (by omega)
theorem bAnd_neg {p : Nat} (hp : 0 < p) : ∃ k, Builtin.bitAnd (p : Int) (-(p : Int)) = ((2 ^ k : Nat) : Int) ∧ p.testBit k = true ∧ ∀ j, j < k → p.testBit j = false := by
  obtain ⟨k, k1, k2, k3⟩ := low_nat p hp
  refine ⟨k, ?_, k2, k3⟩
  have e1 : decide ((0 : Int) ≤ (p : Int)) = true := decide_eq_true (by omega)
  have e2 : decide ((0 : Int) ≤ -(p : Int)) = false := decide_eq_false (by omega)
  unfold Builtin.bitAnd
  rw [e1, e2]
  show (p : Int) - (((p : Int).toNat &&& (Builtin.bitNot (-(p : Int))).toNat : Nat) : Int) = _
  have e3 : (Builtin.bitNot (-(p : Int))).toNat = p - 1 := by unfold Builtin.bitNot; omega
  rw [e3, Int.toNat_natCast]
  have : p &&& (p - 1) ≤ p := Nat.and_le_left
  omega
/-- the first world in which just one holds -/
def PW (f g : Fm) (zs : List Str) : Option (List Bool) := (rl zs.length).find? fun row => sem f (envF zs row) != sem g (envF zs row)
def pwD (zs : List Str) : Option (List Bool) → PyData
  | none => .none
  | some row => .tuple (zs.map fun z => .tuple [.str z, .bool (envF zs row z)])
theorem PW_comm (f g : Fm) (zs : List Str) : PW f g zs = PW g f zs := by
  unfold PW
  congr 1
  funext row
  cases sem f (envF zs row) <;> cases sem g (envF zs row) <;> rfl
theorem find_first {α : Type} {p : α → Bool} : ∀ {l : List α} {k : Nat} {x : α}, l[k]? = some x → p x = true → (∀ j y, j < k → l[j]? = some y → p y = false) → l.find? p = some x
  | [], k, x, h, _, _ => by simp at h
  | a :: t, 0, x, h, hp, _ => by
    obtain rfl : a = x := Option.some.inj h
    rw [List.find?_cons, hp]
  | a :: t, k + 1, x, h, hp, hj => by
    rw [List.find?_cons, hj 0 a (Nat.succ_pos _) rfl]
    exact find_first (k := k) h hp fun j y h1 h2 => hj (j + 1) y (by omega) h2
/-- what the two masks say of it -/
theorem PW_none {f g : Fm} {zs : List Str} {r1 r2 : Nat} (h1 : WhO f (wmask zs) (2 ^ zs.length) r1) (h2 : WhO g (wmask zs) (2 ^ zs.length) r2) (h : r1 ^^^ r2 = 0) : PW f g zs = none := by
  unfold PW
  rw [List.find?_eq_none]
  intro row hrow
  obtain ⟨i, hi, e⟩ := List.mem_iff_getElem.mp hrow
  have hi2 : i < 2 ^ zs.length := by rw [← rl_len]; exact hi
  have hw := wld_row (zs := zs) (i := i) (row := row) (by rw [List.getElem?_eq_getElem hi, e])
  have hx : (r1 ^^^ r2).testBit i = false := by rw [h]; exact Nat.zero_testBit i
  rw [Nat.testBit_xor, h1.2 i hi2, h2.2 i hi2, hw] at hx
  cases h3 : sem f (envF zs row) <;> cases h4 : sem g (envF zs row) <;> rw [h3, h4] at hx <;> first | (simp at hx; done) | simp
theorem PW_some {f g : Fm} {zs : List Str} {r1 r2 k : Nat} (h1 : WhO f (wmask zs) (2 ^ zs.length) r1) (h2 : WhO g (wmask zs) (2 ^ zs.length) r2) (hk : (r1 ^^^ r2).testBit k = true) (hj : ∀ j, j < k → (r1 ^^^ r2).testBit j = false) :
    ∃ row, (rl zs.length)[k]? = some row ∧ PW f g zs = some row := by
  have hlt : r1 ^^^ r2 < 2 ^ 2 ^ zs.length := Nat.xor_lt_two_pow h1.1 h2.1
  have hk2 : k < 2 ^ zs.length := by
    by_cases c : k < 2 ^ zs.length
    · exact c
    · rw [Nat.testBit_lt_two_pow (Nat.lt_of_lt_of_le hlt (Nat.pow_le_pow_right (by decide) (by omega)))] at hk
      cases hk
  have hk3 : k < (rl zs.length).length := by rw [rl_len]; exact hk2
  have bit : ∀ (i : Nat) (row : List Bool), (rl zs.length)[i]? = some row → (r1 ^^^ r2).testBit i = (sem f (envF zs row) != sem g (envF zs row)) := fun i row hr => by
    have hi : i < 2 ^ zs.length := by rw [← rl_len]; exact (List.getElem?_eq_some_iff.mp hr).1
    rw [Nat.testBit_xor, h1.2 i hi, h2.2 i hi, wld_row hr]
  refine ⟨(rl zs.length)[k], List.getElem?_eq_getElem hk3, find_first (List.getElem?_eq_getElem hk3) ?_ fun j y h3 h4 => ?_⟩
  · rw [← bit k _ (List.getElem?_eq_getElem hk3)]
    exact hk
  · rw [← bit j y h4]
    exact hj j h3
/-- rows of unlike texts in order, the same texts: one row -/
theorem texts_one {xs ys : List Str} (h1 : xs.Pairwise leS) (h2 : ys.Pairwise leS) (n1 : xs.Nodup) (n2 : ys.Nodup) (h : ∀ z, z ∈ xs ↔ z ∈ ys) : xs = ys :=
  sorted_one ((List.perm_ext_iff_of_nodup n1 n2).mpr h) h1 h2
end KA
set_option Elab.async false
set_option linter.all false
set_option maxRecDepth 100000
set_option maxHeartbeats 400000
set_option pp.maxSteps 300
namespace KA
open PySem PySem.Spec PyProof.Rows L2 Ea
abbrev sworlds_of : Stmt := topS 8
theorem scworlds_of : FnScope ["names", "masks", "size", "name"] ["names"] (defScope sworlds_of) :=
  ⟨rfl, rfl, rfl, by decide +kernel, rfl, by decide +kernel, by decide +kernel⟩
abbrev sparting_world : Stmt := topS 13
theorem scparting_world : FnScope ["one", "other", "names", "masks", "size", "parting", "first", "name"] ["one", "other"] (defScope sparting_world) :=
  ⟨rfl, rfl, rfl, by decide +kernel, rfl, by decide +kernel, by decide +kernel⟩
local macro_rules | `(tactic| walk_at "rd") => `(tactic| first
  | (with_reducible refine rd_iItems ?_) | (with_reducible refine rd_sc2 ?_) | (with_reducible refine rd_lc2 ?_) | (with_reducible refine rd_iZipN ?_) | (with_reducible refine rd_iZipL ?_) | (with_reducible refine rd_revL ?_) | (with_reducible refine rd_lstZ ?_) | (with_reducible refine rd_iRev ?_)
  | (with_reducible refine rd_seq ?_) | (with_reducible refine rd_asg ?_) | (with_reducible refine rd_if ?_) | (with_reducible refine rd_ret ?_) | (with_reducible refine rd_next ?_)
  | (with_reducible refine rd_drop ?_) | ((with_reducible refine rd_name (σ' := ?ss) ?hs ?_); (case hs => (dsimp only [List.set]; exact rfl)))
  | ((with_reducible refine rd_var (v := ?vv) ?hv ?_); (case hv => exact rfl)) | (with_reducible refine rd_c ?_) | (with_reducible refine rd_op ?_) | (with_reducible refine rd_un ?_)
  | (with_reducible refine rd_I0 ?_) | (with_reducible refine rd_U ?_) | (with_reducible refine rd_test ?_) | (with_reducible refine rd_B ?_) | (with_reducible refine rd_k ?_)
  | (with_reducible refine rd_not ?_) | (with_reducible refine rd_and ?_) | (with_reducible refine rd_or ?_) | (with_reducible refine rd_ifE ?_)
  | (with_reducible refine rd_par ?_) | ((with_reducible refine rd_par2 (σ' := ?ss) ?hs ?_); (case hs => (dsimp only [List.set]; exact rfl)))
  | (with_reducible refine rd_gsub ?_) | (with_reducible refine rd_andV ?_) | (with_reducible refine rd_orV ?_) | (with_reducible refine rd_notV ?_)
  | (with_reducible refine rd_lc ?_) | (with_reducible refine rd_iTup ?_) | (with_reducible refine rd_iList ?_) | (with_reducible refine rd_iRng1 ?_) | (with_reducible refine rd_iRng2 ?_) | (with_reducible refine rd_iEnumT ?_) | (with_reducible refine rd_iEnum ?_) | (with_reducible refine rd_iZipM ?_) | (with_reducible refine rd_iEnumS ?_) | (with_reducible refine rd_iKeys ?_) | (with_reducible refine rd_din ?_) | (with_reducible refine rd_dnotin ?_)
  | (with_reducible refine rd_yes ?_) | (with_reducible refine rd_true ?_) | (with_reducible refine rd_false ?_) | (with_reducible refine rd_m1 ?_) | (with_reducible refine rd_isS ?_)
  | ((with_reducible refine rd_eq ?hs ?_); (case hs => exact rfl)) | ((with_reducible refine rd_ne ?hs ?_); (case hs => exact rfl))
  | (with_reducible refine rd_listRg ?_) | (with_reducible refine rd_rg2 ?_) | (with_reducible refine rd_rgk ?_)
  | (with_reducible refine rd_dnew ?_) | (with_reducible refine rd_ddel ?_) | (with_reducible refine rd_kw ?_) | (with_reducible refine rd_callS ?_) | (with_reducible refine rd_dc ?_) | (with_reducible refine rd_for ?_) | (with_reducible refine rd_tru ?_) | (with_reducible refine rd_truI ?_)
  | (with_reducible refine rd_nil ?_) | (with_reducible refine rd_cons ?_) | (with_reducible refine rd_call ?_) | (with_reducible refine rd_cb ?_)
  | (with_reducible refine rd_tup ?_) | (with_reducible refine rd_lst ?_) | (with_reducible refine rd_dget ?_) | (with_reducible refine rd_dput ?_) | (with_reducible refine rd_dget2 ?_) | (with_reducible refine rd_sl ?_)
  | (with_reducible refine rd_nopart ?_) | (with_reducible refine rd_part ?_) | (with_reducible refine rd_parti ?_) | (with_reducible refine rd_bm ?_) | (with_reducible refine rd_bm0 ?_)
  | (with_reducible refine rd_int ?_) | (with_reducible refine rd_intb ?_) | (with_reducible refine rd_abs ?_) | (with_reducible refine rd_min2 ?_) | (with_reducible refine rd_max2 ?_))
local macro_rules | `(tactic| walk_at "rds") => `(tactic| repeat (walk_at "rd"))
local macro_rules | `(tactic| walk_at "rq") => `(tactic| first
  | (with_reducible refine rd_iItems ?_) | (with_reducible refine rd_sc2 ?_) | (with_reducible refine rd_lc2 ?_) | (with_reducible refine rd_iZipN ?_) | (with_reducible refine rd_iZipL ?_) | (with_reducible refine rd_revL ?_) | (with_reducible refine rd_lstZ ?_) | (with_reducible refine rd_iRev ?_)
  | (with_reducible refine rd_seq ?_) | (with_reducible refine rd_asg ?_) | (with_reducible refine rd_ret ?_) | (with_reducible refine rd_next ?_)
  | (with_reducible refine rd_drop ?_) | ((with_reducible refine rd_name (σ' := ?ss) ?hs ?_); (case hs => (dsimp only [List.set]; exact rfl)))
  | ((with_reducible refine rd_var (v := ?vv) ?hv ?_); (case hv => exact rfl)) | (with_reducible refine rd_c ?_) | (with_reducible refine rd_op ?_) | (with_reducible refine rd_un ?_)
  | (with_reducible refine rd_I0 ?_) | (with_reducible refine rd_U ?_) | (with_reducible refine rd_test ?_) | (with_reducible refine rd_B ?_) | (with_reducible refine rd_k ?_)
  | (with_reducible refine rd_not ?_) | (with_reducible refine rd_and ?_) | (with_reducible refine rd_or ?_) | (with_reducible refine rd_ifE ?_)
  | (with_reducible refine rd_par ?_) | ((with_reducible refine rd_par2 (σ' := ?ss) ?hs ?_); (case hs => (dsimp only [List.set]; exact rfl)))
  | (with_reducible refine rd_gsub ?_) | (with_reducible refine rd_andV ?_) | (with_reducible refine rd_orV ?_) | (with_reducible refine rd_notV ?_)
  | (with_reducible refine rd_lc ?_) | (with_reducible refine rd_iTup ?_) | (with_reducible refine rd_iList ?_) | (with_reducible refine rd_iRng1 ?_) | (with_reducible refine rd_iRng2 ?_) | (with_reducible refine rd_iEnumT ?_) | (with_reducible refine rd_iEnum ?_) | (with_reducible refine rd_iZipM ?_) | (with_reducible refine rd_iEnumS ?_) | (with_reducible refine rd_iKeys ?_) | (with_reducible refine rd_din ?_) | (with_reducible refine rd_dnotin ?_)
  | (with_reducible refine rd_yes ?_) | (with_reducible refine rd_true ?_) | (with_reducible refine rd_false ?_) | (with_reducible refine rd_m1 ?_) | (with_reducible refine rd_isS ?_)
  | ((with_reducible refine rd_eq ?hs ?_); (case hs => exact rfl)) | ((with_reducible refine rd_ne ?hs ?_); (case hs => exact rfl))
  | (with_reducible refine rd_listRg ?_) | (with_reducible refine rd_rg2 ?_) | (with_reducible refine rd_rgk ?_)
  | (with_reducible refine rd_dnew ?_) | (with_reducible refine rd_ddel ?_) | (with_reducible refine rd_kw ?_) | (with_reducible refine rd_callS ?_) | (with_reducible refine rd_dc ?_) | (with_reducible refine rd_for ?_) | (with_reducible refine rd_tru ?_) | (with_reducible refine rd_truI ?_)
  | (with_reducible refine rd_nil ?_) | (with_reducible refine rd_cons ?_) | (with_reducible refine rd_call ?_) | (with_reducible refine rd_cb ?_)
  | (with_reducible refine rd_tup ?_) | (with_reducible refine rd_lst ?_) | (with_reducible refine rd_dget ?_) | (with_reducible refine rd_dput ?_) | (with_reducible refine rd_dget2 ?_) | (with_reducible refine rd_sl ?_)
  | (with_reducible refine rd_nopart ?_) | (with_reducible refine rd_part ?_) | (with_reducible refine rd_parti ?_) | (with_reducible refine rd_bm ?_) | (with_reducible refine rd_bm0 ?_)
  | (with_reducible refine rd_int ?_) | (with_reducible refine rd_intb ?_) | (with_reducible refine rd_abs ?_) | (with_reducible refine rd_min2 ?_) | (with_reducible refine rd_max2 ?_))
local macro_rules | `(tactic| walk_at "rqs") => `(tactic| repeat (walk_at "rq"))
local macro_rules | `(tactic| walk_at "rv") => `(tactic| first
  | (with_reducible refine rd_iItems ?_) | (with_reducible refine rd_sc2 ?_) | (with_reducible refine rd_lc2 ?_) | (with_reducible refine rd_iZipN ?_) | (with_reducible refine rd_iZipL ?_) | (with_reducible refine rd_revL ?_) | (with_reducible refine rd_lstZ ?_) | (with_reducible refine rd_iRev ?_)
  | (with_reducible refine rd_seq ?_) | (with_reducible refine rd_asg ?_) | (with_reducible refine rd_ret ?_) | (with_reducible refine rd_next ?_)
  | (with_reducible refine rd_drop ?_) | ((with_reducible refine rd_name (σ' := ?ss) ?hs ?_); (case hs => (dsimp only [List.set]; exact rfl)))
  | ((with_reducible refine rd_var (v := ?vv) ?hv ?_); (case hv => exact rfl)) | (with_reducible refine rd_c ?_) | (with_reducible refine rd_op ?_) | (with_reducible refine rd_un ?_)
  | (with_reducible refine rd_I0 ?_) | (with_reducible refine rd_U ?_) | (with_reducible refine rd_test ?_) | (with_reducible refine rd_B ?_) | (with_reducible refine rd_k ?_)
  | (with_reducible refine rd_not ?_) | (with_reducible refine rd_and ?_) | (with_reducible refine rd_or ?_)
  | (with_reducible refine rd_par ?_) | ((with_reducible refine rd_par2 (σ' := ?ss) ?hs ?_); (case hs => (dsimp only [List.set]; exact rfl)))
  | (with_reducible refine rd_gsub ?_) | (with_reducible refine rd_andV ?_) | (with_reducible refine rd_orV ?_) | (with_reducible refine rd_notV ?_)
  | (with_reducible refine rd_lc ?_) | (with_reducible refine rd_iTup ?_) | (with_reducible refine rd_iList ?_) | (with_reducible refine rd_iRng1 ?_) | (with_reducible refine rd_iRng2 ?_) | (with_reducible refine rd_iEnumT ?_) | (with_reducible refine rd_iEnum ?_) | (with_reducible refine rd_iZipM ?_) | (with_reducible refine rd_iEnumS ?_) | (with_reducible refine rd_iKeys ?_) | (with_reducible refine rd_din ?_) | (with_reducible refine rd_dnotin ?_)
  | (with_reducible refine rd_yes ?_) | (with_reducible refine rd_true ?_) | (with_reducible refine rd_false ?_) | (with_reducible refine rd_m1 ?_) | (with_reducible refine rd_isS ?_)
  | ((with_reducible refine rd_eq ?hs ?_); (case hs => exact rfl)) | ((with_reducible refine rd_ne ?hs ?_); (case hs => exact rfl))
  | (with_reducible refine rd_listRg ?_) | (with_reducible refine rd_rg2 ?_) | (with_reducible refine rd_rgk ?_)
  | (with_reducible refine rd_dnew ?_) | (with_reducible refine rd_ddel ?_) | (with_reducible refine rd_kw ?_) | (with_reducible refine rd_callS ?_) | (with_reducible refine rd_dc ?_) | (with_reducible refine rd_for ?_) | (with_reducible refine rd_tru ?_) | (with_reducible refine rd_truI ?_)
  | (with_reducible refine rd_nil ?_) | (with_reducible refine rd_cons ?_) | (with_reducible refine rd_call ?_) | (with_reducible refine rd_cb ?_)
  | (with_reducible refine rd_tup ?_) | (with_reducible refine rd_lst ?_) | (with_reducible refine rd_dget ?_) | (with_reducible refine rd_dput ?_) | (with_reducible refine rd_dget2 ?_) | (with_reducible refine rd_sl ?_)
  | (with_reducible refine rd_nopart ?_) | (with_reducible refine rd_part ?_) | (with_reducible refine rd_parti ?_) | (with_reducible refine rd_bm ?_) | (with_reducible refine rd_bm0 ?_)
  | (with_reducible refine rd_int ?_) | (with_reducible refine rd_intb ?_) | (with_reducible refine rd_abs ?_) | (with_reducible refine rd_min2 ?_) | (with_reducible refine rd_max2 ?_))
local macro_rules | `(tactic| walk_at "rvs") => `(tactic| repeat (walk_at "rv"))

theorem noLs_pw (row : Str → Bool) : ∀ zs : List Str, noLs (zs.map fun z => PyData.tuple [.str z, .bool (row z)]) = true
  | [] => rfl
  | z :: t => by
    show (noL (PyData.tuple [.str z, .bool (row z)]) && noLs (t.map fun z => PyData.tuple [.str z, .bool (row z)])) = true
    rw [noLs_pw row t] <;> rfl
theorem and_pow (m k : Nat) : m &&& 2 ^ k = if m.testBit k = true then 2 ^ k else 0 := by
  refine Nat.eq_of_testBit_eq fun i => ?_
  rw [Nat.testBit_and, Nat.testBit_two_pow]
  by_cases c : k = i
  · subst c
    cases h : m.testBit k with
    | true => rw [if_pos rfl, Nat.testBit_two_pow] <;> rfl
    | false => rw [if_neg Bool.false_ne_true, Nat.zero_testBit] <;> rfl
  · rw [decide_eq_false c, Bool.and_false]
    split
    · rw [Nat.testBit_two_pow, decide_eq_false c]
    · rw [Nat.zero_testBit]
section
variable {P : Program} {w : World} {K : PySem.W.Frag} {mg : Str → Option Value} {base : Heap}
def spWorlds (K : PySem.W.Frag) : Sp := fun vs H Q _ => ∃ (N : Addr) (zs : List Str), vs = [.ref N] ∧ SqL K H N (zs.map V.str) ∧ zs.length ≤ 12 ∧
  ∀ (t D : Addr) (kvs : List (Key × V)) (H' : Hp), Evl.Ex H H' → SqT K H' t [.ref D, .int ((2 ^ zs.length : Nat) : Int)] → H' D = some (.dK kvs) → kvs.length ≤ zs.length → MkOf kvs (wmask zs) → Q (.ref t) H'
theorem ok_worlds {f fW : Addr} {fd fdW : FuncData} (F : Fun K "worlds_of" "worlds_of" sworlds_of f fd) (T : Bl mg)
    (Gwith_name : FnOk P w K mg base CX0 1 fW fdW ["masks", "size", "name"] spWith) (Cwith_name : Callee K mg "with_name" fW fdW ["masks", "size", "name"]) :
    FnOk P w K mg base CX0 2 f fd ["names"] (spWorlds K) := by
  refine F.ok scworlds_of (fun vs H Q E h => ?_) (fun cdv A outer s H vs Q E hr h => ?_)
  · obtain ⟨N, zs, rfl, _⟩ := h
    rfl
  · obtain ⟨N, zs, rfl, hN, hz, q⟩ := h
    refine ⟨_, (pss_cons (ps_par (i := 1) (j := 2) rfl scworlds_of.nd rfl rfl (by decide) rfl rfl (pa_cons pe_dnewK (pa_cons pe_int pa_nil)) (by rfl))
 (pss_cons (ps_for PassesOwn.never rfl (pi_revK (K := K) rfl (by rfl) T.reversed (pa_cons (pv 0) pa_nil)) (pg_name (i := 3) scworlds_of.nd rfl (Or.inl rfl)) (pss_one (ps_par (i := 1) (j := 2) rfl scworlds_of.nd rfl rfl (by decide) rfl rfl (pa_cons (pe_call Gwith_name (hr.mono (by decide)) (by rfl) Cwith_name.m Cwith_name.k Cwith_name.b .nil pass0 (pa_cons (pv 1) (pa_cons (pv 2) (pa_cons (pv 3) pa_nil)))) (pa_cons (pe_op op_mul pe_int (pv 2)) pa_nil)) (by rfl))))
 (pss_one (ps_ret (pe_tup (pa_cons (pv 1) (pa_cons (pv 2) pa_nil))))))), ?_⟩
    refine rd_start (σ' := [some (.ref N), none, none, none]) rfl ?_
    walk_at "rds"
    intro D0 hD0
    have e0 := Evl.Ex.new (o := .dK []) hD0
    walk_at "rds"
    refine ⟨N, _, rfl, Evl.ex_l e0 hN, ?_⟩
    refine fr_rev (K := K) (fun i σ' H' => i ≤ zs.length ∧ ∃ (D : Addr) (kvs : List (Key × V)) (o : Option V), σ' = [some (.ref N), some (.ref D), some (.int ((2 ^ i : Nat) : Int)), o] ∧ Evl.Ex H H' ∧ H' D = some (.dK kvs) ∧ kvs.length ≤ i ∧ MkOf kvs (wmask (zs.drop (zs.length - i)))) ⟨Nat.zero_le _, D0, [], none, rfl, e0, upd_same, Nat.le_refl _, by rw [Nat.sub_zero, List.drop_length]; exact DicOf.nil⟩ (fun i σ' H' hP => ?_) (fun i x σ' H1 hx hi hP => ?_) fun σ' H1 hP => ?_
    · obtain ⟨_, _, _, _, _, e, _⟩ := hP
      exact Evl.ex_l e hN
    · obtain ⟨hil, D, kvs, o, rfl, e1, hD, hl, hM⟩ := hP
      rw [List.length_map] at hx hi
      rw [List.getElem?_map, List.getElem?_eq_getElem (by omega : zs.length - 1 - i < zs.length)] at hx
      obtain rfl : V.str zs[zs.length - 1 - i] = x := Option.some.inj hx
      have hdl : (zs.drop (zs.length - i)).length = i := by rw [List.length_drop]; omega
      have hML := wmask_lt (zs.drop (zs.length - i))
      rw [hdl] at hML
      have hp : 2 ^ i ≤ 2 ^ 12 := Nat.pow_le_pow_right (by decide) (by omega)
      refine rd_start (σ' := [some (.ref N), some (.ref D), some (.int ((2 ^ i : Nat) : Int)), some (.str zs[zs.length - 1 - i])]) rfl ?_
      walk_at "rds"
      refine ⟨D, kvs, _, 2 ^ i, _, rfl, hD, by omega, hM, hML, by omega, fun D2 kvs2 H2 e2 hD2 hl2 hM2 => ?_⟩
      walk_at "rds"
      refine rd_I (.inl ⟨by decide, by decide⟩) ?_
      walk_at "rds"
      refine ⟨hi, D2, kvs2, _, by rw [show (2 : Int) * ((2 ^ i : Nat) : Int) = ((2 ^ (i + 1) : Nat) : Int) by rw [Nat.pow_succ]; omega], e1.trans e2, hD2, by omega, ?_⟩
      have ed : zs.drop (zs.length - (i + 1)) = zs[zs.length - 1 - i] :: zs.drop (zs.length - i) := by
        rw [show zs.length - (i + 1) = zs.length - 1 - i by omega, List.drop_eq_getElem_cons (by omega : zs.length - 1 - i < zs.length)]
        congr 2
        omega
      rw [ed]
      have : wmask (zs[zs.length - 1 - i] :: zs.drop (zs.length - i)) = widen (wmask (zs.drop (zs.length - i))) (2 ^ i) zs[zs.length - 1 - i] := by
        show widen (wmask (zs.drop (zs.length - i))) (2 ^ (zs.drop (zs.length - i)).length) _ = _
        rw [hdl]
      rw [this]
      exact hM2
    · obtain ⟨hil, D, kvs, o, rfl, e1, hD, hl, hM⟩ := hP
      rw [List.length_map] at hl hM ⊢
      rw [Nat.sub_self, List.drop_zero] at hM
      walk_at "rds"
      refine ⟨(by show 2 ≤ sizeLine; decide), fun t ht => ?_⟩
      have e2 := Evl.Ex.new (o := .tup [V.ref D, .int ((2 ^ zs.length : Nat) : Int)]) ht
      exact q t D kvs _ (e1.trans e2) (SqT.of upd_same) (e2 _ _ hD) hl hM
def spPart (K : PySem.W.Frag) (m : Nat) : Sp := fun vs H Q _ => ∃ (v u : V) (f g : Fm) (B : List Str), vs = [v, u] ∧ Dp K H v (dat f) ∧ Dp K H u (dat g) ∧ dp f ≤ m ∧ dp g ≤ m ∧ nd f ≤ 400 ∧ nd g ≤ 400 ∧ qd f ≤ 5 ∧ qd g ≤ 5 ∧ B.length ≤ 9 ∧ (∀ z ∈ fvl f, z ∈ B) ∧ (∀ z ∈ fvl g, z ∈ B) ∧
  ∀ (zs : List Str) (x : V) (H' : Hp), zs.Pairwise leS → zs.Nodup → (∀ z, z ∈ zs ↔ z ∈ fvl f ∨ z ∈ fvl g) → Evl.Ex H H' → Dp K H' x (pwD zs (PW f g zs)) → Q x H'
theorem ok_parting {f fN fW fH : Addr} {fd fdN fdW fdH : FuncData} (F : Fun K "parting_world" "parting_world" sparting_world f fd) (T : Bl mg) {m k1 k : Nat} (hk1 : k1 ≤ k) (hk2 : 2 ≤ k)
    (Gfree_names : FnOk P w K mg base CX0 k1 fN fdN ["formula"] (spFree K m)) (Cfree_names : Callee K mg "free_names" fN fdN ["formula"])
    (Gworlds_of : FnOk P w K mg base CX0 2 fW fdW ["names"] (spWorlds K)) (Cworlds_of : Callee K mg "worlds_of" fW fdW ["names"])
    (Gwhere_holding : FnOk P w K mg base CX0 k fH fdH ["formula", "masks", "size"] (spWhere K m)) (Cwhere_holding : Callee K mg "where_holding" fH fdH ["formula", "masks", "size"]) :
    FnOk P w K mg base CX0 (k + 1) f fd ["one", "other"] (spPart K m) := by
  refine F.ok scparting_world (fun vs H Q E h => ?_) (fun cdv A outer s H vs Q E hr h => ?_)
  · obtain ⟨v, u, f, g, B, rfl, _⟩ := h
    rfl
  · obtain ⟨v, u, f, g, B, rfl, hv, hu, hm1, hm2, hn1, hn2, hq1, hq2, hB, hfB, hgB, q⟩ := h
    refine ⟨_, (pss_cons (ps_set (i := 2) scparting_world.nd rfl (Or.inl rfl) (pe_callB (cr_sortedS rfl (Nat.lt_of_le_of_lt (Nat.add_le_add_left (by decide) _) hr.units)) (by rfl) T.sorted (by decide +kernel) (pa_cons (pe_callTy (c_setTx (K := K) rfl rfl) (by rfl) T.set (by decide +kernel) (pa_cons (pe_op (ok_catT (K := K) rfl) (pe_call Gfree_names (hr.mono hk1) (by rfl) Cfree_names.m Cfree_names.k Cfree_names.b .nil pass0 (pa_cons (pv 0) pa_nil)) (pe_call Gfree_names (hr.mono hk1) (by rfl) Cfree_names.m Cfree_names.k Cfree_names.b .nil pass0 (pa_cons (pv 1) pa_nil))) pa_nil)) pa_nil)))
 (pss_cons (ps_asg (pe_call Gworlds_of (hr.mono hk2) (by rfl) Cworlds_of.m Cworlds_of.k Cworlds_of.b .nil pass0 (pa_cons (pv 2) pa_nil)) (pgk_tup (K := K) rfl rfl (pgs_cons (pg_name (i := 3) scparting_world.nd rfl (Or.inr rfl)) (pgs_cons (pg_name (i := 4) scparting_world.nd rfl (Or.inl rfl)) pgs_nil))))
 (pss_cons (ps_set (i := 5) scparting_world.nd rfl (Or.inl rfl) (pe_op op_xor (pe_call Gwhere_holding hr (by rfl) Cwhere_holding.m Cwhere_holding.k Cwhere_holding.b .nil pass0 (pa_cons (pv 0) (pa_cons (pv 3) (pa_cons (pv 4) pa_nil)))) (pe_call Gwhere_holding hr (by rfl) Cwhere_holding.m Cwhere_holding.k Cwhere_holding.b .nil pass0 (pa_cons (pv 1) (pa_cons (pv 3) (pa_cons (pv 4) pa_nil))))))
 (pss_cons (ps_if (pt_cmpR op_eq (pv 5) pe_int (nomark _)) (pss_one (ps_ret pe_non)) pss_nil)
 (pss_cons (ps_set (i := 6) scparting_world.nd rfl (Or.inr rfl) (pe_op op_and (pv 5) (pe_un un_neg (pv 5))))
 (pss_one (ps_ret (pe_callTy (c_tuple (K := K) rfl) (by rfl) T.tuple (by decide +kernel) (pa_cons (pe_lc (own := [("name", 7)]) (g := gName 7) rfl scparting_world.nd (ik_listI (K := K) rfl (pv 2)) (blkOk_by (own := [("name", 7)]) (N := ["one", "other", "names", "masks", "size", "parting", "first", "name"]) (sc := defScope sparting_world) (by decide +kernel)) (fun _ _ _ _ _ => (pg_name (i := 7) scparting_world.nd rfl (Or.inl rfl))) (fun _ _ _ _ _ => pts_nil) (fun _ _ _ _ _ => (pe_tup (pa_cons (pv 7) (pa_cons (pe_cmpR op_ne (pe_op op_and (pe_dget (hu_of hr) (pv 3) (pv 7) (fun _ _ => rfl)) (pv 6)) pe_int (nomark _)) pa_nil))))) pa_nil))))))))), ?_⟩
    refine rd_start (σ' := [some v, some u, none, none, none, none, none, none]) rfl ?_
    walk_at "rvs"
    refine ⟨v, f, B, rfl, hv, hm1, by omega, by omega, hfB, fun p1 t1 H1 e1 s1 _ d1 i1 => ?_⟩
    walk_at "rvs"
    refine ⟨u, g, B, rfl, dpF_ex e1 hu, hm2, by omega, by omega, hgB, fun p2 t2 H2 e2 s2 _ d2 i2 => ?_⟩
    have l1 := nodup_sub d1 fun z hz => hfB z ((i1 z).mp hz)
    have l2 := nodup_sub d2 fun z hz => hgB z ((i2 z).mp hz)
    walk_at "rvs"
    refine rd_catT (Evl.ex_t e2 s1) s2 (by rw [List.length_map, List.length_map, sizeLine_eq]; omega) fun p3 H3 e3 s3 => ?_
    rw [← List.map_append] at s3
    walk_at "rvs"
    refine ⟨p3, t1 ++ t2, rfl, .inl s3, by rw [List.length_append]; omega, fun S l hS nd hl hm => ?_⟩
    have e4 := Evl.Ex.new (o := SetSO P w S l) hS
    rw [List.length_append] at hl
    walk_at "rvs"
    refine ⟨S, l, rfl, upd_same, nd, by unfold scanBound; omega, fun zs N pm so hN => ?_⟩
    have e5 := Evl.Ex.new (o := .lst (zs.map V.str)) hN
    have zn := pm.nodup_iff.mpr nd
    have hsort := so
    have zm : ∀ z, z ∈ zs ↔ z ∈ fvl f ∨ z ∈ fvl g := fun z => by rw [pm.mem_iff, hm, List.mem_append, i1, i2]
    have zl : zs.length ≤ B.length := nodup_sub zn fun z hz => ((zm z).mp hz).elim (hfB z) (hgB z)
    have eA := e1.trans (e2.trans (e3.trans (e4.trans e5)))
    have hNz : SqL K _ N (zs.map V.str) := SqL.of (upd_same (H := upd H3 S (SetSO P w S l)) (a := N) (o := .lst (zs.map V.str)))
    walk_at "rvs"
    refine ⟨N, zs, rfl, hNz, by omega, fun t D kvs H6 e6 st hD hlk hM => ?_⟩
    walk_at "rvs"
    refine rd_gtup2 st rfl (σ' := [some v, some u, some (.ref N), some (.ref D), some (.int ((2 ^ zs.length : Nat) : Int)), none, none, none]) rfl ?_
    have hp9 : 2 ^ zs.length ≤ 2 ^ 9 := Nat.pow_le_pow_right (by decide) (by omega)
    have pq : ∀ {h : Fm}, qd h ≤ 5 → 2 ^ zs.length * 2 ^ qd h ≤ 100000 := fun {h} hq => by
      have : 2 ^ qd h ≤ 2 ^ 5 := Nat.pow_le_pow_right (by decide) hq
      exact Nat.le_trans (Nat.mul_le_mul hp9 this) (by decide)
    have eB := eA.trans e6
    walk_at "rvs"
    refine ⟨v, f, D, kvs, wmask zs, 2 ^ zs.length, rfl, dpF_ex eB hv, hm1, by omega, hD, by omega, hM, wmask_lt zs, fun z hz => wmask_some ((zm z).mpr (.inl hz)), pq hq1, fun r1 H7 e7 w1 => ?_⟩
    walk_at "rvs"
    refine ⟨u, g, D, kvs, wmask zs, 2 ^ zs.length, rfl, dpF_ex (eB.trans e7) hu, hm2, by omega, e7 _ _ hD, by omega, hM, wmask_lt zs, fun z hz => wmask_some ((zm z).mpr (.inr hz)), pq hq2, fun r2 H8 e8 w2 => ?_⟩
    walk_at "rvs"
    rw [bXor]
    have eC := eB.trans (e7.trans e8)
    walk_at "rvs"
    refine rd_if ?_
    walk_at "rvs"
    refine rd_ite (fun c => ?_) (fun c => ?_)
    · have c : ((r1 ^^^ r2 : Nat) : Int) = 0 := V.int.inj c
      have := q zs .non _ hsort zn zm eC (by rw [PW_none w1 w2 (by omega)]; exact .non)
      walk_at "rvs"
      exact this
    · have c : ¬ ((r1 ^^^ r2 : Nat) : Int) = 0 := fun e => c (by rw [e])
      walk_at "rvs"
      obtain ⟨k, k1, k2, k3⟩ := bAnd_neg (p := r1 ^^^ r2) (by omega)
      obtain ⟨row, hr, hpw⟩ := PW_some w1 w2 k2 k3
      have hwr := wld_row hr
      rw [k1]
      walk_at "rvs"
      have hgz : ∀ z, z ∈ zs → ∃ m, wmask zs z = some m ∧ envF zs row z = m.testBit k := fun z hz => by
        obtain ⟨m, hm⟩ := wmask_some hz
        refine ⟨m, hm, ?_⟩
        rw [← hwr]
        show ((wmask zs z).getD 0).testBit k = _
        rw [hm] <;> rfl
      have hNC := Evl.ex_l (e6.trans (e7.trans e8)) hNz
      refine ⟨N, rfl, ⟨_, hNC⟩, ?_⟩
      refine lc_lsL (K := K) (xs := zs.map V.str) (fun D i acc H' => DpAll K H' acc ((zs.take i).map fun z => PyData.tuple [.str z, .bool (envF zs row z)])) (fun i acc H1 D u e h => dps_mono (fun _ _ t => tup_upd e lst_not t) _ _ (noLs_pw _ _) h) hNC (by rw [List.length_map]; omega) (σx := fun x => [some v, some u, some (.ref N), some (.ref D), some (.int ((2 ^ zs.length : Nat) : Int)), some (.int ((r1 ^^^ r2 : Nat) : Int)), some (.int ((2 ^ k : Nat) : Int)), some x]) (fun _ => rfl) (fun _ => rfl) (fun D H' _ => .nil) (fun i x hx D2 acc H' NN ex hDa hP kN => ?_) fun D2 acc H' ex hn2 hD2 hP => ?_
      · rw [List.getElem?_map] at hx
        obtain ⟨z, hz, rfl⟩ := Option.map_eq_some_iff.mp hx
        obtain ⟨m, hm, hev⟩ := hgz z (List.mem_of_getElem? hz)
        have hg := hM.get (ex _ _ ((e7.trans e8) _ _ hD)) z
        rw [hm] at hg
        walk_at "rvs"
        refine ⟨D, nV m, rfl, hg, ?_⟩
        unfold nV
        walk_at "rvs"
        refine ⟨(by show 2 ≤ sizeLine; decide), fun p hp => ?_⟩
        have e9 := Evl.Ex.new (o := .tup [V.str z, V.bl !decide (V.int (Builtin.bitAnd (m : Int) ((2 ^ k : Nat) : Int)) = V.int 0)]) hp
        have hb : (!decide (V.int (Builtin.bitAnd (m : Int) ((2 ^ k : Nat) : Int)) = V.int 0)) = envF zs row z := by
          rw [hev, bAnd, and_pow]
          cases h : m.testBit k with
          | true =>
            have := Nat.one_le_two_pow (n := k)
            rw [if_pos rfl, decide_eq_false]
            · rfl
            · intro e
              have e := V.int.inj e
              omega
          | false => rw [if_neg Bool.false_ne_true, decide_eq_true (show V.int ((0 : Nat) : Int) = V.int 0 from rfl)] <;> rfl
        rw [hb] at e9 ⊢
        refine kN _ _ e9 ?_
        rw [List.take_add_one, hz, List.map_append]
        refine dps_mono (fun _ _ t => tup_upd (e9 _ _ hDa) lst_not t) _ _ ?_ (dpAll_cat (dpAll_ex e9 _ _ hP) (.cons (.tup (SqT.of upd_same) (.cons (.str z) (.cons (.bl _) .nil))) .nil))
        rw [show (List.map (fun z => PyData.tuple [.str z, .bool (envF zs row z)]) (some z).toList) = List.map (fun z => PyData.tuple [.str z, .bool (envF zs row z)]) [z] from rfl, ← List.map_append]
        exact noLs_pw _ _
      · walk_at "rvs"
        refine ⟨D2, acc, rfl, .inl ⟨SqL.of hD2, fun t ht => ?_⟩⟩
        have e9 := Evl.Ex.new (o := .tup acc) ht
        rw [List.length_map, List.take_of_length_le (Nat.le_refl _)] at hP
        refine q zs _ _ hsort zn zm (eC.trans (ex.trans e9)) ?_
        rw [hpw]
        exact .tup (SqT.of upd_same) (dpAll_ex e9 _ _ hP)
end
end KA
set_option Elab.async false
set_option linter.all false
set_option maxRecDepth 100000
set_option maxHeartbeats 400000
set_option pp.maxSteps 300
namespace KA
open PySem PySem.Spec PyProof.Rows L2 Ea
abbrev s_law_truth : Stmt := topS 21
theorem sc_law_truth : FnScope ["f", "world", "word", "both", "side", "near", "own", "name"] ["f", "world"] (defScope s_law_truth) :=
  ⟨rfl, rfl, rfl, by decide +kernel, rfl, by decide +kernel, by decide +kernel⟩
local macro_rules | `(tactic| walk_at "rd") => `(tactic| first
  | (with_reducible refine rd_iItems ?_) | (with_reducible refine rd_sc2 ?_) | (with_reducible refine rd_lc2 ?_) | (with_reducible refine rd_iZipN ?_) | (with_reducible refine rd_iZipL ?_) | (with_reducible refine rd_revL ?_) | (with_reducible refine rd_lstZ ?_) | (with_reducible refine rd_iRev ?_)
  | (with_reducible refine rd_seq ?_) | (with_reducible refine rd_asg ?_) | (with_reducible refine rd_if ?_) | (with_reducible refine rd_ret ?_) | (with_reducible refine rd_next ?_)
  | (with_reducible refine rd_drop ?_) | ((with_reducible refine rd_name (σ' := ?ss) ?hs ?_); (case hs => (dsimp only [List.set]; exact rfl)))
  | ((with_reducible refine rd_var (v := ?vv) ?hv ?_); (case hv => exact rfl)) | (with_reducible refine rd_c ?_) | (with_reducible refine rd_op ?_) | (with_reducible refine rd_un ?_)
  | (with_reducible refine rd_I0 ?_) | (with_reducible refine rd_U ?_) | (with_reducible refine rd_test ?_) | (with_reducible refine rd_B ?_) | (with_reducible refine rd_k ?_)
  | (with_reducible refine rd_not ?_) | (with_reducible refine rd_and ?_) | (with_reducible refine rd_or ?_) | (with_reducible refine rd_ifE ?_)
  | (with_reducible refine rd_par ?_) | ((with_reducible refine rd_par2 (σ' := ?ss) ?hs ?_); (case hs => (dsimp only [List.set]; exact rfl)))
  | (with_reducible refine rd_gsub ?_) | (with_reducible refine rd_andV ?_) | (with_reducible refine rd_orV ?_) | (with_reducible refine rd_notV ?_)
  | (with_reducible refine rd_lc ?_) | (with_reducible refine rd_iTup ?_) | (with_reducible refine rd_iList ?_) | (with_reducible refine rd_iRng1 ?_) | (with_reducible refine rd_iRng2 ?_) | (with_reducible refine rd_iEnumT ?_) | (with_reducible refine rd_iEnum ?_) | (with_reducible refine rd_iZipM ?_) | (with_reducible refine rd_iEnumS ?_) | (with_reducible refine rd_iKeys ?_) | (with_reducible refine rd_din ?_) | (with_reducible refine rd_dnotin ?_)
  | (with_reducible refine rd_yes ?_) | (with_reducible refine rd_true ?_) | (with_reducible refine rd_false ?_) | (with_reducible refine rd_m1 ?_) | (with_reducible refine rd_isS ?_)
  | ((with_reducible refine rd_eq ?hs ?_); (case hs => exact rfl)) | ((with_reducible refine rd_ne ?hs ?_); (case hs => exact rfl))
  | (with_reducible refine rd_listRg ?_) | (with_reducible refine rd_rg2 ?_) | (with_reducible refine rd_rgk ?_)
  | (with_reducible refine rd_dnew ?_) | (with_reducible refine rd_ddel ?_) | (with_reducible refine rd_kw ?_) | (with_reducible refine rd_callS ?_) | (with_reducible refine rd_dc ?_) | (with_reducible refine rd_for ?_) | (with_reducible refine rd_tru ?_) | (with_reducible refine rd_truI ?_)
  | (with_reducible refine rd_nil ?_) | (with_reducible refine rd_cons ?_) | (with_reducible refine rd_call ?_) | (with_reducible refine rd_cb ?_)
  | (with_reducible refine rd_tup ?_) | (with_reducible refine rd_lst ?_) | (with_reducible refine rd_dget ?_) | (with_reducible refine rd_dput ?_) | (with_reducible refine rd_dget2 ?_) | (with_reducible refine rd_sl ?_)
  | (with_reducible refine rd_nopart ?_) | (with_reducible refine rd_part ?_) | (with_reducible refine rd_parti ?_) | (with_reducible refine rd_bm ?_) | (with_reducible refine rd_bm0 ?_)
  | (with_reducible refine rd_int ?_) | (with_reducible refine rd_intb ?_) | (with_reducible refine rd_abs ?_) | (with_reducible refine rd_min2 ?_) | (with_reducible refine rd_max2 ?_))
local macro_rules | `(tactic| walk_at "rds") => `(tactic| repeat (walk_at "rd"))
local macro_rules | `(tactic| walk_at "rq") => `(tactic| first
  | (with_reducible refine rd_iItems ?_) | (with_reducible refine rd_sc2 ?_) | (with_reducible refine rd_lc2 ?_) | (with_reducible refine rd_iZipN ?_) | (with_reducible refine rd_iZipL ?_) | (with_reducible refine rd_revL ?_) | (with_reducible refine rd_lstZ ?_) | (with_reducible refine rd_iRev ?_)
  | (with_reducible refine rd_seq ?_) | (with_reducible refine rd_asg ?_) | (with_reducible refine rd_ret ?_) | (with_reducible refine rd_next ?_)
  | (with_reducible refine rd_drop ?_) | ((with_reducible refine rd_name (σ' := ?ss) ?hs ?_); (case hs => (dsimp only [List.set]; exact rfl)))
  | ((with_reducible refine rd_var (v := ?vv) ?hv ?_); (case hv => exact rfl)) | (with_reducible refine rd_c ?_) | (with_reducible refine rd_op ?_) | (with_reducible refine rd_un ?_)
  | (with_reducible refine rd_I0 ?_) | (with_reducible refine rd_U ?_) | (with_reducible refine rd_test ?_) | (with_reducible refine rd_B ?_) | (with_reducible refine rd_k ?_)
  | (with_reducible refine rd_not ?_) | (with_reducible refine rd_and ?_) | (with_reducible refine rd_or ?_) | (with_reducible refine rd_ifE ?_)
  | (with_reducible refine rd_par ?_) | ((with_reducible refine rd_par2 (σ' := ?ss) ?hs ?_); (case hs => (dsimp only [List.set]; exact rfl)))
  | (with_reducible refine rd_gsub ?_) | (with_reducible refine rd_andV ?_) | (with_reducible refine rd_orV ?_) | (with_reducible refine rd_notV ?_)
  | (with_reducible refine rd_lc ?_) | (with_reducible refine rd_iTup ?_) | (with_reducible refine rd_iList ?_) | (with_reducible refine rd_iRng1 ?_) | (with_reducible refine rd_iRng2 ?_) | (with_reducible refine rd_iEnumT ?_) | (with_reducible refine rd_iEnum ?_) | (with_reducible refine rd_iZipM ?_) | (with_reducible refine rd_iEnumS ?_) | (with_reducible refine rd_iKeys ?_) | (with_reducible refine rd_din ?_) | (with_reducible refine rd_dnotin ?_)
  | (with_reducible refine rd_yes ?_) | (with_reducible refine rd_true ?_) | (with_reducible refine rd_false ?_) | (with_reducible refine rd_m1 ?_) | (with_reducible refine rd_isS ?_)
  | ((with_reducible refine rd_eq ?hs ?_); (case hs => exact rfl)) | ((with_reducible refine rd_ne ?hs ?_); (case hs => exact rfl))
  | (with_reducible refine rd_listRg ?_) | (with_reducible refine rd_rg2 ?_) | (with_reducible refine rd_rgk ?_)
  | (with_reducible refine rd_dnew ?_) | (with_reducible refine rd_ddel ?_) | (with_reducible refine rd_kw ?_) | (with_reducible refine rd_callS ?_) | (with_reducible refine rd_dc ?_) | (with_reducible refine rd_for ?_) | (with_reducible refine rd_tru ?_) | (with_reducible refine rd_truI ?_)
  | (with_reducible refine rd_nil ?_) | (with_reducible refine rd_cons ?_) | (with_reducible refine rd_call ?_) | (with_reducible refine rd_cb ?_)
  | (with_reducible refine rd_tup ?_) | (with_reducible refine rd_lst ?_) | (with_reducible refine rd_dget ?_) | (with_reducible refine rd_dput ?_) | (with_reducible refine rd_dget2 ?_) | (with_reducible refine rd_sl ?_)
  | (with_reducible refine rd_nopart ?_) | (with_reducible refine rd_part ?_) | (with_reducible refine rd_parti ?_) | (with_reducible refine rd_bm ?_) | (with_reducible refine rd_bm0 ?_)
  | (with_reducible refine rd_int ?_) | (with_reducible refine rd_intb ?_) | (with_reducible refine rd_abs ?_) | (with_reducible refine rd_min2 ?_) | (with_reducible refine rd_max2 ?_))
local macro_rules | `(tactic| walk_at "rqs") => `(tactic| repeat (walk_at "rq"))
local macro_rules | `(tactic| walk_at "rv") => `(tactic| first
  | (with_reducible refine rd_iItems ?_) | (with_reducible refine rd_sc2 ?_) | (with_reducible refine rd_lc2 ?_) | (with_reducible refine rd_iZipN ?_) | (with_reducible refine rd_iZipL ?_) | (with_reducible refine rd_revL ?_) | (with_reducible refine rd_lstZ ?_) | (with_reducible refine rd_iRev ?_)
  | (with_reducible refine rd_seq ?_) | (with_reducible refine rd_asg ?_) | (with_reducible refine rd_ret ?_) | (with_reducible refine rd_next ?_)
  | (with_reducible refine rd_drop ?_) | ((with_reducible refine rd_name (σ' := ?ss) ?hs ?_); (case hs => (dsimp only [List.set]; exact rfl)))
  | ((with_reducible refine rd_var (v := ?vv) ?hv ?_); (case hv => exact rfl)) | (with_reducible refine rd_c ?_) | (with_reducible refine rd_op ?_) | (with_reducible refine rd_un ?_)
  | (with_reducible refine rd_I0 ?_) | (with_reducible refine rd_U ?_) | (with_reducible refine rd_test ?_) | (with_reducible refine rd_B ?_) | (with_reducible refine rd_k ?_)
  | (with_reducible refine rd_not ?_) | (with_reducible refine rd_and ?_) | (with_reducible refine rd_or ?_)
  | (with_reducible refine rd_par ?_) | ((with_reducible refine rd_par2 (σ' := ?ss) ?hs ?_); (case hs => (dsimp only [List.set]; exact rfl)))
  | (with_reducible refine rd_gsub ?_) | (with_reducible refine rd_andV ?_) | (with_reducible refine rd_orV ?_) | (with_reducible refine rd_notV ?_)
  | (with_reducible refine rd_lc ?_) | (with_reducible refine rd_iTup ?_) | (with_reducible refine rd_iList ?_) | (with_reducible refine rd_iRng1 ?_) | (with_reducible refine rd_iRng2 ?_) | (with_reducible refine rd_iEnumT ?_) | (with_reducible refine rd_iEnum ?_) | (with_reducible refine rd_iZipM ?_) | (with_reducible refine rd_iEnumS ?_) | (with_reducible refine rd_iKeys ?_) | (with_reducible refine rd_din ?_) | (with_reducible refine rd_dnotin ?_)
  | (with_reducible refine rd_yes ?_) | (with_reducible refine rd_true ?_) | (with_reducible refine rd_false ?_) | (with_reducible refine rd_m1 ?_) | (with_reducible refine rd_isS ?_)
  | ((with_reducible refine rd_eq ?hs ?_); (case hs => exact rfl)) | ((with_reducible refine rd_ne ?hs ?_); (case hs => exact rfl))
  | (with_reducible refine rd_listRg ?_) | (with_reducible refine rd_rg2 ?_) | (with_reducible refine rd_rgk ?_)
  | (with_reducible refine rd_dnew ?_) | (with_reducible refine rd_ddel ?_) | (with_reducible refine rd_kw ?_) | (with_reducible refine rd_callS ?_) | (with_reducible refine rd_dc ?_) | (with_reducible refine rd_for ?_) | (with_reducible refine rd_tru ?_) | (with_reducible refine rd_truI ?_)
  | (with_reducible refine rd_nil ?_) | (with_reducible refine rd_cons ?_) | (with_reducible refine rd_call ?_) | (with_reducible refine rd_cb ?_)
  | (with_reducible refine rd_tup ?_) | (with_reducible refine rd_lst ?_) | (with_reducible refine rd_dget ?_) | (with_reducible refine rd_dput ?_) | (with_reducible refine rd_dget2 ?_) | (with_reducible refine rd_sl ?_)
  | (with_reducible refine rd_nopart ?_) | (with_reducible refine rd_part ?_) | (with_reducible refine rd_parti ?_) | (with_reducible refine rd_bm ?_) | (with_reducible refine rd_bm0 ?_)
  | (with_reducible refine rd_int ?_) | (with_reducible refine rd_intb ?_) | (with_reducible refine rd_abs ?_) | (with_reducible refine rd_min2 ?_) | (with_reducible refine rd_max2 ?_))
local macro_rules | `(tactic| walk_at "rvs") => `(tactic| repeat (walk_at "rv"))

theorem semL_all (fs : List Fm) (ρ : Str → Bool) : semL true fs ρ = fs.all fun g => sem g ρ := by
  induction fs with
  | nil => rw [semL]; rfl
  | cons f t ih => rw [semL, if_pos rfl, ih, List.all_cons]
theorem semL_any (fs : List Fm) (ρ : Str → Bool) : semL false fs ρ = fs.any fun g => sem g ρ := by
  induction fs with
  | nil => rw [semL]; rfl
  | cons f t ih => rw [semL, if_neg Bool.false_ne_true, ih, List.any_cons]
theorem DicOf.getR {kvs : List (Key × V)} {M : Str → Option V} (h : DicOf kvs M) {H : Hp} {a : Addr} {o : Obj} (e : H a = some (.frz o (.dK kvs))) (z : Str) : DGet H a (.str z) (M z) :=
  .inl ⟨kvs, .inr z, .inr ⟨o, e⟩, rfl, (h.1 z).symm⟩
theorem frz_not {o : Obj} {kvs : List (Key × V)} (zs : List V) : HO.frz o (.dK kvs) ≠ .tup zs ∧ ∀ f, HO.frz o (.dK kvs) ≠ .frz f (.tup zs) := ⟨fun h => HO.noConfusion h, fun f h => by injection h with h1 h2; exact HO.noConfusion h2⟩
theorem mergeK_dic {M : Str → Option V} : ∀ (l acc : List (Key × V)) (N : Str → Option V), DicOf acc N → (∀ p ∈ l, ∃ z, p.1 = .inr z ∧ M z = some p.2) → DicOf (mergeK acc l) fun z => if hasK l z = true then M z else N z
  | [], acc, N, h, _ => h.congr fun z => by rw [if_neg]; exact Bool.false_ne_true
  | p :: t, acc, N, h, hp => by
    obtain ⟨z, e1, e2⟩ := hp p List.mem_cons_self
    have h2 := mergeK_dic t (putK acc p.1 p.2) (fun y => if y = z then some p.2 else N y) (by rw [e1]; exact h.put z p.2) fun q hq => hp q (List.mem_cons_of_mem _ hq)
    refine h2.congr fun y => ?_
    have hk : hasK (p :: t) y = (decide (y = z) || hasK t y) := by
      show (decide (p.1 = Sum.inr y) || t.any fun p => decide (p.1 = Sum.inr y)) = _
      congr 1
      rw [e1]
      by_cases c : y = z
      · rw [decide_eq_true c, decide_eq_true (by rw [c])]
      · rw [decide_eq_false c, decide_eq_false fun e => c (Sum.inr.inj e).symm]
    rw [hk]
    by_cases c1 : hasK t y = true
    · rw [if_pos c1, c1, Bool.or_true, if_pos rfl]
    · rw [if_neg c1]
      by_cases c : y = z
      · rw [if_pos c, decide_eq_true c, Bool.true_or, if_pos rfl, c, e2]
      · rw [if_neg c, decide_eq_false c, Bool.false_or, if_neg c1]
/-- a dict made anew of its own pairs -/
theorem DicOf.again {kvs : List (Key × V)} {M : Str → Option V} (h : DicOf kvs M) : DicOf (mergeK [] kvs) M := (mergeK_dic (M := M) kvs [] (fun _ => none) DicOf.nil h.2).congr fun z => by
  by_cases c : hasK kvs z = true
  · rw [if_pos c]
  · rw [if_neg c]
    cases e : M z with
    | none => rfl
    | some v =>
      obtain ⟨i, hi⟩ := h.at e
      exact absurd (List.any_eq_true.mpr ⟨_, List.mem_of_getElem? hi, decide_eq_true rfl⟩) c
section
variable {K : PySem.W.Frag} {σ : L2.St} {H : Hp} {Q : VK} {te : TE} {tt : TT} {vs : List Nat} {j : Nat} {σx : V → L2.St} {d : Addr} {od : Obj} {kvs : List (Key × V)} {M : Str → Option V}
/-- [(k, d[k]) for k in d] -/
theorem lc_keysPr (hd0 : H d = some (.frz od (.dK kvs))) (hM : DicOf kvs M) (hz : kvs.length ≤ 20000) (hσ : ∀ x, (wipe σ vs).set j (some x) = σx x) (hw : ∀ x, wipe (σx x) vs = wipe σ vs)
    (hs : ∀ z v, M z = some v → ∀ (H' : Hp) (N : VK), Evl.Ex H H' → H' d = some (.frz od (.dK kvs)) → (∀ p H3, Evl.Ex H' H3 → SqT K H3 p [.str z, v] → N (.ref p) H3) → te (σx (.str z)) H' N)
    (hd : ∀ D acc H', Evl.Ex H H' → H D = none → H' D = some (.lst acc) → PrZ K H' acc kvs → Q (.ref D) H') : LcR (gName j) tYes te vs σ Q (Itk d od kvs) H := fun D hn => by
  refine ⟨fun i m H' => i + m = kvs.length ∧ Evl.Ex H H' ∧ ∃ acc, H' D = some (.lst acc) ∧ acc.length ≤ i ∧ PrZ K H' acc (kvs.take i), ⟨kvs.length, by omega, Evl.Ex.new hn, [], upd_same, Nat.le_refl _, PrZ.nil⟩, fun i m H' hW => ?_⟩
  obtain ⟨em, e, acc, ed, hla, hp⟩ := hW
  by_cases hi : i < kvs.length
  · refine .inr ⟨⟨e _ _ hd0, hi⟩, fun H3 => Evl.Ex H H3 ∧ ∃ acc, H3 D = some (.lst acc) ∧ acc.length ≤ i + 1 ∧ PrZ K H3 acc (kvs.take (i + 1)), fun H3 h3 => ⟨m - 1, by omega, by omega, h3⟩, fun x H2 hy => ?_⟩
    obtain ⟨rfl, k0, v, hkv, rfl⟩ := hy
    obtain ⟨z, hz0, hMz⟩ := hM.2 _ (List.mem_of_getElem? hkv)
    have hz0 : k0 = .inr z := hz0
    have hMz : M z = some v := hMz
    subst hz0
    show gName j (.str z) (wipe σ vs) H2 _
    rw [show gName j (.str z) (wipe σ vs) H2 = fun N => N (σx (.str z)) H2 from funext fun N => by rw [← hσ (.str z)] <;> rfl]
    refine ⟨hw _, rd_yes (rd_true (hs z v hMz H2 _ e (e _ _ hd0) fun p H3 e3 sp => ?_))⟩
    have ed3 := e3 _ _ ed
    refine ⟨acc, ed3, Evl.sz_lt (by omega), Evl.Ex.mut (e.trans e3) hn, acc ++ [.ref p], upd_same, by rw [List.length_append]; show acc.length + 1 ≤ _; omega, ?_⟩
    rw [List.take_add_one, hkv, show (some ((Sum.inr z : Key), v)).toList = [((Sum.inr z : Key), v)] from rfl]
    have h5 : PrZ K H3 acc (kvs.take i) := hp.mono fun _ _ t => Evl.ex_t e3 t
    exact (h5.snoc (k := .inr z) sp).mono fun _ _ t => tup_upd ed3 lst_not t
  · have hin : i = kvs.length := by omega
    subst hin
    rw [List.take_length] at hp
    exact .inl ⟨⟨e _ _ hd0, Nat.le_refl _⟩, hd D acc H' e hn ed hp⟩
/-- [1 for x in a tuple if ..] -/
theorem lc_onesT {a : Addr} {xs : List V} (t : Nat → Bool) (hx : SqT K H a xs) (hz : xs.length ≤ 20000) (hσ : ∀ x, (wipe σ vs).set j (some x) = σx x) (hw : ∀ x, wipe (σx x) vs = wipe σ vs)
    (hs : ∀ i x, xs[i]? = some x → ∀ (H' : Hp) (QB : Bool → Hp → Prop), Evl.Ex H H' → (∀ H3, Evl.Ex H' H3 → QB (t i) H3) → tt (σx x) H' QB)
    (he : ∀ x (H' : Hp) (N : VK), N (.int 1) H' → te (σx x) H' N)
    (hd : ∀ D H' c, Evl.Ex H H' → H D = none → H' D = some (.lst (List.replicate c (V.int 1))) → c ≤ xs.length → (c = 0 ↔ ∀ i, i < xs.length → t i = false) → Q (.ref D) H') : LcR (gName j) tt te vs σ Q (Itt K a) H := fun D hn =>
  lc_tup (xs := xs) (fun i H' => i ≤ xs.length ∧ Evl.Ex H H' ∧ ∃ c, H' D = some (.lst (List.replicate c (V.int 1))) ∧ c ≤ i ∧ (c = 0 ↔ ∀ k, k < i → t k = false)) ⟨Nat.zero_le _, Evl.Ex.new hn, 0, upd_same, Nat.le_refl _, ⟨fun _ k hk => absurd hk (Nat.not_lt_zero _), fun _ => rfl⟩⟩ (fun i H' _ p => Evl.ex_t p.2.1 hx) (fun i x H' hi p => by
    rw [show gName j x (wipe σ vs) H' = fun N => N (σx x) H' from funext fun N => by rw [← hσ x] <;> rfl]
    obtain ⟨_, e, c, ed, hc, hz0⟩ := p
    have hlt := (List.getElem?_eq_some_iff.mp hi).1
    refine ⟨hw x, hs i x hi H' _ e fun H3 e3 => ?_⟩
    cases ht : t i with
    | true =>
      rw [if_pos rfl]
      refine he x H3 _ ⟨_, e3 _ _ ed, Evl.sz_lt (by rw [List.length_replicate]; omega), hlt, Evl.Ex.mut (e.trans e3) hn, c + 1, ?_, by omega, ⟨fun h => by omega, fun h => ?_⟩⟩
      · rw [upd_same, List.replicate_succ'] <;> rfl
      · have := h i (Nat.lt_succ_self _)
        rw [ht] at this
        cases this
    | false =>
      rw [if_neg Bool.false_ne_true]
      refine ⟨hlt, e.trans e3, c, e3 _ _ ed, by omega, hz0.trans ⟨fun h k hk => ?_, fun h k hk => h k (by omega)⟩⟩
      by_cases ck : k = i
      · rw [ck, ht]
      · exact h k (by omega)) fun H' p => by
    obtain ⟨_, e, c, ed, hc, hz0⟩ := p
    exact hd D H' c e hn ed hc hz0
end
theorem ones_dp {K : PySem.W.Frag} {H : Hp} : ∀ c, DpAll K H (List.replicate c (V.int 1)) (List.replicate c (PyData.int 1))
  | 0 => .nil
  | c + 1 => by
    rw [List.replicate_succ, List.replicate_succ]
    exact .cons (.int 1) (ones_dp c)
theorem ones_shaped (c : Nat) : SeqAt.shaped (.list (List.replicate c (PyData.int 1))) = true := by
  have key : ∀ c, PyData.canLayAll0 (List.replicate c (PyData.int 1)) = true ∧ PyData.depthAll (List.replicate c (PyData.int 1)) = 0 := by
    intro c
    induction c with
    | zero => exact ⟨rfl, rfl⟩
    | succ c ih =>
      rw [List.replicate_succ]
      refine ⟨?_, ?_⟩
      · show ((PyData.int 1).canLay0 && PyData.canLayAll0 (List.replicate c (PyData.int 1))) = true
        rw [ih.1] <;> rfl
      · show max 0 (PyData.depthAll (List.replicate c (PyData.int 1))) = 0
        rw [ih.2] <;> rfl
  unfold SeqAt.shaped
  rw [Bool.and_eq_true]
  refine ⟨(key c).1, decide_eq_true ?_⟩
  show PyData.depthAll (List.replicate c (PyData.int 1)) + 1 ≤ 64
  rw [(key c).2]
  decide
theorem ones_eqv (c : Nat) : PyData.eqv (.list (List.replicate c (PyData.int 1))) (.list []) = decide (c = 0) := by
  cases c with
  | zero => rfl
  | succ c => rw [List.replicate_succ] <;> rfl
theorem ones_all {fs : List Fm} {ρ : Str → Bool} {d : Fm} {c n : Nat} (hn : n = fs.length) (hc : c = 0 ↔ ∀ i, i < n → (!sem (fs.getD i d) ρ) = false) : decide (c = 0) = semL true fs ρ := by
  rw [semL_all, Bool.eq_iff_iff, decide_eq_true_iff, hc, List.all_eq_true, hn]
  refine ⟨fun h g hg => ?_, fun h i hi => ?_⟩
  · obtain ⟨i, hi, rfl⟩ := List.mem_iff_getElem.mp hg
    have := h i hi
    rw [List.getD_eq_getElem?_getD, List.getElem?_eq_getElem hi] at this
    simpa using this
  · rw [List.getD_eq_getElem?_getD, List.getElem?_eq_getElem hi]
    have := h _ (List.getElem_mem hi)
    simpa using this
theorem ones_any {fs : List Fm} {ρ : Str → Bool} {d : Fm} {c n : Nat} (hn : n = fs.length) (hc : c = 0 ↔ ∀ i, i < n → sem (fs.getD i d) ρ = false) : (!decide (c = 0)) = semL false fs ρ := by
  rw [semL_any, Bool.eq_iff_iff, Bool.not_eq_true', decide_eq_false_iff_not, hc, List.any_eq_true, hn]
  refine ⟨fun h => ?_, fun ⟨g, hg, h⟩ q => ?_⟩
  · refine Classical.byContradiction fun hx => h fun i hi => ?_
    rw [List.getD_eq_getElem?_getD, List.getElem?_eq_getElem hi]
    show sem fs[i] ρ = false
    cases e : sem fs[i] ρ with
    | true => exact absurd ⟨_, List.getElem_mem hi, e⟩ hx
    | false => rfl
  · obtain ⟨i, hi, rfl⟩ := List.mem_iff_getElem.mp hg
    have := q i hi
    rw [List.getD_eq_getElem?_getD, List.getElem?_eq_getElem hi] at this
    have this : sem fs[i] ρ = false := this
    rw [this] at h
    cases h
section
variable {P : Program} {w : World} {K : PySem.W.Frag} {mg : Str → Option Value} {base : Heap}
def spTruth (K : PySem.W.Frag) (m : Nat) : Sp := fun vs H Q _ => ∃ (v : V) (f : Fm) (D : Addr) (kvs : List (Key × V)) (ω : Str → Option Bool), vs = [v, .ref D] ∧ Dp K H v (dat f) ∧ dp f ≤ m ∧ nd f ≤ 1000 ∧
  H D = some (.dK kvs) ∧ kvs.length + qd f ≤ 1000 ∧ WdOf kvs ω ∧ (∀ z ∈ fvl f, ∃ b, ω z = some b) ∧ ∀ H', Evl.Ex H H' → Q (.bl (sem f fun z => (ω z).getD false)) H'
theorem ok_truth1 {f : Addr} {fd : FuncData} (F : Fun K "_law_truth" "_law_truth" s_law_truth f fd) (T : Bl mg) {m k : Nat}
    (G_law_truth : FnOk P w K mg base CX0 k f fd ["f", "world"] (spTruth K m)) (C_law_truth : Callee K mg "_law_truth" f fd ["f", "world"]) :
    FnOk P w K mg base CX0 (k + 1) f fd ["f", "world"] (spTruth K (m + 1)) := by
  refine F.ok sc_law_truth (fun vs H Q E h => ?_) (fun cdv A outer s H vs Q E hr h => ?_)
  · obtain ⟨v, f, D, kvs, ω, rfl, _⟩ := h
    rfl
  · obtain ⟨v, f, D, kvs, ω, rfl, hv, hm, hn, hD, hl, hω, hfv, q⟩ := h
    refine ⟨_, (pss_cons (ps_set (i := 2) sc_law_truth.nd rfl (Or.inl rfl) (pe_ix (ik_tup (K := K) rfl) (pv 0) pe_int (fun _ _ => rfl)))
 (pss_cons (ps_if (pt_cmpR op_eq (pv 2) pe_str (nomark _)) (pss_one (ps_ret (pe_dget (hu_of hr) (pv 1) (pe_ix (ik_tup (K := K) rfl) (pv 0) pe_int (fun _ _ => rfl)) (fun _ _ => rfl)))) pss_nil)
 (pss_cons (ps_if (pt_cmpR op_eq (pv 2) pe_str (nomark _)) (pss_one (ps_ret (pe_not (pe_call G_law_truth hr (by rfl) C_law_truth.m C_law_truth.k C_law_truth.b .nil pass0 (pa_cons (pe_ix (ik_tup (K := K) rfl) (pv 0) pe_int (fun _ _ => rfl)) (pa_cons (pv 1) pa_nil)))))) pss_nil)
 (pss_cons (ps_if (pt_cmpR op_eq (pv 2) pe_str (nomark _)) (pss_one (ps_ret (pe_cmpR op_eq (pe_call G_law_truth hr (by rfl) C_law_truth.m C_law_truth.k C_law_truth.b .nil pass0 (pa_cons (pe_ix (ik_tup (K := K) rfl) (pv 0) pe_int (fun _ _ => rfl)) (pa_cons (pv 1) pa_nil))) (pe_call G_law_truth hr (by rfl) C_law_truth.m C_law_truth.k C_law_truth.b .nil pass0 (pa_cons (pe_ix (ik_tup (K := K) rfl) (pv 0) pe_int (fun _ _ => rfl)) (pa_cons (pv 1) pa_nil))) (nomark _)))) pss_nil)
 (pss_cons (ps_if (pt_cmpR op_eq (pv 2) pe_str (nomark _)) (pss_one (ps_ret (pe_cmpR (ok_eqD (K := K) rfl hr.units) (pe_lc (own := [("own", 6)]) (g := gName 6) rfl sc_law_truth.nd (ik_tupI (K := K) rfl (pe_ix (ik_tup (K := K) rfl) (pv 0) pe_int (fun _ _ => rfl))) (blkOk_by (own := [("own", 6)]) (N := ["f", "world", "word", "both", "side", "near", "own", "name"]) (sc := defScope s_law_truth) (by decide +kernel)) (fun _ _ _ _ _ => (pg_name (i := 6) sc_law_truth.nd rfl (Or.inl rfl))) (fun _ _ _ _ _ => (pts_one (pt_not (pt_val (pe_call G_law_truth hr (by rfl) C_law_truth.m C_law_truth.k C_law_truth.b .nil pass0 (pa_cons (pv 6) (pa_cons (pv 1) pa_nil))))))) (fun _ _ _ _ _ => pe_int)) (pe_lst pa_nil) (nomark _)))) pss_nil)
 (pss_cons (ps_if (pt_cmpR op_eq (pv 2) pe_str (nomark _)) (pss_one (ps_ret (pe_cmpR (ok_neD (K := K) rfl hr.units) (pe_lc (own := [("own", 6)]) (g := gName 6) rfl sc_law_truth.nd (ik_tupI (K := K) rfl (pe_ix (ik_tup (K := K) rfl) (pv 0) pe_int (fun _ _ => rfl))) (blkOk_by (own := [("own", 6)]) (N := ["f", "world", "word", "both", "side", "near", "own", "name"]) (sc := defScope s_law_truth) (by decide +kernel)) (fun _ _ _ _ _ => (pg_name (i := 6) sc_law_truth.nd rfl (Or.inl rfl))) (fun _ _ _ _ _ => (pts_one (pt_val (pe_call G_law_truth hr (by rfl) C_law_truth.m C_law_truth.k C_law_truth.b .nil pass0 (pa_cons (pv 6) (pa_cons (pv 1) pa_nil)))))) (fun _ _ _ _ _ => pe_int)) (pe_lst pa_nil) (nomark _)))) pss_nil)
 (pss_cons (ps_set (i := 3) sc_law_truth.nd rfl (Or.inl rfl) (pe_lst pa_nil))
 (pss_cons (ps_for PassesOwn.never rfl (ik_tupI (K := K) rfl (pe_tup (pa_cons pe_bl (pa_cons pe_bl pa_nil)))) (pg_name (i := 4) sc_law_truth.nd rfl (Or.inl rfl)) (pss_cons (ps_set (i := 5) sc_law_truth.nd rfl (Or.inl rfl) (pe_callTy (c_dictP (K := K) rfl rfl) (by rfl) T.dict (by decide +kernel) (pa_cons (pe_lock (pe_lc (own := [("name", 7)]) (g := gName 7) rfl sc_law_truth.nd (pi_keys (pv 1)) (blkOk_by (own := [("name", 7)]) (N := ["f", "world", "word", "both", "side", "near", "own", "name"]) (sc := defScope s_law_truth) (by decide +kernel)) (fun _ _ _ _ _ => (pg_name (i := 7) sc_law_truth.nd rfl (Or.inl rfl))) (fun _ _ _ _ _ => pts_nil) (fun _ _ _ _ _ => (pe_tup (pa_cons (pv 7) (pa_cons (pe_dget (hu_of hr) (pv 1) (pv 7) (fun _ _ => rfl)) pa_nil)))))) pa_nil)))
 (pss_cons (ps_dput (hu_of hr) (pv 5) (pe_ix (ik_tup (K := K) rfl) (pv 0) pe_int (fun _ _ => rfl)) (pv 4) rfl)
 (pss_one (ps_expr (pe_bm PySem.F.plainAttrs_list PySem.F.slot_list_append PySem.F.type_list_append mt_append (pv 3) (pa_cons (pe_call G_law_truth hr (by rfl) C_law_truth.m C_law_truth.k C_law_truth.b .nil pass0 (pa_cons (pe_ix (ik_tup (K := K) rfl) (pv 0) pe_int (fun _ _ => rfl)) (pa_cons (pv 5) pa_nil))) pa_nil)))))))
 (pss_one (ps_ret (pe_ifExp (pt_cmpR op_eq (pv 2) pe_str (nomark _)) (pe_and (pe_ix (ik_list (K := K) rfl) (pv 3) pe_int (fun _ _ => rfl)) (pe_one (pe_ix (ik_list (K := K) rfl) (pv 3) pe_int (fun _ _ => rfl)))) (pe_or (pe_ix (ik_list (K := K) rfl) (pv 3) pe_int (fun _ _ => rfl)) (pe_one (pe_ix (ik_list (K := K) rfl) (pv 3) pe_int (fun _ _ => rfl))))))))))))))), ?_⟩
    obtain ⟨a, x, t, rfl, sa⟩ := dp_word hv
    refine rd_start (σ' := [some (.ref a), some (.ref D), none, none, none, none, none, none]) rfl ?_
    walk_at "rqs"
    refine rd_ixT (x := .str (wd f)) sa (atI_nat (j := 0) rfl) ?_
    cases f with
    | letter z =>
      obtain ⟨a2, e2, sa2⟩ := dp_letter hv
      cases e2
      walk_at "rds"
      refine rd_ite (fun _ => ?_) (fun c => absurd rfl c)
      walk_at "rds"
      refine rd_ixT (x := .str z) sa2 (atI_nat (j := 1) rfl) ?_
      obtain ⟨b, hb⟩ := hfv z (by rw [fvl]; exact List.mem_singleton.mpr rfl)
      have hg := hω.get hD z
      rw [hb] at hg
      refine ⟨D, .bl b, rfl, hg, ?_⟩
      have := q H (Evl.Ex.refl _)
      rw [sem, hb] at this
      exact this
    | no g =>
      obtain ⟨a2, x2, e2, sa2, hx2⟩ := dp_no hv
      cases e2
      rw [dp] at hm
      rw [nd] at hn
      rw [qd] at hl
      walk_at "rds"
      refine rd_ite (fun c => absurd c (by simp only [wd]; decide)) (fun _ => ?_)
      walk_at "rds"
      refine rd_ite (fun _ => ?_) (fun c => absurd rfl c)
      walk_at "rds"
      refine rd_ixT (x := x2) sa2 (atI_nat (j := 1) rfl) ?_
      walk_at "rds"
      refine ⟨x2, g, D, kvs, ω, rfl, hx2, by omega, by omega, hD, hl, hω, fun z hz => hfv z (by rw [fvl]; exact hz), fun H3 e3 => ?_⟩
      walk_at "rds"
      have := q H3 e3
      rw [sem] at this
      exact this
    | same g g2 =>
      obtain ⟨a2, x2, y2, e2, sa2, hx2, hy2⟩ := dp_same hv
      cases e2
      rw [dp] at hm
      rw [nd] at hn
      rw [qd] at hl
      walk_at "rds"
      refine rd_ite (fun c => absurd c (by simp only [wd]; decide)) (fun _ => ?_)
      walk_at "rds"
      refine rd_ite (fun c => absurd c (by simp only [wd]; decide)) (fun _ => ?_)
      walk_at "rds"
      refine rd_ite (fun _ => ?_) (fun c => absurd rfl c)
      walk_at "rds"
      refine rd_ixT (x := x2) sa2 (atI_nat (j := 1) rfl) ?_
      walk_at "rds"
      refine ⟨x2, g, D, kvs, ω, rfl, hx2, by omega, by omega, hD, by omega, hω, fun z hz => hfv z (by rw [fvl]; exact List.mem_append_left _ hz), fun H3 e3 => ?_⟩
      walk_at "rds"
      refine rd_ixT (x := y2) (Evl.ex_t e3 sa2) (atI_nat (j := 2) rfl) ?_
      walk_at "rds"
      refine ⟨y2, g2, D, kvs, ω, rfl, dpF_ex e3 hy2, by omega, by omega, e3 _ _ hD, by omega, hω, fun z hz => hfv z (by rw [fvl]; exact List.mem_append_right _ hz), fun H4 e4 => ?_⟩
      walk_at "rds"
      have := q H4 (e3.trans e4)
      rw [sem] at this
      cases h1 : sem g (fun z => (ω z).getD false) <;> cases h2 : sem g2 (fun z => (ω z).getD false) <;> rw [h1, h2] at this <;> exact this
    | conn b fs =>
      obtain ⟨a2, cc, xs, e2, sa2, sc, hx⟩ := dp_conn hv
      cases e2
      have sa := sa2
      have lx : xs.length = fs.length := by rw [dps_len hx, dats_map, List.length_map]
      have lk := nds_len fs
      have hn0 := hn
      rw [nd] at hn
      cases b with
      | true =>
        walk_at "rds"
        refine rd_ite (fun c => absurd c (by simp only [wd, cw]; decide)) (fun _ => ?_)
        walk_at "rds"
        refine rd_ite (fun c => absurd c (by simp only [wd, cw]; decide)) (fun _ => ?_)
        walk_at "rds"
        refine rd_ite (fun c => absurd c (by simp only [wd, cw]; decide)) (fun _ => ?_)
        walk_at "rds"
        refine rd_ite (fun _ => ?_) (fun c => absurd rfl c)
        walk_at "rds"
        refine rd_ixT (x := .ref cc) sa (atI_nat (j := 1) rfl) ?_
        refine rd_ref sc ?_
        refine lc_onesT (K := K) (xs := xs) (fun i => !sem (fs.getD i (.conn true fs)) fun z => (ω z).getD false) (σx := fun y => [some (.ref a), some (.ref D), some (.str (wd (Fm.conn true fs))), none, none, none, some y, none]) sc (by omega) (fun _ => rfl) (fun _ => rfl) (fun i y hi H3 QB e3 kQ => ?_) (fun y H3 N kN => ?_) fun L H3 c e3 hnL hL hcl hc => ?_
        · obtain ⟨g, hg, hdg⟩ := dps_get hx hi
          have hgm := List.mem_of_getElem? hg
          have hgi : fs.getD i (.conn true fs) = g := by rw [List.getD_eq_getElem?_getD, hg] <;> rfl
          walk_at "rds"
          refine ⟨y, g, D, kvs, ω, rfl, dpF_ex e3 hdg, kids_dp hm hgm, by have := kids_nd (f := .conn true fs) hgm; exact Nat.le_trans this hn0, e3 _ _ hD, by have := kids_qd (f := .conn true fs) hgm; omega, hω, fun z hz => hfv z (by rw [fvl, fvls_map]; exact List.mem_flatMap.mpr ⟨g, hgm, hz⟩), fun H4 e4 => ?_⟩
          walk_at "rds"
          have := kQ H4 e4
          rw [hgi] at this
          exact this
        · walk_at "rds"
          exact kN
        walk_at "rds"
        refine ⟨Nat.zero_le _, fun p hp => ?_⟩
        have e4 := Evl.Ex.new (o := .lst []) hp
        refine ⟨.list (List.replicate c (.int 1)), .list [], .lst (SqL.of (e4 _ _ hL)) (ones_dp c), .lst (SqL.of upd_same) .nil, ones_shaped c, by decide, ?_⟩
        have := q _ (e3.trans e4)
        rw [sem, ← ones_all lx hc] at this
        rw [ones_eqv]
        exact this

      | false =>
        walk_at "rds"
        refine rd_ite (fun c => absurd c (by simp only [wd, cw]; decide)) (fun _ => ?_)
        walk_at "rds"
        refine rd_ite (fun c => absurd c (by simp only [wd, cw]; decide)) (fun _ => ?_)
        walk_at "rds"
        refine rd_ite (fun c => absurd c (by simp only [wd, cw]; decide)) (fun _ => ?_)
        walk_at "rds"
        refine rd_ite (fun c => absurd c (by simp only [wd, cw]; decide)) (fun _ => ?_)
        walk_at "rds"
        refine rd_ite (fun _ => ?_) (fun c => absurd rfl c)
        walk_at "rds"
        refine rd_ixT (x := .ref cc) sa (atI_nat (j := 1) rfl) ?_
        refine rd_ref sc ?_
        refine lc_onesT (K := K) (xs := xs) (fun i => sem (fs.getD i (.conn false fs)) fun z => (ω z).getD false) (σx := fun y => [some (.ref a), some (.ref D), some (.str (wd (Fm.conn false fs))), none, none, none, some y, none]) sc (by omega) (fun _ => rfl) (fun _ => rfl) (fun i y hi H3 QB e3 kQ => ?_) (fun y H3 N kN => ?_) fun L H3 c e3 hnL hL hcl hc => ?_
        · obtain ⟨g, hg, hdg⟩ := dps_get hx hi
          have hgm := List.mem_of_getElem? hg
          have hgi : fs.getD i (.conn false fs) = g := by rw [List.getD_eq_getElem?_getD, hg] <;> rfl
          walk_at "rds"
          refine ⟨y, g, D, kvs, ω, rfl, dpF_ex e3 hdg, kids_dp hm hgm, by have := kids_nd (f := .conn false fs) hgm; exact Nat.le_trans this hn0, e3 _ _ hD, by have := kids_qd (f := .conn false fs) hgm; omega, hω, fun z hz => hfv z (by rw [fvl, fvls_map]; exact List.mem_flatMap.mpr ⟨g, hgm, hz⟩), fun H4 e4 => ?_⟩
          walk_at "rds"
          have := kQ H4 e4
          rw [hgi] at this
          exact this
        · walk_at "rds"
          exact kN
        walk_at "rds"
        refine ⟨Nat.zero_le _, fun p hp => ?_⟩
        have e4 := Evl.Ex.new (o := .lst []) hp
        refine ⟨.list (List.replicate c (.int 1)), .list [], .lst (SqL.of (e4 _ _ hL)) (ones_dp c), .lst (SqL.of upd_same) .nil, ones_shaped c, by decide, ?_⟩
        have := q _ (e3.trans e4)
        rw [sem, ← ones_any lx hc] at this
        rw [ones_eqv]
        exact this
    | quan b z g =>
      obtain ⟨a2, x2, e2, sa2, hx2⟩ := dp_quan hv
      cases e2
      rw [dp] at hm
      rw [nd] at hn
      rw [qd] at hl
      walk_at "rds"
      refine rd_ite (fun c => absurd c (by cases b <;> (simp only [wd, qw]; decide))) (fun _ => ?_)
      walk_at "rds"
      refine rd_ite (fun c => absurd c (by cases b <;> (simp only [wd, qw]; decide))) (fun _ => ?_)
      walk_at "rds"
      refine rd_ite (fun c => absurd c (by cases b <;> (simp only [wd, qw]; decide))) (fun _ => ?_)
      walk_at "rds"
      refine rd_ite (fun c => absurd c (by cases b <;> (simp only [wd, qw]; decide))) (fun _ => ?_)
      walk_at "rds"
      refine rd_ite (fun c => absurd c (by cases b <;> (simp only [wd, qw]; decide))) (fun _ => ?_)
      walk_at "rds"
      refine ⟨Nat.zero_le _, fun B hB => ?_⟩
      have eB := Evl.Ex.new (o := .lst []) hB
      have hBs : (upd H B (.lst [])) B = some (.lst []) := upd_same
      generalize (upd H B (.lst [])) = H1 at eB hBs ⊢
      walk_at "rds"
      refine ⟨(by show 2 ≤ sizeLine; decide), fun T hT => ?_⟩
      have eT := Evl.Ex.new (o := .tup [.bl true, .bl false]) hT
      have sT : SqT K (upd H1 T (.tup [.bl true, .bl false])) T [.bl true, .bl false] := SqT.of upd_same
      have hBs := eT _ _ hBs
      have eT := eB.trans eT
      generalize (upd H1 T (.tup [.bl true, .bl false])) = H2 at eT sT hBs ⊢
      refine ⟨T, rfl, ⟨_, sT⟩, ?_⟩
      let ω' : Bool → Str → Option Bool := fun s y => if y = z then some s else ω y
      let ans : Bool → Bool := fun s => sem g (setW (fun z => (ω z).getD false) z s)
      refine fr_tup (K := K) (xs := [.bl true, .bl false]) (fun i σ' H' => Evl.Ex H H' ∧ SqT K H' T [.bl true, .bl false] ∧ H' B = some (.lst (([true, false].take i).map fun s => V.bl (ans s))) ∧ ∃ o1 o2, σ' = [some (.ref a), some (.ref D), some (.str (wd (.quan b z g))), some (.ref B), o1, o2, none, none]) ⟨eT, sT, hBs, none, none, rfl⟩ (fun _ _ _ _ h => h.2.1) (fun i x σ' H3 hx hP => ?_) fun σ' H3 hP => ?_
      · obtain ⟨e3, sT3, hB3, o1, o2, rfl⟩ := hP
        obtain ⟨s, rfl, hs⟩ : ∃ s : Bool, x = .bl s ∧ [true, false][i]? = some s := by
          match i, hx with
          | 0, hx => exact ⟨true, (Option.some.inj hx).symm, rfl⟩
          | 1, hx => exact ⟨false, (Option.some.inj hx).symm, rfl⟩
        refine rd_start (σ' := [some (.ref a), some (.ref D), some (.str (wd (.quan b z g))), some (.ref B), some (.bl s), o2, none, none]) rfl ?_
        walk_at "rds"
        have hD3 := e3 _ _ hD
        refine rd_lockE ⟨D, .dK kvs, hD3, True.intro, fun od => ?_⟩
        walk_at "rds"
        refine ⟨D, od, rfl, .inl ⟨kvs, upd_same, ?_⟩⟩
        refine lc_keysPr (K := K) upd_same hω (by omega) (σx := fun y => [some (.ref a), some (.ref D), some (.str (wd (.quan b z g))), some (.ref B), some (.bl s), o2, none, some y]) (fun _ => rfl) (fun _ => rfl) (fun y v hv H4 N e4 hD4 kN => ?_) fun D2 acc H4 e4 hn2 hD2 hpr => ?_
        · have hg := hω.getR hD4 y
          rw [hv] at hg
          walk_at "rds"
          refine ⟨D, v, rfl, hg, ?_⟩
          walk_at "rds"
          refine ⟨(by show 2 ≤ sizeLine; decide), fun p hp => ?_⟩
          exact kN p _ (Evl.Ex.new (o := .tup [.str y, v]) hp) (SqT.of upd_same)
        have hD4 := e4 _ _ upd_same
        have nD : D2 ≠ D := fun e => by
          rw [e, hD4] at hD2
          cases hD2
        have hD2 : (upd H4 D (.dK kvs)) D2 = some (.lst acc) := by rw [upd_ne nD]; exact hD2
        have e5 := unlock_ex hD3 e4
        have hpr : PrZ K (upd H4 D (.dK kvs)) acc kvs := hpr.mono fun _ _ t => tup_upd hD4 frz_not t
        refine ⟨hD4, ?_⟩
        generalize (upd H4 D (.dK kvs)) = H5 at e5 hD2 hpr ⊢
        obtain ⟨ps, rfl, hps⟩ := hpr
        walk_at "rds"
        refine ⟨D2, ps, kvs, rfl, SqL.of hD2, hps, fun p hp => ?_⟩
        have e6 := Evl.Ex.new (o := .dK (mergeK [] kvs)) hp
        have hlk := length_mergeK kvs []
        rw [List.length_nil] at hlk
        have hlk2 := length_putK (mergeK [] kvs) (.inr z) (V.bl s)
        refine rd_name (σ' := [some (.ref a), some (.ref D), some (.str (wd (.quan b z g))), some (.ref B), some (.bl s), some (.ref p), none, none]) rfl ?_
        walk_at "rds"
        refine rd_ixT (x := .str z) (Evl.ex_t (e3.trans (e5.trans e6)) sa2) (atI_nat (j := 1) rfl) ?_
        refine ⟨p, _, rfl, DPut.k (k := .inr z) upd_same (by rw [sizeLine_eq]; omega), ?_⟩
        have e7 := Evl.Ex.mut (o := .dK (putK (mergeK [] kvs) (.inr z) (.bl s))) e6 hp
        have hp7 : (upd (upd H5 p (.dK (mergeK [] kvs))) p (.dK (putK (mergeK [] kvs) (.inr z) (.bl s)))) p = some (.dK (putK (mergeK [] kvs) (.inr z) (.bl s))) := upd_same
        generalize (upd (upd H5 p (.dK (mergeK [] kvs))) p (.dK (putK (mergeK [] kvs) (.inr z) (.bl s)))) = H7 at e7 hp7 ⊢
        have e8 := e5.trans e7
        have hp7 : H7 p = some (.dK (putK (mergeK [] kvs) (.inr z) (.bl s))) := hp7
        have hB7 := e8 _ _ hB3
        walk_at "rds"
        refine rd_tyL hB7 ?_
        walk_at "rds"
        have e9 := e3.trans e8
        refine rd_ixT (x := x2) (Evl.ex_t e9 sa2) (atI_nat (j := 2) rfl) ?_
        walk_at "rds"
        have hω' : WdOf (putK (mergeK [] kvs) (.inr z) (.bl s)) (ω' s) := (hω.again.put z (.bl s)).congr fun y => by
          show (if y = z then some (V.bl s) else (ω y).map V.bl) = (if y = z then some s else ω y).map V.bl
          split <;> rfl
        refine ⟨x2, g, p, _, ω' s, rfl, dpF_ex e9 hx2, by omega, by omega, hp7, by omega, hω', fun y hy => ?_, fun H10 e10 => ?_⟩
        · show ∃ b, (if y = z then some s else ω y) = some b
          by_cases c : y = z
          · exact ⟨s, if_pos c⟩
          · rw [if_neg c]
            exact hfv y (by rw [fvl]; exact List.mem_filter.mpr ⟨hy, decide_eq_true c⟩)
        have hans : (sem g fun y => (ω' s y).getD false) = ans s := by
          show _ = sem g _
          congr 1
          funext y
          show (if y = z then some s else ω y).getD false = if y = z then s else (ω y).getD false
          split <;> rfl
        rw [hans]
        have hB10 := e10 _ _ hB7
        walk_at "rds"
        refine rd_append hB10 (by rw [List.length_map, List.length_take]; show min i 2 < _; omega) ?_
        walk_at "rds"
        refine ⟨Evl.Ex.mut (e9.trans e10) hB, tup_upd hB10 lst_not (Evl.ex_t (e8.trans e10) sT3), ?_, _, _, rfl⟩
        rw [upd_same, List.take_add_one, hs, List.map_append] <;> rfl
      · obtain ⟨e3, sT3, hB3, o1, o2, rfl⟩ := hP
        walk_at "rds"
        have hfin := q H3 e3
        rw [sem] at hfin
        cases b with
        | true =>
          refine rd_ite (fun _ => ?_) (fun c => absurd rfl c)
          refine rd_andV (rd_op (rd_var rfl (rd_c (rd_ixL (x := .bl (ans true)) (SqL.of hB3) (atI_nat (j := 0) rfl) ?_))))
          refine ⟨ans true, rfl, ?_⟩
          rw [if_pos rfl] at hfin
          cases h1 : ans true with
          | true =>
            rw [if_pos rfl]
            refine rd_op (rd_var rfl (rd_c (rd_ixL (x := .bl (ans false)) (SqL.of hB3) (atI_nat (j := 1) rfl) ?_)))
            rw [show sem g (setW (fun z => (ω z).getD false) z true) = true from h1, Bool.true_and] at hfin
            exact hfin
          | false =>
            rw [if_neg Bool.false_ne_true]
            rw [show sem g (setW (fun z => (ω z).getD false) z true) = false from h1, Bool.false_and] at hfin
            exact hfin
        | false =>
          refine rd_ite (fun c => absurd c (by simp only [wd, qw]; decide)) (fun _ => ?_)
          refine rd_orV (rd_op (rd_var rfl (rd_c (rd_ixL (x := .bl (ans true)) (SqL.of hB3) (atI_nat (j := 0) rfl) ?_))))
          refine ⟨ans true, rfl, ?_⟩
          rw [if_neg Bool.false_ne_true] at hfin
          cases h1 : ans true with
          | true =>
            rw [if_pos rfl]
            rw [show sem g (setW (fun z => (ω z).getD false) z true) = true from h1, Bool.true_or] at hfin
            exact hfin
          | false =>
            rw [if_neg Bool.false_ne_true]
            refine rd_op (rd_var rfl (rd_c (rd_ixL (x := .bl (ans false)) (SqL.of hB3) (atI_nat (j := 1) rfl) ?_)))
            rw [show sem g (setW (fun z => (ω z).getD false) z true) = false from h1, Bool.false_or] at hfin
            exact hfin
end
end KA
set_option Elab.async false
set_option linter.all false
set_option maxRecDepth 100000
set_option maxHeartbeats 400000
set_option pp.maxSteps 300
namespace KA
open PySem PySem.Spec PyProof.Rows L2 Ea
abbrev s_law_free : Stmt := topS 22
theorem sc_law_free : FnScope ["f", "bound", "inner", "found", "own"] ["f", "bound"] (defScope s_law_free) :=
  ⟨rfl, rfl, rfl, by decide +kernel, rfl, by decide +kernel, by decide +kernel⟩
abbrev s_law_worlds : Stmt := topS 23
theorem sc_law_worlds : FnScope ["names", "found", "name", "longer", "world", "side", "near", "own"] ["names"] (defScope s_law_worlds) :=
  ⟨rfl, rfl, rfl, by decide +kernel, rfl, by decide +kernel, by decide +kernel⟩
local macro_rules | `(tactic| walk_at "rd") => `(tactic| first
  | (with_reducible refine rd_iItems ?_) | (with_reducible refine rd_sc2 ?_) | (with_reducible refine rd_lc2 ?_) | (with_reducible refine rd_iZipN ?_) | (with_reducible refine rd_iZipL ?_) | (with_reducible refine rd_revL ?_) | (with_reducible refine rd_lstZ ?_) | (with_reducible refine rd_iRev ?_)
  | (with_reducible refine rd_seq ?_) | (with_reducible refine rd_asg ?_) | (with_reducible refine rd_if ?_) | (with_reducible refine rd_ret ?_) | (with_reducible refine rd_next ?_)
  | (with_reducible refine rd_drop ?_) | ((with_reducible refine rd_name (σ' := ?ss) ?hs ?_); (case hs => (dsimp only [List.set]; exact rfl)))
  | ((with_reducible refine rd_var (v := ?vv) ?hv ?_); (case hv => exact rfl)) | (with_reducible refine rd_c ?_) | (with_reducible refine rd_op ?_) | (with_reducible refine rd_un ?_)
  | (with_reducible refine rd_I0 ?_) | (with_reducible refine rd_U ?_) | (with_reducible refine rd_test ?_) | (with_reducible refine rd_B ?_) | (with_reducible refine rd_k ?_)
  | (with_reducible refine rd_not ?_) | (with_reducible refine rd_and ?_) | (with_reducible refine rd_or ?_) | (with_reducible refine rd_ifE ?_)
  | (with_reducible refine rd_par ?_) | ((with_reducible refine rd_par2 (σ' := ?ss) ?hs ?_); (case hs => (dsimp only [List.set]; exact rfl)))
  | (with_reducible refine rd_gsub ?_) | (with_reducible refine rd_andV ?_) | (with_reducible refine rd_orV ?_) | (with_reducible refine rd_notV ?_)
  | (with_reducible refine rd_lc ?_) | (with_reducible refine rd_iTup ?_) | (with_reducible refine rd_iList ?_) | (with_reducible refine rd_iRng1 ?_) | (with_reducible refine rd_iRng2 ?_) | (with_reducible refine rd_iEnumT ?_) | (with_reducible refine rd_iEnum ?_) | (with_reducible refine rd_iZipM ?_) | (with_reducible refine rd_iEnumS ?_) | (with_reducible refine rd_iKeys ?_) | (with_reducible refine rd_din ?_) | (with_reducible refine rd_dnotin ?_)
  | (with_reducible refine rd_yes ?_) | (with_reducible refine rd_true ?_) | (with_reducible refine rd_false ?_) | (with_reducible refine rd_m1 ?_) | (with_reducible refine rd_isS ?_)
  | ((with_reducible refine rd_eq ?hs ?_); (case hs => exact rfl)) | ((with_reducible refine rd_ne ?hs ?_); (case hs => exact rfl))
  | (with_reducible refine rd_listRg ?_) | (with_reducible refine rd_rg2 ?_) | (with_reducible refine rd_rgk ?_)
  | (with_reducible refine rd_dnew ?_) | (with_reducible refine rd_ddel ?_) | (with_reducible refine rd_kw ?_) | (with_reducible refine rd_callS ?_) | (with_reducible refine rd_dc ?_) | (with_reducible refine rd_for ?_) | (with_reducible refine rd_tru ?_) | (with_reducible refine rd_truI ?_)
  | (with_reducible refine rd_nil ?_) | (with_reducible refine rd_cons ?_) | (with_reducible refine rd_call ?_) | (with_reducible refine rd_cb ?_)
  | (with_reducible refine rd_tup ?_) | (with_reducible refine rd_lst ?_) | (with_reducible refine rd_dget ?_) | (with_reducible refine rd_dput ?_) | (with_reducible refine rd_dget2 ?_) | (with_reducible refine rd_sl ?_)
  | (with_reducible refine rd_nopart ?_) | (with_reducible refine rd_part ?_) | (with_reducible refine rd_parti ?_) | (with_reducible refine rd_bm ?_) | (with_reducible refine rd_bm0 ?_)
  | (with_reducible refine rd_int ?_) | (with_reducible refine rd_intb ?_) | (with_reducible refine rd_abs ?_) | (with_reducible refine rd_min2 ?_) | (with_reducible refine rd_max2 ?_))
local macro_rules | `(tactic| walk_at "rds") => `(tactic| repeat (walk_at "rd"))
local macro_rules | `(tactic| walk_at "rq") => `(tactic| first
  | (with_reducible refine rd_iItems ?_) | (with_reducible refine rd_sc2 ?_) | (with_reducible refine rd_lc2 ?_) | (with_reducible refine rd_iZipN ?_) | (with_reducible refine rd_iZipL ?_) | (with_reducible refine rd_revL ?_) | (with_reducible refine rd_lstZ ?_) | (with_reducible refine rd_iRev ?_)
  | (with_reducible refine rd_seq ?_) | (with_reducible refine rd_asg ?_) | (with_reducible refine rd_ret ?_) | (with_reducible refine rd_next ?_)
  | (with_reducible refine rd_drop ?_) | ((with_reducible refine rd_name (σ' := ?ss) ?hs ?_); (case hs => (dsimp only [List.set]; exact rfl)))
  | ((with_reducible refine rd_var (v := ?vv) ?hv ?_); (case hv => exact rfl)) | (with_reducible refine rd_c ?_) | (with_reducible refine rd_op ?_) | (with_reducible refine rd_un ?_)
  | (with_reducible refine rd_I0 ?_) | (with_reducible refine rd_U ?_) | (with_reducible refine rd_test ?_) | (with_reducible refine rd_B ?_) | (with_reducible refine rd_k ?_)
  | (with_reducible refine rd_not ?_) | (with_reducible refine rd_and ?_) | (with_reducible refine rd_or ?_) | (with_reducible refine rd_ifE ?_)
  | (with_reducible refine rd_par ?_) | ((with_reducible refine rd_par2 (σ' := ?ss) ?hs ?_); (case hs => (dsimp only [List.set]; exact rfl)))
  | (with_reducible refine rd_gsub ?_) | (with_reducible refine rd_andV ?_) | (with_reducible refine rd_orV ?_) | (with_reducible refine rd_notV ?_)
  | (with_reducible refine rd_lc ?_) | (with_reducible refine rd_iTup ?_) | (with_reducible refine rd_iList ?_) | (with_reducible refine rd_iRng1 ?_) | (with_reducible refine rd_iRng2 ?_) | (with_reducible refine rd_iEnumT ?_) | (with_reducible refine rd_iEnum ?_) | (with_reducible refine rd_iZipM ?_) | (with_reducible refine rd_iEnumS ?_) | (with_reducible refine rd_iKeys ?_) | (with_reducible refine rd_din ?_) | (with_reducible refine rd_dnotin ?_)
  | (with_reducible refine rd_yes ?_) | (with_reducible refine rd_true ?_) | (with_reducible refine rd_false ?_) | (with_reducible refine rd_m1 ?_) | (with_reducible refine rd_isS ?_)
  | ((with_reducible refine rd_eq ?hs ?_); (case hs => exact rfl)) | ((with_reducible refine rd_ne ?hs ?_); (case hs => exact rfl))
  | (with_reducible refine rd_listRg ?_) | (with_reducible refine rd_rg2 ?_) | (with_reducible refine rd_rgk ?_)
  | (with_reducible refine rd_dnew ?_) | (with_reducible refine rd_ddel ?_) | (with_reducible refine rd_kw ?_) | (with_reducible refine rd_callS ?_) | (with_reducible refine rd_dc ?_) | (with_reducible refine rd_for ?_) | (with_reducible refine rd_tru ?_) | (with_reducible refine rd_truI ?_)
  | (with_reducible refine rd_nil ?_) | (with_reducible refine rd_cons ?_) | (with_reducible refine rd_call ?_) | (with_reducible refine rd_cb ?_)
  | (with_reducible refine rd_tup ?_) | (with_reducible refine rd_lst ?_) | (with_reducible refine rd_dget ?_) | (with_reducible refine rd_dput ?_) | (with_reducible refine rd_dget2 ?_) | (with_reducible refine rd_sl ?_)
  | (with_reducible refine rd_nopart ?_) | (with_reducible refine rd_part ?_) | (with_reducible refine rd_parti ?_) | (with_reducible refine rd_bm ?_) | (with_reducible refine rd_bm0 ?_)
  | (with_reducible refine rd_int ?_) | (with_reducible refine rd_intb ?_) | (with_reducible refine rd_abs ?_) | (with_reducible refine rd_min2 ?_) | (with_reducible refine rd_max2 ?_))
local macro_rules | `(tactic| walk_at "rqs") => `(tactic| repeat (walk_at "rq"))
local macro_rules | `(tactic| walk_at "rv") => `(tactic| first
  | (with_reducible refine rd_iItems ?_) | (with_reducible refine rd_sc2 ?_) | (with_reducible refine rd_lc2 ?_) | (with_reducible refine rd_iZipN ?_) | (with_reducible refine rd_iZipL ?_) | (with_reducible refine rd_revL ?_) | (with_reducible refine rd_lstZ ?_) | (with_reducible refine rd_iRev ?_)
  | (with_reducible refine rd_seq ?_) | (with_reducible refine rd_asg ?_) | (with_reducible refine rd_ret ?_) | (with_reducible refine rd_next ?_)
  | (with_reducible refine rd_drop ?_) | ((with_reducible refine rd_name (σ' := ?ss) ?hs ?_); (case hs => (dsimp only [List.set]; exact rfl)))
  | ((with_reducible refine rd_var (v := ?vv) ?hv ?_); (case hv => exact rfl)) | (with_reducible refine rd_c ?_) | (with_reducible refine rd_op ?_) | (with_reducible refine rd_un ?_)
  | (with_reducible refine rd_I0 ?_) | (with_reducible refine rd_U ?_) | (with_reducible refine rd_test ?_) | (with_reducible refine rd_B ?_) | (with_reducible refine rd_k ?_)
  | (with_reducible refine rd_not ?_) | (with_reducible refine rd_and ?_) | (with_reducible refine rd_or ?_)
  | (with_reducible refine rd_par ?_) | ((with_reducible refine rd_par2 (σ' := ?ss) ?hs ?_); (case hs => (dsimp only [List.set]; exact rfl)))
  | (with_reducible refine rd_gsub ?_) | (with_reducible refine rd_andV ?_) | (with_reducible refine rd_orV ?_) | (with_reducible refine rd_notV ?_)
  | (with_reducible refine rd_lc ?_) | (with_reducible refine rd_iTup ?_) | (with_reducible refine rd_iList ?_) | (with_reducible refine rd_iRng1 ?_) | (with_reducible refine rd_iRng2 ?_) | (with_reducible refine rd_iEnumT ?_) | (with_reducible refine rd_iEnum ?_) | (with_reducible refine rd_iZipM ?_) | (with_reducible refine rd_iEnumS ?_) | (with_reducible refine rd_iKeys ?_) | (with_reducible refine rd_din ?_) | (with_reducible refine rd_dnotin ?_)
  | (with_reducible refine rd_yes ?_) | (with_reducible refine rd_true ?_) | (with_reducible refine rd_false ?_) | (with_reducible refine rd_m1 ?_) | (with_reducible refine rd_isS ?_)
  | ((with_reducible refine rd_eq ?hs ?_); (case hs => exact rfl)) | ((with_reducible refine rd_ne ?hs ?_); (case hs => exact rfl))
  | (with_reducible refine rd_listRg ?_) | (with_reducible refine rd_rg2 ?_) | (with_reducible refine rd_rgk ?_)
  | (with_reducible refine rd_dnew ?_) | (with_reducible refine rd_ddel ?_) | (with_reducible refine rd_kw ?_) | (with_reducible refine rd_callS ?_) | (with_reducible refine rd_dc ?_) | (with_reducible refine rd_for ?_) | (with_reducible refine rd_tru ?_) | (with_reducible refine rd_truI ?_)
  | (with_reducible refine rd_nil ?_) | (with_reducible refine rd_cons ?_) | (with_reducible refine rd_call ?_) | (with_reducible refine rd_cb ?_)
  | (with_reducible refine rd_tup ?_) | (with_reducible refine rd_lst ?_) | (with_reducible refine rd_dget ?_) | (with_reducible refine rd_dput ?_) | (with_reducible refine rd_dget2 ?_) | (with_reducible refine rd_sl ?_)
  | (with_reducible refine rd_nopart ?_) | (with_reducible refine rd_part ?_) | (with_reducible refine rd_parti ?_) | (with_reducible refine rd_bm ?_) | (with_reducible refine rd_bm0 ?_)
  | (with_reducible refine rd_int ?_) | (with_reducible refine rd_intb ?_) | (with_reducible refine rd_abs ?_) | (with_reducible refine rd_min2 ?_) | (with_reducible refine rd_max2 ?_))
local macro_rules | `(tactic| walk_at "rvs") => `(tactic| repeat (walk_at "rv"))

def nin (bs : List Str) (y : Str) : Bool := !decide (y ∈ bs)
def inB : Fm → List Str → List Str
  | .quan _ z _, bs => bs ++ [z]
  | _, bs => bs
def isL : Fm → Bool
  | .letter _ => true
  | _ => false
theorem free_kids {f : Fm} (h : isL f = false) (bs : List Str) : (fvl f).filter (nin bs) = (kids f).flatMap fun g => (fvl g).filter (nin (inB f bs)) := by
  cases f with
  | letter z => cases h
  | no g => rw [fvl, kids, List.flatMap_singleton] <;> rfl
  | same g g2 => rw [fvl, List.filter_append, kids, List.flatMap_cons, List.flatMap_singleton] <;> rfl
  | conn b fs =>
    rw [fvl, fvls_map, kids]
    show (fs.flatMap fvl).filter _ = fs.flatMap fun g => (fvl g).filter (nin bs)
    clear h
    induction fs with
    | nil => rfl
    | cons g t ih => rw [List.flatMap_cons, List.flatMap_cons, List.filter_append, ih]
  | quan b z g =>
    rw [fvl, kids, List.flatMap_singleton, List.filter_filter]
    show _ = (fvl g).filter (nin (bs ++ [z]))
    congr 1
    funext y
    unfold nin
    by_cases c1 : y ∈ bs <;> by_cases c2 : y = z <;> simp [c1, c2]
theorem inV_str (z : Str) : ∀ zs : List Str, inV (.str z) (zs.map V.str) = decide (z ∈ zs)
  | [] => rfl
  | n :: r => by
    show ((n == z) || inV (.str z) (r.map V.str)) = _
    rw [inV_str z r, Bool.eq_iff_iff, Bool.or_eq_true, beq_iff_eq, decide_eq_true_iff, decide_eq_true_iff, List.mem_cons]
    exact ⟨fun h => h.imp Eq.symm id, fun h => h.imp Eq.symm id⟩
theorem rd_inSL {K : PySem.W.Frag} {H : Hp} {Q : VK} {p : Addr} {z : Str} {zs : List Str} (s : H p = some (.lst (zs.map V.str))) (h : Q (.bl (decide (z ∈ zs))) H) : rIn K false (.str z) (.ref p) H Q :=
  ⟨p, zs.map V.str, rfl, .inl (SqL.of s), rfl, by rw [List.all_map]; exact List.all_eq_true.mpr fun _ _ => rfl, by rw [inV_str]; exact h⟩
section
variable {P : Program} {w : World} {K : PySem.W.Frag} {mg : Str → Option Value} {base : Heap}
def spLf (K : PySem.W.Frag) (m : Nat) : Sp := fun vs H Q _ => ∃ (v : V) (f : Fm) (B : Addr) (bs : List Str), vs = [v, .ref B] ∧ Dp K H v (dat f) ∧ dp f ≤ m ∧ nd f ≤ 500 ∧
  H B = some (.lst (bs.map V.str)) ∧ bs.length + qd f ≤ 500 ∧ ∀ (D : Addr) (H' : Hp), Evl.Ex H H' → H D = none → H' D = some (.lst (((fvl f).filter (nin bs)).map V.str)) → Q (.ref D) H'
theorem ok_lfree1 {f fP : Addr} {fd fdP : FuncData} (F : Fun K "_law_free" "_law_free" s_law_free f fd) (T : Bl mg) {m k : Nat} (hk : 1 ≤ k)
    (G_law_parts_of : FnOk P w K mg base CX0 1 fP fdP ["f"] (spPartsOf K)) (C_law_parts_of : Callee K mg "_law_parts_of" fP fdP ["f"])
    (G_law_free : FnOk P w K mg base CX0 k f fd ["f", "bound"] (spLf K m)) (C_law_free : Callee K mg "_law_free" f fd ["f", "bound"]) :
    FnOk P w K mg base CX0 (k + 1) f fd ["f", "bound"] (spLf K (m + 1)) := by
  refine F.ok sc_law_free (fun vs H Q E h => ?_) (fun cdv A outer s H vs Q E hr h => ?_)
  · obtain ⟨v, f, B, bs, rfl, _⟩ := h
    rfl
  · obtain ⟨v, f, B, bs, rfl, hv, hm, hn, hB, hl, q⟩ := h
    refine ⟨_, (pss_cons (ps_if (pt_cmpR op_eq (pe_ix (ik_tup (K := K) rfl) (pv 0) pe_int (fun _ _ => rfl)) pe_str (nomark _)) (pss_one (ps_ret (pe_ifExp (pt_cmpR (ok_in (K := K) rfl) (pe_ix (ik_tup (K := K) rfl) (pv 0) pe_int (fun _ _ => rfl)) (pv 1) (by rfl)) (pe_lst pa_nil) (pe_lst (pa_cons (pe_ix (ik_tup (K := K) rfl) (pv 0) pe_int (fun _ _ => rfl)) pa_nil))))) pss_nil)
 (pss_cons (ps_set (i := 2) sc_law_free.nd rfl (Or.inl rfl) (pe_ifExp (pt_cmpR (ok_in (K := K) rfl) (pe_ix (ik_tup (K := K) rfl) (pv 0) pe_int (fun _ _ => rfl)) (pe_tup (pa_cons pe_str (pa_cons pe_str pa_nil))) (by rfl)) (pe_op op_cat (pv 1) (pe_lst (pa_cons (pe_ix (ik_tup (K := K) rfl) (pv 0) pe_int (fun _ _ => rfl)) pa_nil))) (pv 1)))
 (pss_cons (ps_set (i := 3) sc_law_free.nd rfl (Or.inl rfl) (pe_lst pa_nil))
 (pss_cons (ps_for PassesOwn.never rfl (ik_tupI (K := K) rfl (pe_call G_law_parts_of (hr.mono hk) (by rfl) C_law_parts_of.m C_law_parts_of.k C_law_parts_of.b .nil pass0 (pa_cons (pv 0) pa_nil))) (pg_name (i := 4) sc_law_free.nd rfl (Or.inl rfl)) (pss_one (ps_set (i := 3) sc_law_free.nd rfl (Or.inl rfl) (pe_op op_cat (pv 3) (pe_call G_law_free hr (by rfl) C_law_free.m C_law_free.k C_law_free.b .nil pass0 (pa_cons (pv 4) (pa_cons (pv 2) pa_nil)))))))
 (pss_one (ps_ret (pv 3))))))), ?_⟩
    obtain ⟨a, x, t, rfl, sa⟩ := dp_word hv
    refine rd_start (σ' := [some (.ref a), some (.ref B), none, none, none]) rfl ?_
    walk_at "rds"
    refine rd_ixT (x := .str (wd f)) sa (atI_nat (j := 0) rfl) ?_
    walk_at "rds"
    by_cases hL : isL f = true
    · obtain ⟨z, rfl⟩ : ∃ z, f = .letter z := by
        cases f with
        | letter z => exact ⟨z, rfl⟩
        | quan b z g => cases hL
        | no g => cases hL
        | conn b fs => cases hL
        | same g g2 => cases hL
      obtain ⟨a2, e2, sa2⟩ := dp_letter hv
      cases e2
      refine rd_ite (fun _ => ?_) (fun c => absurd rfl c)
      walk_at "rds"
      refine rd_ixT (x := .str z) sa2 (atI_nat (j := 1) rfl) ?_
      walk_at "rds"
      refine rd_inSL hB ?_
      refine ⟨_, rfl, ?_⟩
      rw [fvl, List.filter_cons, List.filter_nil] at q
      unfold nin at q
      cases hd : decide (z ∈ bs) with
      | true =>
        rw [hd] at q
        rw [if_pos rfl]
        walk_at "rds"
        refine ⟨Nat.zero_le _, fun p hp => ?_⟩
        exact q p _ (Evl.Ex.new hp) hp upd_same
      | false =>
        rw [hd] at q
        rw [if_neg Bool.false_ne_true]
        walk_at "rds"
        refine rd_ixT (x := .str z) sa2 (atI_nat (j := 1) rfl) ?_
        walk_at "rds"
        refine ⟨(by show 1 ≤ sizeLine; decide), fun p hp => ?_⟩
        exact q p _ (Evl.Ex.new hp) hp upd_same
    · have hL : isL f = false := by
        cases e : isL f with
        | true => exact absurd e hL
        | false => rfl
      refine rd_ite (fun c => absurd c (by
        cases f with
        | letter z => cases hL
        | quan b z g => cases b <;> (simp only [wd, qw]; decide)
        | no g => simp only [wd]; decide
        | conn b fs => cases b <;> (simp only [wd, cw]; decide)
        | same g g2 => simp only [wd]; decide)) (fun _ => ?_)
      walk_at "rvs"
      refine rd_ifV (fun v H1 => ∃ B', v = .ref B' ∧ Evl.Ex H H1 ∧ H1 B' = some (.lst ((inB f bs).map V.str))) (fun N kN => ?_) fun v H1 hv1 => ?_
      · walk_at "rds"
        refine rd_ixT (x := .str (wd f)) sa (atI_nat (j := 0) rfl) ?_
        walk_at "rds"
        refine ⟨(by show 2 ≤ sizeLine; decide), fun p hp => ?_⟩
        have e1 := Evl.Ex.new (o := .tup [V.str "each", .str "some"]) hp
        refine rd_inS (zs := ["each", "some"]) (SqT.of upd_same) ?_
        have hw := wd_quan f
        show ∃ k, V.bl (inV (.str (wd f)) [V.str "each", .str "some"]) = V.bl k ∧ _
        rw [hw]
        refine ⟨isQ f, rfl, ?_⟩
        cases hq : isQ f with
        | true =>
          rw [if_pos rfl]
          obtain ⟨b, z, g, rfl⟩ : ∃ b z g, f = .quan b z g := by
            cases f with
            | quan b z g => exact ⟨b, z, g, rfl⟩
            | letter z => cases hq
            | no g => cases hq
            | conn b fs => cases hq
            | same g g2 => cases hq
          obtain ⟨a2, x2, e2, sa2, hx2⟩ := dp_quan hv
          cases e2
          walk_at "rds"
          refine rd_ixT (x := .str z) (Evl.ex_t e1 sa2) (atI_nat (j := 1) rfl) ?_
          walk_at "rds"
          refine ⟨(by show 1 ≤ sizeLine; decide), fun p2 hp2 => ?_⟩
          have e2 := Evl.Ex.new (o := .lst [V.str z]) hp2
          refine rd_catL ((e1.trans e2) _ _ hB) upd_same (by rw [List.length_map, sizeLine_eq]; show bs.length + 1 ≤ _; omega) fun p3 hp3 => ?_
          have e3 := Evl.Ex.new (o := .lst (bs.map V.str ++ [V.str z])) hp3
          refine kN _ _ ⟨p3, rfl, e1.trans (e2.trans e3), ?_⟩
          show upd _ p3 _ p3 = some (.lst ((bs ++ [z]).map V.str))
          rw [upd_same, List.map_append] <;> rfl
        | false =>
          rw [if_neg Bool.false_ne_true]
          walk_at "rds"
          refine kN _ _ ⟨B, rfl, e1, ?_⟩
          have : inB f bs = bs := by
            cases f with
            | quan b z g => cases hq
            | letter z => rfl
            | no g => rfl
            | conn b fs => rfl
            | same g g2 => rfl
          rw [this]
          exact e1 _ _ hB
      obtain ⟨B', rfl, e1, hB1⟩ := hv1
      walk_at "rds"
      refine ⟨Nat.zero_le _, fun D0 hD0 => ?_⟩
      have e2 := Evl.Ex.new (o := .lst []) hD0
      have hDn := Evl.fresh_back e1 hD0
      have hD2 : (upd H1 D0 (.lst [])) D0 = some (.lst []) := upd_same
      generalize (upd H1 D0 (.lst [])) = H2 at e2 hD2 ⊢
      walk_at "rds"
      have e12 := e1.trans e2
      refine ⟨.ref a, f, rfl, dpF_ex e12 hv, fun c xs H3 e3 sc hx => ?_⟩
      refine ⟨c, rfl, ⟨_, sc⟩, ?_⟩
      have lx : xs.length = (kids f).length := by rw [dps_len hx, dats_map, List.length_map]
      have hfl := fvl_len f
      refine fr_tup (K := K) (xs := xs) (fun i σ' H' => ∃ (D : Addr) (o : Option V), σ' = [some (.ref a), some (.ref B), some (.ref B'), some (.ref D), o] ∧ Evl.Ex H3 H' ∧ H D = none ∧ H' D = some (.lst ((((kids f).take i).flatMap fun g => (fvl g).filter (nin (inB f bs))).map V.str))) ⟨D0, none, rfl, Evl.Ex.refl _, hDn, e3 _ _ hD2⟩ (fun i σ' H' _ h => by
        obtain ⟨_, _, _, e, _⟩ := h
        exact Evl.ex_t e sc) (fun i y σ' H4 hy hP => ?_) fun σ' H4 hP => ?_
      · obtain ⟨D, o, rfl, e4, hDn, hD4⟩ := hP
        obtain ⟨g, hg, hdg⟩ := dps_get hx hy
        have hgm := List.mem_of_getElem? hg
        refine rd_start (σ' := [some (.ref a), some (.ref B), some (.ref B'), some (.ref D), some y]) rfl ?_
        walk_at "rds"
        refine ⟨y, g, B', inB f bs, rfl, dpF_ex e4 hdg, by have := kids_dp hm hgm; omega, by have := kids_nd hgm; omega, (e2.trans (e3.trans e4)) _ _ hB1, ?_, fun D2 H5 e5 hn5 hD5 => ?_⟩
        · cases f with
          | letter z => cases hL
          | no g2 => have := kids_qd hgm; show bs.length + _ ≤ _; omega
          | conn b fs => have := kids_qd hgm; show bs.length + _ ≤ _; omega
          | same g2 g3 => have := kids_qd hgm; show bs.length + _ ≤ _; omega
          | quan b z g2 =>
            rw [List.mem_singleton.mp hgm]
            rw [qd] at hl
            show (bs ++ [z]).length + _ ≤ _
            rw [List.length_append]
            show bs.length + 1 + _ ≤ _
            omega
        walk_at "rds"
        have hfk := free_kids hL bs
        have hlen : ((kids f).take (i + 1) |>.flatMap fun g => (fvl g).filter (nin (inB f bs))).length ≤ 500 := by
          have h1 := List.length_filter_le (nin bs) (fvl f)
          rw [hfk] at h1
          have h2 : ((kids f).take (i + 1) |>.flatMap fun g => (fvl g).filter (nin (inB f bs))).Sublist ((kids f).flatMap fun g => (fvl g).filter (nin (inB f bs))) := by
            conv => rhs; rw [← List.take_append_drop (i + 1) (kids f), List.flatMap_append]
            exact List.sublist_append_left _ _
          have h3 := h2.length_le
          omega
        rw [List.take_add_one, hg, List.flatMap_append] at hlen
        rw [show (some g).toList = [g] from rfl, List.flatMap_singleton, List.length_append] at hlen
        refine rd_catL (e5 _ _ hD4) hD5 (by rw [List.length_map, List.length_map, sizeLine_eq]; omega) fun p hp => ?_
        have e6 := Evl.Ex.new (o := .lst ((((kids f).take i).flatMap fun g => (fvl g).filter (nin (inB f bs))).map V.str ++ ((fvl g).filter (nin (inB f bs))).map V.str)) hp
        walk_at "rds"
        refine ⟨p, some y, rfl, e4.trans (e5.trans e6), Evl.fresh_back (e12.trans (e3.trans (e4.trans e5))) hp, ?_⟩
        rw [upd_same, List.take_add_one, hg, List.flatMap_append, show (some g).toList = [g] from rfl, List.flatMap_singleton, List.map_append]
      · obtain ⟨D, o, rfl, e4, hDn, hD4⟩ := hP
        walk_at "rds"
        rw [lx, List.take_length, ← free_kids hL bs] at hD4
        exact q D _ (e12.trans (e3.trans e4)) hDn hD4
def WL (H : Hp) (ws : List V) (zs : List Str) (rows : List (List Bool)) : Prop := ws.length = rows.length ∧ ∀ (i : Nat) (row : List Bool), rows[i]? = some row → ∃ (D : Addr) (kvs : List (Key × V)), ws[i]? = some (V.ref D) ∧ H D = some (.dK kvs) ∧ kvs.length ≤ zs.length ∧ WdOf kvs fun y => if y ∈ zs then some (envF zs row y) else none
theorem WL.ex {H H' : Hp} {ws : List V} {zs : List Str} {rows : List (List Bool)} (e : Evl.Ex H H') (h : WL H ws zs rows) : WL H' ws zs rows := ⟨h.1, fun i row hi => by
  obtain ⟨D, kvs, h1, h2, h3⟩ := h.2 i row hi
  exact ⟨D, kvs, h1, e _ _ h2, h3⟩⟩
theorem WL.updL {H : Hp} {ws : List V} {zs : List Str} {rows : List (List Bool)} {L : Addr} {ys u : List V} (e : H L = some (.lst ys)) (h : WL H ws zs rows) : WL (upd H L (.lst u)) ws zs rows := ⟨h.1, fun i row hi => by
  obtain ⟨D, kvs, h1, h2, h3⟩ := h.2 i row hi
  exact ⟨D, kvs, h1, by rw [upd_ne (fun c => by rw [c, e] at h2; cases h2)]; exact h2, h3⟩⟩
theorem WL.snoc {H : Hp} {ws : List V} {zs : List Str} {rows : List (List Bool)} {row : List Bool} {D : Addr} {kvs : List (Key × V)} (h : WL H ws zs rows) (hD : H D = some (.dK kvs)) (hl : kvs.length ≤ zs.length) (hw : WdOf kvs fun y => if y ∈ zs then some (envF zs row y) else none) : WL H (ws ++ [.ref D]) zs (rows ++ [row]) := ⟨by rw [List.length_append, List.length_append, h.1] <;> rfl, fun i r hi => by
  by_cases c : i < rows.length
  · rw [List.getElem?_append_left c] at hi
    obtain ⟨D2, kvs2, h1, h2⟩ := h.2 i r hi
    exact ⟨D2, kvs2, by rw [List.getElem?_append_left (by rw [h.1]; exact c)]; exact h1, h2⟩
  · have hlt := (List.getElem?_eq_some_iff.mp hi).1
    rw [List.length_append] at hlt
    have e : i = rows.length := by
      have : i < rows.length + 1 := hlt
      omega
    rw [e, List.getElem?_append_right (Nat.le_refl _), Nat.sub_self] at hi
    obtain rfl : row = r := Option.some.inj hi
    exact ⟨D, kvs, by rw [e, ← h.1, List.getElem?_append_right (Nat.le_refl _), Nat.sub_self] <;> rfl, hD, hl, hw⟩⟩
def two (rows : List (List Bool)) : List (List Bool) := rows.flatMap fun r => [r ++ [true], r ++ [false]]
theorem two_len (rows : List (List Bool)) : (two rows).length = 2 * rows.length := by
  unfold two
  induction rows with
  | nil => rfl
  | cons r t ih =>
    rw [List.flatMap_cons, List.length_append, ih]
    show 2 + 2 * t.length = 2 * (t.length + 1)
    omega
theorem wd_snoc {kvs : List (Key × V)} {zs : List Str} {row : List Bool} {x : Str} {s : Bool} (h : WdOf kvs fun y => if y ∈ zs then some (envF zs row y) else none) (hl : zs.length = row.length) (hx : x ∉ zs) : WdOf (putK (mergeK [] kvs) (.inr x) (.bl s)) fun y => if y ∈ zs ++ [x] then some (envF (zs ++ [x]) (row ++ [s]) y) else none := (h.again.put x (.bl s)).congr fun y => by
  show (if y = x then some (V.bl s) else (if y ∈ zs then some (envF zs row y) else none).map V.bl) = (if y ∈ zs ++ [x] then some (envF (zs ++ [x]) (row ++ [s]) y) else none).map V.bl
  rw [envF_snoc hl hx]
  by_cases c : y = x
  · rw [if_pos c, if_pos (by rw [c]; exact List.mem_append_right _ (List.mem_singleton.mpr rfl)), if_pos c] <;> rfl
  · rw [if_neg c, if_neg c]
    by_cases c2 : y ∈ zs
    · rw [if_pos c2, if_pos (List.mem_append_left _ c2)]
    · rw [if_neg c2, if_neg fun h => (List.mem_append.mp h).elim c2 fun h => c (List.mem_singleton.mp h)]
def spWs (K : PySem.W.Frag) : Sp := fun vs H Q _ => ∃ (N : Addr) (zs : List Str), vs = [.ref N] ∧ SqL K H N (zs.map V.str) ∧ zs.length ≤ 9 ∧ zs.Nodup ∧
  ∀ (W : Addr) (ws : List V) (H' : Hp), Evl.Ex H H' → H W = none → H' W = some (.lst ws) → WL H' ws zs (rl zs.length) → Q (.ref W) H'
theorem ok_lworlds {f : Addr} {fd : FuncData} (F : Fun K "_law_worlds" "_law_worlds" s_law_worlds f fd) (T : Bl mg) : FnOk P w K mg base CX0 1 f fd ["names"] (spWs K) := by
  refine F.ok sc_law_worlds (fun vs H Q E h => ?_) (fun cdv A outer s H vs Q E hr h => ?_)
  · obtain ⟨N, zs, rfl, _⟩ := h
    rfl
  · obtain ⟨N, zs, rfl, hN, hz, nd, q⟩ := h
    refine ⟨_, (pss_cons (ps_set (i := 1) sc_law_worlds.nd rfl (Or.inl rfl) (pe_lst (pa_cons pe_dnewK pa_nil)))
 (pss_cons (ps_for PassesOwn.never rfl (ik_listI (K := K) rfl (pv 0)) (pg_name (i := 2) sc_law_worlds.nd rfl (Or.inl rfl)) (pss_cons (ps_set (i := 3) sc_law_worlds.nd rfl (Or.inl rfl) (pe_lst pa_nil))
 (pss_cons (ps_for PassesOwn.never rfl (ik_listI (K := K) rfl (pv 1)) (pg_name (i := 4) sc_law_worlds.nd rfl (Or.inr rfl)) (pss_one (ps_for PassesOwn.never rfl (ik_tupI (K := K) rfl (pe_tup (pa_cons pe_bl (pa_cons pe_bl pa_nil)))) (pg_name (i := 5) sc_law_worlds.nd rfl (Or.inl rfl)) (pss_cons (ps_set (i := 6) sc_law_worlds.nd rfl (Or.inl rfl) (pe_callTy (c_dictP (K := K) rfl rfl) (by rfl) T.dict (by decide +kernel) (pa_cons (pe_lock (pe_lc (own := [("own", 7)]) (g := gName 7) rfl sc_law_worlds.nd (pi_keys (pv 4)) (blkOk_by (own := [("own", 7)]) (N := ["names", "found", "name", "longer", "world", "side", "near", "own"]) (sc := defScope s_law_worlds) (by decide +kernel)) (fun _ _ _ _ _ => (pg_name (i := 7) sc_law_worlds.nd rfl (Or.inl rfl))) (fun _ _ _ _ _ => pts_nil) (fun _ _ _ _ _ => (pe_tup (pa_cons (pv 7) (pa_cons (pe_dget (hu_of hr) (pv 4) (pv 7) (fun _ _ => rfl)) pa_nil)))))) pa_nil)))
 (pss_cons (ps_dput (hu_of hr) (pv 6) (pv 2) (pv 5) rfl)
 (pss_one (ps_expr (pe_bm PySem.F.plainAttrs_list PySem.F.slot_list_append PySem.F.type_list_append mt_append (pv 3) (pa_cons (pv 6) pa_nil)))))))))
 (pss_one (ps_set (i := 1) sc_law_worlds.nd rfl (Or.inl rfl) (pv 3))))))
 (pss_one (ps_ret (pv 1))))), ?_⟩
    refine rd_start (σ' := [some (.ref N), none, none, none, none, none, none, none]) rfl ?_
    walk_at "rvs"
    intro p0 hp0
    have e0 := Evl.Ex.new (o := .dK []) hp0
    have h0 : (upd H p0 (.dK [])) p0 = some (.dK []) := upd_same
    generalize (upd H p0 (.dK [])) = H1 at e0 h0 ⊢
    walk_at "rvs"
    refine ⟨(by show 1 ≤ sizeLine; decide), fun F0 hF0 => ?_⟩
    have e1 := Evl.Ex.new (o := .lst [V.ref p0]) hF0
    have hFn := Evl.fresh_back e0 hF0
    have hF : (upd H1 F0 (.lst [V.ref p0])) F0 = some (.lst [V.ref p0]) := upd_same
    have h0 := e1 _ _ h0
    generalize (upd H1 F0 (.lst [V.ref p0])) = H2 at e1 h0 hF ⊢
    have e2 := e0.trans e1
    walk_at "rvs"
    refine ⟨N, rfl, ⟨_, Evl.ex_l e2 hN⟩, ?_⟩
    have hW0 : WL H2 [.ref p0] [] [[]] := ⟨rfl, fun i row hi => by
      match i, hi with
      | 0, hi => exact ⟨p0, [], rfl, h0, Nat.le_refl _, DicOf.nil⟩⟩
    refine fr_list (K := K) (xs := zs.map V.str) (fun i σ' H' => ∃ (F : Addr) (ws : List V) (o2 o3 o4 o5 o6 : Option V), σ' = [some (.ref N), some (.ref F), o2, o3, o4, o5, o6, none] ∧ Evl.Ex H H' ∧ H F = none ∧ H' F = some (.lst ws) ∧ WL H' ws (zs.take i) (rl i)) ⟨F0, _, none, none, none, none, none, rfl, e2, hFn, hF, hW0⟩ (fun i σ' H' _ h => by
        obtain ⟨_, _, _, _, _, _, _, _, e, _⟩ := h
        exact Evl.ex_l e hN) (fun i y σ' H3 hy hP => ?_) fun σ' H3 hP => ?_
    · obtain ⟨F, ws, o2, o3, o4, o5, o6, rfl, e3, hFn, hF, hW⟩ := hP
      rw [List.getElem?_map] at hy
      obtain ⟨x, hx, rfl⟩ := Option.map_eq_some_iff.mp hy
      have hi := (List.getElem?_eq_some_iff.mp hx).1
      have htl : (zs.take i).length = i := by rw [List.length_take]; omega
      have hxn : x ∉ zs.take i := fun hm => by
        obtain ⟨k, hk, e⟩ := List.mem_iff_getElem.mp hm
        rw [htl] at hk
        rw [List.getElem_take] at e
        have e2 : zs[i] = x := by rw [List.getElem?_eq_getElem hi] at hx; exact Option.some.inj hx
        have := (List.getElem_inj nd).mp (e.trans e2.symm)
        omega
      have hp : 2 ^ i ≤ 2 ^ 9 := Nat.pow_le_pow_right (by decide) (by omega)
      refine rd_start (σ' := [some (.ref N), some (.ref F), some (.str x), o3, o4, o5, o6, none]) rfl ?_
      walk_at "rvs"
      refine ⟨Nat.zero_le _, fun L hL => ?_⟩
      have eL := Evl.Ex.new (o := .lst []) hL
      have hLs : (upd H3 L (.lst [])) L = some (.lst []) := upd_same
      generalize (upd H3 L (.lst [])) = H4 at eL hLs ⊢
      walk_at "rvs"
      refine ⟨F, rfl, ⟨_, SqL.of (eL _ _ hF)⟩, ?_⟩
      refine fr_list (K := K) (xs := ws) (fun j σ' H' => ∃ (acc : List V) (o4 o5 o6 : Option V), σ' = [some (.ref N), some (.ref F), some (.str x), some (.ref L), o4, o5, o6, none] ∧ Evl.Ex H3 H' ∧ H' L = some (.lst acc) ∧ WL H' acc (zs.take i ++ [x]) (two ((rl i).take j))) ⟨[], o4, o5, o6, rfl, eL, hLs, rfl, fun k r hk => by cases hk⟩ (fun i σ' H' _ h => by
        obtain ⟨_, _, _, _, _, e, _⟩ := h
        exact SqL.of (e _ _ hF)) (fun j y σ' H5 hy hP => ?_) fun σ' H5 hP => ?_
      · obtain ⟨acc, o4, o5, o6, rfl, e5, hL5, hW5⟩ := hP
        have hj : j < (rl i).length := by rw [← hW.1]; exact (List.getElem?_eq_some_iff.mp hy).1
        have hrow := List.getElem?_eq_getElem hj
        generalize (rl i)[j] = row at hrow
        obtain ⟨D, kvs, hy2, hD, hkl, hwd⟩ := hW.2 j row hrow
        rw [hy] at hy2
        obtain rfl : y = V.ref D := Option.some.inj hy2
        have hrl : (zs.take i).length = row.length := by rw [htl, rl_row (List.mem_of_getElem? hrow)]
        rw [htl] at hkl
        refine rd_start (σ' := [some (.ref N), some (.ref F), some (.str x), some (.ref L), some (.ref D), o5, o6, none]) rfl ?_
        walk_at "rvs"
        refine ⟨(by show 2 ≤ sizeLine; decide), fun T hT => ?_⟩
        have eT := Evl.Ex.new (o := .tup [.bl true, .bl false]) hT
        have sT : SqT K (upd H5 T (.tup [.bl true, .bl false])) T [.bl true, .bl false] := SqT.of upd_same
        have hL6 := eT _ _ hL5
        have hW6 := hW5.ex eT
        have e6 := e5.trans eT
        generalize (upd H5 T (.tup [.bl true, .bl false])) = H6 at e6 sT hL6 hW6 ⊢
        refine ⟨T, rfl, ⟨_, sT⟩, ?_⟩
        refine fr_tup (K := K) (xs := [.bl true, .bl false]) (fun k σ' H' => ∃ (acc : List V) (o5 o6 : Option V), σ' = [some (.ref N), some (.ref F), some (.str x), some (.ref L), some (.ref D), o5, o6, none] ∧ Evl.Ex H3 H' ∧ SqT K H' T [.bl true, .bl false] ∧ H' L = some (.lst acc) ∧ WL H' acc (zs.take i ++ [x]) (two ((rl i).take j) ++ ([true, false].take k).map fun s => row ++ [s])) ⟨acc, o5, o6, rfl, e6, sT, hL6, by rw [List.take_zero, List.map_nil, List.append_nil]; exact hW6⟩ (fun _ _ _ _ h => by
          obtain ⟨_, _, _, _, _, e, _⟩ := h
          exact e) (fun k y σ' H7 hy hP => ?_) fun σ' H7 hP => ?_
        · obtain ⟨acc, o5, o6, rfl, e7, sT7, hL7, hW7⟩ := hP
          obtain ⟨s, rfl, hs⟩ : ∃ s : Bool, y = .bl s ∧ [true, false][k]? = some s := by
            match k, hy with
            | 0, hx => exact ⟨true, (Option.some.inj hx).symm, rfl⟩
            | 1, hx => exact ⟨false, (Option.some.inj hx).symm, rfl⟩
          refine rd_start (σ' := [some (.ref N), some (.ref F), some (.str x), some (.ref L), some (.ref D), some (.bl s), o6, none]) rfl ?_
          walk_at "rvs"
          have hD7 := e7 _ _ hD
          refine rd_lockE ⟨D, .dK kvs, hD7, True.intro, fun od => ?_⟩
          walk_at "rvs"
          refine ⟨D, od, rfl, .inl ⟨kvs, upd_same, ?_⟩⟩
          refine lc_keysPr (K := K) upd_same hwd (by omega) (σx := fun y => [some (.ref N), some (.ref F), some (.str x), some (.ref L), some (.ref D), some (.bl s), o6, some y]) (fun _ => rfl) (fun _ => rfl) (fun y v hv H8 N8 e8 hD8 kN => ?_) fun D2 acc2 H8 e8 hn2 hD2 hpr => ?_
          · have hg := hwd.getR hD8 y
            rw [hv] at hg
            walk_at "rvs"
            refine ⟨D, v, rfl, hg, ?_⟩
            walk_at "rvs"
            refine ⟨(by show 2 ≤ sizeLine; decide), fun p hp => ?_⟩
            exact kN p _ (Evl.Ex.new (o := .tup [.str y, v]) hp) (SqT.of upd_same)
          have hD8 := e8 _ _ upd_same
          have nD : D2 ≠ D := fun e => by
            rw [e, hD8] at hD2
            cases hD2
          have hD2 : (upd H8 D (.dK kvs)) D2 = some (.lst acc2) := by rw [upd_ne nD]; exact hD2
          have e9 := unlock_ex hD7 e8
          have hpr : PrZ K (upd H8 D (.dK kvs)) acc2 kvs := hpr.mono fun _ _ t => tup_upd hD8 frz_not t
          refine ⟨hD8, ?_⟩
          generalize (upd H8 D (.dK kvs)) = H9 at e9 hD2 hpr ⊢
          obtain ⟨ps, rfl, hps⟩ := hpr
          walk_at "rvs"
          refine ⟨D2, ps, kvs, rfl, SqL.of hD2, hps, fun p hp => ?_⟩
          have ea := Evl.Ex.new (o := .dK (mergeK [] kvs)) hp
          have hlk := length_mergeK kvs []
          rw [List.length_nil] at hlk
          have hlk2 := length_putK (mergeK [] kvs) (.inr x) (V.bl s)
          refine rd_name (σ' := [some (.ref N), some (.ref F), some (.str x), some (.ref L), some (.ref D), some (.bl s), some (.ref p), none]) rfl ?_
          walk_at "rvs"
          refine ⟨p, _, rfl, DPut.k (k := .inr x) upd_same (by rw [sizeLine_eq]; omega), ?_⟩
          have eb := Evl.Ex.mut (o := .dK (putK (mergeK [] kvs) (.inr x) (.bl s))) ea hp
          have hpb : (upd (upd H9 p (.dK (mergeK [] kvs))) p (.dK (putK (mergeK [] kvs) (.inr x) (.bl s)))) p = some (.dK (putK (mergeK [] kvs) (.inr x) (.bl s))) := upd_same
          generalize (upd (upd H9 p (.dK (mergeK [] kvs))) p (.dK (putK (mergeK [] kvs) (.inr x) (.bl s)))) = Hb at eb hpb ⊢
          have ec := e9.trans eb
          have hLb := ec _ _ hL7
          walk_at "rvs"
          refine rd_tyL hLb ?_
          walk_at "rvs"
          have hal := hW7.1
          rw [List.length_append, two_len, List.length_take, List.length_map, List.length_take, rl_len] at hal
          have h22 : min k [true, false].length ≤ 2 := Nat.min_le_right _ _
          refine rd_append hLb (by omega) ?_
          walk_at "rvs"
          have hpn : ∀ {zs : List V}, p ≠ L := fun e => by rw [e, hLb] at hpb; cases hpb
          refine ⟨_, _, _, rfl, Evl.Ex.mut (e7.trans ec) hL, tup_upd hLb lst_not (Evl.ex_t ec sT7), upd_same, ?_⟩
          rw [List.take_add_one, hs, List.map_append, ← List.append_assoc]
          refine WL.updL hLb ?_
          refine (hW7.ex ec).snoc hpb ?_ (wd_snoc hwd hrl hxn)
          rw [List.length_append, htl]
          show _ ≤ i + 1
          omega
        · obtain ⟨acc, o5, o6, rfl, e7, sT7, hL7, hW7⟩ := hP
          refine ⟨acc, _, _, _, rfl, e7, hL7, ?_⟩
          rw [List.take_add_one, hrow]
          unfold two
          rw [List.flatMap_append]
          exact hW7
      · obtain ⟨acc, o4, o5, o6, rfl, e5, hL5, hW5⟩ := hP
        walk_at "rvs"
        rw [hW.1, List.take_length] at hW5
        refine ⟨L, acc, _, _, _, _, _, rfl, e3.trans e5, Evl.fresh_back e3 hL, hL5, ?_⟩
        rw [List.take_add_one, hx, rl_back]
        exact hW5
    · obtain ⟨F, ws, o2, o3, o4, o5, o6, rfl, e3, hFn, hF, hW⟩ := hP
      walk_at "rvs"
      rw [List.length_map, List.take_length] at hW
      exact q F ws _ e3 hFn hF hW
end
end KA
set_option Elab.async false
set_option linter.all false
set_option maxRecDepth 100000
set_option maxHeartbeats 400000
set_option pp.maxSteps 300
namespace KA
open PySem PySem.Spec PyProof.Rows L2 Ea
abbrev s_law_due_world : Stmt := topS 24
theorem sc_law_due_world : FnScope ["one", "other", "names", "world", "name"] ["one", "other"] (defScope s_law_due_world) :=
  ⟨rfl, rfl, rfl, by decide +kernel, rfl, by decide +kernel, by decide +kernel⟩
abbrev s_law_is_told : Stmt := topS 25
theorem sc_law_is_told : FnScope ["one", "other", "is_named", "known", "due", "told", "again", "own"] ["one", "other", "is_named"] (defScope s_law_is_told) :=
  ⟨rfl, rfl, rfl, by decide +kernel, rfl, by decide +kernel, by decide +kernel⟩
local macro_rules | `(tactic| walk_at "rd") => `(tactic| first
  | (with_reducible refine rd_iItems ?_) | (with_reducible refine rd_sc2 ?_) | (with_reducible refine rd_lc2 ?_) | (with_reducible refine rd_iZipN ?_) | (with_reducible refine rd_iZipL ?_) | (with_reducible refine rd_revL ?_) | (with_reducible refine rd_lstZ ?_) | (with_reducible refine rd_iRev ?_)
  | (with_reducible refine rd_seq ?_) | (with_reducible refine rd_asg ?_) | (with_reducible refine rd_if ?_) | (with_reducible refine rd_ret ?_) | (with_reducible refine rd_next ?_)
  | (with_reducible refine rd_drop ?_) | ((with_reducible refine rd_name (σ' := ?ss) ?hs ?_); (case hs => (dsimp only [List.set]; exact rfl)))
  | ((with_reducible refine rd_var (v := ?vv) ?hv ?_); (case hv => exact rfl)) | (with_reducible refine rd_c ?_) | (with_reducible refine rd_op ?_) | (with_reducible refine rd_un ?_)
  | (with_reducible refine rd_I0 ?_) | (with_reducible refine rd_U ?_) | (with_reducible refine rd_test ?_) | (with_reducible refine rd_B ?_) | (with_reducible refine rd_k ?_)
  | (with_reducible refine rd_not ?_) | (with_reducible refine rd_and ?_) | (with_reducible refine rd_or ?_) | (with_reducible refine rd_ifE ?_)
  | (with_reducible refine rd_par ?_) | ((with_reducible refine rd_par2 (σ' := ?ss) ?hs ?_); (case hs => (dsimp only [List.set]; exact rfl)))
  | (with_reducible refine rd_gsub ?_) | (with_reducible refine rd_andV ?_) | (with_reducible refine rd_orV ?_) | (with_reducible refine rd_notV ?_)
  | (with_reducible refine rd_lc ?_) | (with_reducible refine rd_iTup ?_) | (with_reducible refine rd_iList ?_) | (with_reducible refine rd_iRng1 ?_) | (with_reducible refine rd_iRng2 ?_) | (with_reducible refine rd_iEnumT ?_) | (with_reducible refine rd_iEnum ?_) | (with_reducible refine rd_iZipM ?_) | (with_reducible refine rd_iEnumS ?_) | (with_reducible refine rd_iKeys ?_) | (with_reducible refine rd_din ?_) | (with_reducible refine rd_dnotin ?_)
  | (with_reducible refine rd_yes ?_) | (with_reducible refine rd_true ?_) | (with_reducible refine rd_false ?_) | (with_reducible refine rd_m1 ?_) | (with_reducible refine rd_isS ?_)
  | ((with_reducible refine rd_eq ?hs ?_); (case hs => exact rfl)) | ((with_reducible refine rd_ne ?hs ?_); (case hs => exact rfl))
  | (with_reducible refine rd_listRg ?_) | (with_reducible refine rd_rg2 ?_) | (with_reducible refine rd_rgk ?_)
  | (with_reducible refine rd_dnew ?_) | (with_reducible refine rd_ddel ?_) | (with_reducible refine rd_kw ?_) | (with_reducible refine rd_callS ?_) | (with_reducible refine rd_dc ?_) | (with_reducible refine rd_for ?_) | (with_reducible refine rd_tru ?_) | (with_reducible refine rd_truI ?_)
  | (with_reducible refine rd_nil ?_) | (with_reducible refine rd_cons ?_) | (with_reducible refine rd_call ?_) | (with_reducible refine rd_cb ?_)
  | (with_reducible refine rd_tup ?_) | (with_reducible refine rd_lst ?_) | (with_reducible refine rd_dget ?_) | (with_reducible refine rd_dput ?_) | (with_reducible refine rd_dget2 ?_) | (with_reducible refine rd_sl ?_)
  | (with_reducible refine rd_nopart ?_) | (with_reducible refine rd_part ?_) | (with_reducible refine rd_parti ?_) | (with_reducible refine rd_bm ?_) | (with_reducible refine rd_bm0 ?_)
  | (with_reducible refine rd_int ?_) | (with_reducible refine rd_intb ?_) | (with_reducible refine rd_abs ?_) | (with_reducible refine rd_min2 ?_) | (with_reducible refine rd_max2 ?_))
local macro_rules | `(tactic| walk_at "rds") => `(tactic| repeat (walk_at "rd"))
local macro_rules | `(tactic| walk_at "rq") => `(tactic| first
  | (with_reducible refine rd_iItems ?_) | (with_reducible refine rd_sc2 ?_) | (with_reducible refine rd_lc2 ?_) | (with_reducible refine rd_iZipN ?_) | (with_reducible refine rd_iZipL ?_) | (with_reducible refine rd_revL ?_) | (with_reducible refine rd_lstZ ?_) | (with_reducible refine rd_iRev ?_)
  | (with_reducible refine rd_seq ?_) | (with_reducible refine rd_asg ?_) | (with_reducible refine rd_ret ?_) | (with_reducible refine rd_next ?_)
  | (with_reducible refine rd_drop ?_) | ((with_reducible refine rd_name (σ' := ?ss) ?hs ?_); (case hs => (dsimp only [List.set]; exact rfl)))
  | ((with_reducible refine rd_var (v := ?vv) ?hv ?_); (case hv => exact rfl)) | (with_reducible refine rd_c ?_) | (with_reducible refine rd_op ?_) | (with_reducible refine rd_un ?_)
  | (with_reducible refine rd_I0 ?_) | (with_reducible refine rd_U ?_) | (with_reducible refine rd_test ?_) | (with_reducible refine rd_B ?_) | (with_reducible refine rd_k ?_)
  | (with_reducible refine rd_not ?_) | (with_reducible refine rd_and ?_) | (with_reducible refine rd_or ?_) | (with_reducible refine rd_ifE ?_)
  | (with_reducible refine rd_par ?_) | ((with_reducible refine rd_par2 (σ' := ?ss) ?hs ?_); (case hs => (dsimp only [List.set]; exact rfl)))
  | (with_reducible refine rd_gsub ?_) | (with_reducible refine rd_andV ?_) | (with_reducible refine rd_orV ?_) | (with_reducible refine rd_notV ?_)
  | (with_reducible refine rd_lc ?_) | (with_reducible refine rd_iTup ?_) | (with_reducible refine rd_iList ?_) | (with_reducible refine rd_iRng1 ?_) | (with_reducible refine rd_iRng2 ?_) | (with_reducible refine rd_iEnumT ?_) | (with_reducible refine rd_iEnum ?_) | (with_reducible refine rd_iZipM ?_) | (with_reducible refine rd_iEnumS ?_) | (with_reducible refine rd_iKeys ?_) | (with_reducible refine rd_din ?_) | (with_reducible refine rd_dnotin ?_)
  | (with_reducible refine rd_yes ?_) | (with_reducible refine rd_true ?_) | (with_reducible refine rd_false ?_) | (with_reducible refine rd_m1 ?_) | (with_reducible refine rd_isS ?_)
  | ((with_reducible refine rd_eq ?hs ?_); (case hs => exact rfl)) | ((with_reducible refine rd_ne ?hs ?_); (case hs => exact rfl))
  | (with_reducible refine rd_listRg ?_) | (with_reducible refine rd_rg2 ?_) | (with_reducible refine rd_rgk ?_)
  | (with_reducible refine rd_dnew ?_) | (with_reducible refine rd_ddel ?_) | (with_reducible refine rd_kw ?_) | (with_reducible refine rd_callS ?_) | (with_reducible refine rd_dc ?_) | (with_reducible refine rd_for ?_) | (with_reducible refine rd_tru ?_) | (with_reducible refine rd_truI ?_)
  | (with_reducible refine rd_nil ?_) | (with_reducible refine rd_cons ?_) | (with_reducible refine rd_call ?_) | (with_reducible refine rd_cb ?_)
  | (with_reducible refine rd_tup ?_) | (with_reducible refine rd_lst ?_) | (with_reducible refine rd_dget ?_) | (with_reducible refine rd_dput ?_) | (with_reducible refine rd_dget2 ?_) | (with_reducible refine rd_sl ?_)
  | (with_reducible refine rd_nopart ?_) | (with_reducible refine rd_part ?_) | (with_reducible refine rd_parti ?_) | (with_reducible refine rd_bm ?_) | (with_reducible refine rd_bm0 ?_)
  | (with_reducible refine rd_int ?_) | (with_reducible refine rd_intb ?_) | (with_reducible refine rd_abs ?_) | (with_reducible refine rd_min2 ?_) | (with_reducible refine rd_max2 ?_))
local macro_rules | `(tactic| walk_at "rqs") => `(tactic| repeat (walk_at "rq"))
local macro_rules | `(tactic| walk_at "rv") => `(tactic| first
  | (with_reducible refine rd_iItems ?_) | (with_reducible refine rd_sc2 ?_) | (with_reducible refine rd_lc2 ?_) | (with_reducible refine rd_iZipN ?_) | (with_reducible refine rd_iZipL ?_) | (with_reducible refine rd_revL ?_) | (with_reducible refine rd_lstZ ?_) | (with_reducible refine rd_iRev ?_)
  | (with_reducible refine rd_seq ?_) | (with_reducible refine rd_asg ?_) | (with_reducible refine rd_ret ?_) | (with_reducible refine rd_next ?_)
  | (with_reducible refine rd_drop ?_) | ((with_reducible refine rd_name (σ' := ?ss) ?hs ?_); (case hs => (dsimp only [List.set]; exact rfl)))
  | ((with_reducible refine rd_var (v := ?vv) ?hv ?_); (case hv => exact rfl)) | (with_reducible refine rd_c ?_) | (with_reducible refine rd_op ?_) | (with_reducible refine rd_un ?_)
  | (with_reducible refine rd_I0 ?_) | (with_reducible refine rd_U ?_) | (with_reducible refine rd_test ?_) | (with_reducible refine rd_B ?_) | (with_reducible refine rd_k ?_)
  | (with_reducible refine rd_not ?_) | (with_reducible refine rd_and ?_) | (with_reducible refine rd_or ?_)
  | (with_reducible refine rd_par ?_) | ((with_reducible refine rd_par2 (σ' := ?ss) ?hs ?_); (case hs => (dsimp only [List.set]; exact rfl)))
  | (with_reducible refine rd_gsub ?_) | (with_reducible refine rd_andV ?_) | (with_reducible refine rd_orV ?_) | (with_reducible refine rd_notV ?_)
  | (with_reducible refine rd_lc ?_) | (with_reducible refine rd_iTup ?_) | (with_reducible refine rd_iList ?_) | (with_reducible refine rd_iRng1 ?_) | (with_reducible refine rd_iRng2 ?_) | (with_reducible refine rd_iEnumT ?_) | (with_reducible refine rd_iEnum ?_) | (with_reducible refine rd_iZipM ?_) | (with_reducible refine rd_iEnumS ?_) | (with_reducible refine rd_iKeys ?_) | (with_reducible refine rd_din ?_) | (with_reducible refine rd_dnotin ?_)
  | (with_reducible refine rd_yes ?_) | (with_reducible refine rd_true ?_) | (with_reducible refine rd_false ?_) | (with_reducible refine rd_m1 ?_) | (with_reducible refine rd_isS ?_)
  | ((with_reducible refine rd_eq ?hs ?_); (case hs => exact rfl)) | ((with_reducible refine rd_ne ?hs ?_); (case hs => exact rfl))
  | (with_reducible refine rd_listRg ?_) | (with_reducible refine rd_rg2 ?_) | (with_reducible refine rd_rgk ?_)
  | (with_reducible refine rd_dnew ?_) | (with_reducible refine rd_ddel ?_) | (with_reducible refine rd_kw ?_) | (with_reducible refine rd_callS ?_) | (with_reducible refine rd_dc ?_) | (with_reducible refine rd_for ?_) | (with_reducible refine rd_tru ?_) | (with_reducible refine rd_truI ?_)
  | (with_reducible refine rd_nil ?_) | (with_reducible refine rd_cons ?_) | (with_reducible refine rd_call ?_) | (with_reducible refine rd_cb ?_)
  | (with_reducible refine rd_tup ?_) | (with_reducible refine rd_lst ?_) | (with_reducible refine rd_dget ?_) | (with_reducible refine rd_dput ?_) | (with_reducible refine rd_dget2 ?_) | (with_reducible refine rd_sl ?_)
  | (with_reducible refine rd_nopart ?_) | (with_reducible refine rd_part ?_) | (with_reducible refine rd_parti ?_) | (with_reducible refine rd_bm ?_) | (with_reducible refine rd_bm0 ?_)
  | (with_reducible refine rd_int ?_) | (with_reducible refine rd_intb ?_) | (with_reducible refine rd_abs ?_) | (with_reducible refine rd_min2 ?_) | (with_reducible refine rd_max2 ?_))
local macro_rules | `(tactic| walk_at "rvs") => `(tactic| repeat (walk_at "rv"))

theorem nin_nil (l : List Str) : l.filter (nin []) = l := List.filter_eq_self.mpr fun _ _ => rfl
section
variable {P : Program} {w : World} {K : PySem.W.Frag} {mg : Str → Option Value} {base : Heap}
theorem ok_truth0 {f : Addr} {fd : FuncData} {k : Nat} : FnOk P w K mg base CX0 k f fd ["f", "world"] (spTruth K 0) :=
  ⟨fun vs H Q E h => by
    obtain ⟨v, f, _, _, _, _, _, hm, _⟩ := h
    have := dp_pos f
    omega, fun A outer s H args us vs Q E hr e0 hb r hsp => by
    obtain ⟨v, f, _, _, _, _, _, hm, _⟩ := hsp
    have := dp_pos f
    omega⟩
theorem ok_truth {f : Addr} {fd : FuncData} (F : Fun K "_law_truth" "_law_truth" s_law_truth f fd) (T : Bl mg)
    (C_law_truth : Callee K mg "_law_truth" f fd ["f", "world"]) : ∀ m, FnOk P w K mg base CX0 (m + 1) f fd ["f", "world"] (spTruth K m)
  | 0 => ok_truth0
  | m + 1 => ok_truth1 F T (ok_truth F T C_law_truth m) C_law_truth
theorem ok_lfree0 {f : Addr} {fd : FuncData} {k : Nat} : FnOk P w K mg base CX0 k f fd ["f", "bound"] (spLf K 0) :=
  ⟨fun vs H Q E h => by
    obtain ⟨v, f, _, _, _, _, hm, _⟩ := h
    have := dp_pos f
    omega, fun A outer s H args us vs Q E hr e0 hb r hsp => by
    obtain ⟨v, f, _, _, _, _, hm, _⟩ := hsp
    have := dp_pos f
    omega⟩
theorem ok_lfree {f fP : Addr} {fd fdP : FuncData} (F : Fun K "_law_free" "_law_free" s_law_free f fd) (T : Bl mg)
    (G_law_parts_of : FnOk P w K mg base CX0 1 fP fdP ["f"] (spPartsOf K)) (C_law_parts_of : Callee K mg "_law_parts_of" fP fdP ["f"])
    (C_law_free : Callee K mg "_law_free" f fd ["f", "bound"]) : ∀ m, FnOk P w K mg base CX0 (m + 1) f fd ["f", "bound"] (spLf K m)
  | 0 => ok_lfree0
  | m + 1 => ok_lfree1 F T (by omega) G_law_parts_of C_law_parts_of (ok_lfree F T G_law_parts_of C_law_parts_of C_law_free m) C_law_free
theorem ok_due {f fN fW fH : Addr} {fd fdN fdW fdH : FuncData} (F : Fun K "_law_due_world" "_law_due_world" s_law_due_world f fd) (T : Bl mg) {m k : Nat} (hk : 1 ≤ k)
    (G_law_free : FnOk P w K mg base CX0 k fN fdN ["f", "bound"] (spLf K m)) (C_law_free : Callee K mg "_law_free" fN fdN ["f", "bound"])
    (G_law_worlds : FnOk P w K mg base CX0 1 fW fdW ["names"] (spWs K)) (C_law_worlds : Callee K mg "_law_worlds" fW fdW ["names"])
    (G_law_truth : FnOk P w K mg base CX0 k fH fdH ["f", "world"] (spTruth K m)) (C_law_truth : Callee K mg "_law_truth" fH fdH ["f", "world"]) :
    FnOk P w K mg base CX0 (k + 1) f fd ["one", "other"] (spPart K m) := by
  refine F.ok sc_law_due_world (fun vs H Q E h => ?_) (fun cdv A outer s H vs Q E hr h => ?_)
  · obtain ⟨v, u, f, g, B, rfl, _⟩ := h
    rfl
  · obtain ⟨v, u, f, g, B, rfl, hv, hu, hm1, hm2, hn1, hn2, hq1, hq2, hB, hfB, hgB, q⟩ := h
    refine ⟨_, (pss_cons (ps_set (i := 2) sc_law_due_world.nd rfl (Or.inl rfl) (pe_callB (cr_sortedS rfl (Nat.lt_of_le_of_lt (Nat.add_le_add_left (by decide) _) hr.units)) (by rfl) T.sorted (by decide +kernel) (pa_cons (pe_callTy (c_setTx (K := K) rfl rfl) (by rfl) T.set (by decide +kernel) (pa_cons (pe_op op_cat (pe_call G_law_free hr (by rfl) C_law_free.m C_law_free.k C_law_free.b .nil pass0 (pa_cons (pv 0) (pa_cons (pe_lst pa_nil) pa_nil))) (pe_call G_law_free hr (by rfl) C_law_free.m C_law_free.k C_law_free.b .nil pass0 (pa_cons (pv 1) (pa_cons (pe_lst pa_nil) pa_nil)))) pa_nil)) pa_nil)))
 (pss_cons (ps_for PassesOwn.never rfl (ik_listI (K := K) rfl (pe_call G_law_worlds (hr.mono hk) (by rfl) C_law_worlds.m C_law_worlds.k C_law_worlds.b .nil pass0 (pa_cons (pv 2) pa_nil))) (pg_name (i := 3) sc_law_due_world.nd rfl (Or.inr rfl)) (pss_one (ps_if (pt_cmpR op_ne (pe_call G_law_truth hr (by rfl) C_law_truth.m C_law_truth.k C_law_truth.b .nil pass0 (pa_cons (pv 0) (pa_cons (pv 3) pa_nil))) (pe_call G_law_truth hr (by rfl) C_law_truth.m C_law_truth.k C_law_truth.b .nil pass0 (pa_cons (pv 1) (pa_cons (pv 3) pa_nil))) (nomark _)) (pss_one (ps_ret (pe_callTy (c_tuple (K := K) rfl) (by rfl) T.tuple (by decide +kernel) (pa_cons (pe_lc (own := [("name", 4)]) (g := gName 4) rfl sc_law_due_world.nd (ik_listI (K := K) rfl (pv 2)) (blkOk_by (own := [("name", 4)]) (N := ["one", "other", "names", "world", "name"]) (sc := defScope s_law_due_world) (by decide +kernel)) (fun _ _ _ _ _ => (pg_name (i := 4) sc_law_due_world.nd rfl (Or.inl rfl))) (fun _ _ _ _ _ => pts_nil) (fun _ _ _ _ _ => (pe_tup (pa_cons (pv 4) (pa_cons (pe_dget (hu_of hr) (pv 3) (pv 4) (fun _ _ => rfl)) pa_nil))))) pa_nil)))) pss_nil)))
 (pss_one (ps_ret pe_non)))), ?_⟩
    refine rd_start (σ' := [some v, some u, none, none, none]) rfl ?_
    walk_at "rvs"
    refine ⟨Nat.zero_le _, fun pa hpa => ?_⟩
    have ea := Evl.Ex.new (o := .lst []) hpa
    have ha : (upd H pa (.lst [])) pa = some (.lst []) := upd_same
    generalize (upd H pa (.lst [])) = Ha at ea ha ⊢
    walk_at "rvs"
    refine ⟨v, f, pa, [], rfl, dpF_ex ea hv, hm1, by omega, ha, by show 0 + _ ≤ _; omega, fun p1 H1 e1 n1 s1 => ?_⟩
    rw [nin_nil] at s1
    walk_at "rvs"
    refine ⟨Nat.zero_le _, fun pb hpb => ?_⟩
    have eb := Evl.Ex.new (o := .lst []) hpb
    have hb : (upd H1 pb (.lst [])) pb = some (.lst []) := upd_same
    generalize (upd H1 pb (.lst [])) = Hb at eb hb ⊢
    walk_at "rvs"
    refine ⟨u, g, pb, [], rfl, dpF_ex (ea.trans (e1.trans eb)) hu, hm2, by omega, hb, by show 0 + _ ≤ _; omega, fun p2 H2 e2 n2 s2 => ?_⟩
    rw [nin_nil] at s2
    have l1 := fvl_len f
    have l2 := fvl_len g
    walk_at "rvs"
    refine rd_catL ((eb.trans e2) _ _ s1) s2 (by rw [List.length_map, List.length_map, sizeLine_eq]; omega) fun p3 hp3 => ?_
    have e3 := Evl.Ex.new (o := .lst ((fvl f).map V.str ++ (fvl g).map V.str)) hp3
    have s3 : (upd H2 p3 (.lst ((fvl f).map V.str ++ (fvl g).map V.str))) p3 = some (.lst ((fvl f ++ fvl g).map V.str)) := by rw [upd_same, List.map_append]
    generalize (upd H2 p3 (.lst ((fvl f).map V.str ++ (fvl g).map V.str))) = H3 at e3 s3 ⊢
    walk_at "rvs"
    refine ⟨p3, fvl f ++ fvl g, rfl, .inr (SqL.of s3), by rw [List.length_append]; omega, fun S l hS nd hl hm => ?_⟩
    have e4 := Evl.Ex.new (o := SetSO P w S l) hS
    rw [List.length_append] at hl
    walk_at "rvs"
    refine ⟨S, l, rfl, upd_same, nd, by unfold scanBound; omega, fun zs N pm so hN => ?_⟩
    have e5 := Evl.Ex.new (o := .lst (zs.map V.str)) hN
    have zn := pm.nodup_iff.mpr nd
    have hsort := so
    have zm : ∀ z, z ∈ zs ↔ z ∈ fvl f ∨ z ∈ fvl g := fun z => by rw [pm.mem_iff, hm, List.mem_append]
    have zl : zs.length ≤ B.length := nodup_sub zn fun z hz => ((zm z).mp hz).elim (hfB z) (hgB z)
    have eA := (ea.trans (e1.trans eb)).trans (e2.trans (e3.trans (e4.trans e5)))
    have hNz : SqL K _ N (zs.map V.str) := SqL.of (upd_same (H := upd H3 S (SetSO P w S l)) (a := N) (o := .lst (zs.map V.str)))
    walk_at "rvs"
    refine ⟨N, zs, rfl, hNz, by omega, zn, fun W ws H6 e6 hWn hW hWL => ?_⟩
    have eB := eA.trans e6
    walk_at "rvs"
    refine ⟨W, rfl, ⟨_, SqL.of hW⟩, ?_⟩
    have hNC := Evl.ex_l e6 hNz
    refine fr_list (K := K) (xs := ws) (fun i σ' H' => ∃ o3 : Option V, σ' = [some v, some u, some (.ref N), o3, none] ∧ Evl.Ex H6 H' ∧ ∀ j row, j < i → (rl zs.length)[j]? = some row → (sem f (envF zs row) != sem g (envF zs row)) = false) ⟨none, rfl, Evl.Ex.refl _, fun j row hj => absurd hj (Nat.not_lt_zero _)⟩ (fun i σ' H' _ h => by
        obtain ⟨_, _, e, _⟩ := h
        exact SqL.of (e _ _ hW)) (fun i y σ' H7 hy hP => ?_) fun σ' H7 hP => ?_
    · obtain ⟨o3, rfl, e7, hno⟩ := hP
      have hi : i < (rl zs.length).length := by rw [← hWL.1]; exact (List.getElem?_eq_some_iff.mp hy).1
      have hrow := List.getElem?_eq_getElem hi
      generalize (rl zs.length)[i] = row at hrow
      obtain ⟨D, kvs, hy2, hD, hkl, hwd⟩ := (hWL.ex e7).2 i row hrow
      rw [hy] at hy2
      obtain rfl : y = V.ref D := Option.some.inj hy2
      have sm : ∀ h : Fm, (∀ z ∈ fvl h, z ∈ zs) → (sem h fun z => (if z ∈ zs then some (envF zs row z) else none).getD false) = sem h (envF zs row) := fun h hz => sem_congr h _ _ fun z hm => by rw [if_pos (hz z hm)] <;> rfl
      have sf := sm f fun z hz => (zm z).mpr (.inl hz)
      have sg := sm g fun z hz => (zm z).mpr (.inr hz)
      refine rd_start (σ' := [some v, some u, some (.ref N), some (.ref D), none]) rfl ?_
      walk_at "rvs"
      refine rd_if ?_
      walk_at "rvs"
      refine ⟨v, f, D, kvs, _, rfl, dpF_ex (eB.trans e7) hv, hm1, by omega, hD, by omega, hwd, fun z hz => ⟨_, if_pos ((zm z).mpr (.inl hz))⟩, fun H8 e8 => ?_⟩
      rw [sf]
      walk_at "rvs"
      refine ⟨u, g, D, kvs, _, rfl, dpF_ex (eB.trans (e7.trans e8)) hu, hm2, by omega, e8 _ _ hD, by omega, hwd, fun z hz => ⟨_, if_pos ((zm z).mpr (.inr hz))⟩, fun H9 e9 => ?_⟩
      rw [sg]
      walk_at "rvs"
      have hb : ∀ a b : Bool, (!decide (V.bl a = V.bl b)) = (a != b) := fun a b => by
        cases a <;> cases b <;> decide
      rw [hb]
      cases hne : sem f (envF zs row) != sem g (envF zs row) with
      | false =>
        rw [if_neg Bool.false_ne_true]
        walk_at "rvs"
        refine ⟨_, rfl, e7.trans (e8.trans e9), fun j r hj hr => ?_⟩
        by_cases c : j = i
        · rw [c, hrow] at hr
          obtain rfl := Option.some.inj hr
          exact hne
        · exact hno j r (by omega) hr
      | true =>
        rw [if_pos rfl]
        have hpw : PW f g zs = some row := find_first hrow hne hno
        have eC := e7.trans (e8.trans e9)
        have hN9 := Evl.ex_l eC hNC
        walk_at "rvs"
        refine ⟨N, rfl, ⟨_, hN9⟩, ?_⟩
        refine lc_lsL (K := K) (xs := zs.map V.str) (fun D i acc H' => DpAll K H' acc ((zs.take i).map fun z => PyData.tuple [.str z, .bool (envF zs row z)])) (fun i acc H1 D u e h => dps_mono (fun _ _ t => tup_upd e lst_not t) _ _ (noLs_pw _ _) h) hN9 (by rw [List.length_map]; omega) (σx := fun x => [some v, some u, some (.ref N), some (.ref D), some x]) (fun _ => rfl) (fun _ => rfl) (fun D H' _ => .nil) (fun i x hx D2 acc H' NN ex hDa hP kN => ?_) fun D2 acc H' ex hn2 hD2 hP => ?_
        · rw [List.getElem?_map] at hx
          obtain ⟨z, hz, rfl⟩ := Option.map_eq_some_iff.mp hx
          have hzm := List.mem_of_getElem? hz
          have hg : DGet H' D (.str z) (some (V.bl (envF zs row z))) := by
            have := hwd.get (ex _ _ ((e8.trans e9) _ _ hD)) z
            dsimp only at this
            rw [if_pos hzm] at this
            exact this
          walk_at "rvs"
          refine ⟨D, .bl (envF zs row z), rfl, hg, ?_⟩
          walk_at "rvs"
          refine ⟨(by show 2 ≤ sizeLine; decide), fun p hp => ?_⟩
          have ep := Evl.Ex.new (o := .tup [V.str z, .bl (envF zs row z)]) hp
          refine kN _ _ ep ?_
          rw [List.take_add_one, hz, List.map_append]
          refine dps_mono (fun _ _ t => tup_upd (ep _ _ hDa) lst_not t) _ _ ?_ (dpAll_cat (dpAll_ex ep _ _ hP) (.cons (.tup (SqT.of upd_same) (.cons (.str z) (.cons (.bl _) .nil))) .nil))
          rw [show (List.map (fun z => PyData.tuple [.str z, .bool (envF zs row z)]) (some z).toList) = List.map (fun z => PyData.tuple [.str z, .bool (envF zs row z)]) [z] from rfl, ← List.map_append]
          exact noLs_pw _ _
        · walk_at "rvs"
          refine ⟨D2, acc, rfl, .inl ⟨SqL.of hD2, fun t ht => ?_⟩⟩
          have ep := Evl.Ex.new (o := .tup acc) ht
          rw [List.length_map, List.take_of_length_le (Nat.le_refl _)] at hP
          refine q zs _ _ hsort zn zm (eB.trans (eC.trans (ex.trans ep))) ?_
          rw [hpw]
          exact .tup (SqT.of upd_same) (dpAll_ex ep _ _ hP)
    · obtain ⟨o3, rfl, e7, hno⟩ := hP
      walk_at "rvs"
      refine q zs .non _ hsort zn zm (eB.trans e7) ?_
      have : PW f g zs = none := by
        unfold PW
        rw [List.find?_eq_none]
        intro row hr
        obtain ⟨j, hj, e⟩ := List.mem_iff_getElem.mp hr
        rw [hno j row (by rw [hWL.1]; exact hj) (by rw [List.getElem?_eq_getElem hj, e])]
        exact Bool.false_ne_true
      rw [this]
      exact .non
theorem lc_noneX {K : PySem.W.Frag} {σ : L2.St} {H : Hp} {Q : VK} {tt : TT} {te : TE} {vs : List Nat} {j : Nat} {a : Addr} {xs : List V} {σx : V → L2.St} (hx : H a = some (.lst xs)) (hσ : ∀ x, (wipe σ vs).set j (some x) = σx x) (hw : ∀ x, wipe (σx x) vs = wipe σ vs)
    (hs : ∀ x ∈ xs, ∀ (H' : Hp) (N : VK) (S : Hp → Prop), Evl.Ex H H' → (∀ H3, Evl.Ex H' H3 → S H3) → tt (σx x) H' fun b H2 => if b = true then te (σx x) H2 N else S H2)
    (hd : ∀ D H', Evl.Ex H H' → H D = none → H' D = some (.lst []) → Q (.ref D) H') : LcR (gName j) tt te vs σ Q (Itl K a) H := fun D hn =>
  lc_list (xs := xs) (fun _ H' => Evl.Ex H H' ∧ H' D = some (.lst [])) ⟨Evl.Ex.new hn, upd_same⟩ (fun _ H' _ p => SqL.of (p.1 _ _ hx)) (fun i x H' hi p => by
    rw [show gName j x (wipe σ vs) H' = fun N => N (σx x) H' from funext fun N => by rw [← hσ x] <;> rfl]
    exact ⟨hw x, hs x (List.mem_of_getElem? hi) H' _ _ p.1 fun H3 g3 => ⟨p.1.trans g3, g3 _ _ p.2⟩⟩) fun H' p => hd D H' p.1 hn p.2
theorem fvl_okz : ∀ f : Fm, okf f = true → ∀ z ∈ fvl f, okz z = true
  | .letter z, h, y, hy => by
    rw [fvl] at hy
    rw [List.mem_singleton.mp hy]
    exact h
  | .no f, h, y, hy => fvl_okz f h y (by rw [fvl] at hy; exact hy)
  | .same f g, h, y, hy => by
    rw [okf, Bool.and_eq_true] at h
    rw [fvl] at hy
    exact (List.mem_append.mp hy).elim (fvl_okz f h.1 y) (fvl_okz g h.2 y)
  | .quan b z f, h, y, hy => by
    rw [okf, Bool.and_eq_true] at h
    rw [fvl] at hy
    exact fvl_okz f h.2 y (List.mem_filter.mp hy).1
  | .conn b fs, h, y, hy => by
    rw [fvl, fvls_map] at hy
    obtain ⟨g, hg, hy⟩ := List.mem_flatMap.mp hy
    exact fvl_okz g (okfs_mem h hg) y hy
theorem noL_pwD (zs : List Str) (r : Option (List Bool)) : noL (pwD zs r) = true := by
  cases r with
  | none => rfl
  | some row => exact noLs_pw _ _
theorem fair_pw (row : Str → Bool) : ∀ zs : List Str, (∀ z ∈ zs, okz z = true) → FairAll (60 * zs.length) 2 (zs.map fun z => PyData.tuple [.str z, .bool (row z)])
  | [], _ => FairAll.nil
  | z :: t, h => by
    have h1 := h z List.mem_cons_self
    unfold okz at h1
    rw [Bool.and_eq_true, Bool.and_eq_true, Bool.and_eq_true] at h1
    obtain ⟨a1, ⟨a2, a3⟩, _⟩ := h1
    have hz : Fair 20 1 (.str z) := ⟨by have := of_decide_eq_true a1; simp only [PyData.bulk]; omega, (show (PyData.str z).depth ≤ 1 from Nat.zero_le 1), a2, a3⟩
    have hb : Fair 20 1 (.bool (row z)) := ⟨by cases row z <;> decide, by cases row z <;> decide, by cases row z <;> rfl, by cases row z <;> rfl⟩
    have := FairAll.cons (Fair.tup (FairAll.cons hz (FairAll.cons hb FairAll.nil))) (fair_pw row t fun y hy => h y (List.mem_cons_of_mem _ hy))
    exact this.mono (by rw [List.length_cons]; omega) (Nat.le_refl _)
theorem fair_pwD {zs : List Str} (h : ∀ z ∈ zs, okz z = true) (r : Option (List Bool)) : Fair (60 * zs.length + 20) 3 (pwD zs r) := by
  cases r with
  | none => exact ⟨Nat.le_trans (show PyData.bulk .none ≤ 20 by decide) (by omega), Nat.zero_le _, rfl, rfl⟩
  | some row => exact (Fair.tup (fair_pw _ zs h)).mono (by omega) (Nat.le_refl _)
def spTold (K : PySem.W.Frag) : Sp := fun vs H Q _ => ∃ (v u : V) (f g : Fm) (B : List Str) (b : Bool), vs = [v, u, .bl b] ∧ Dp K H v (dat f) ∧ Dp K H u (dat g) ∧ dp f ≤ 25 ∧ dp g ≤ 25 ∧ nd f ≤ 400 ∧ nd g ≤ 400 ∧ qd f ≤ 5 ∧ qd g ≤ 5 ∧ dt f ≤ 30 ∧ dt g ≤ 30 ∧ okf f = true ∧ okf g = true ∧ B.length ≤ 9 ∧ (∀ z ∈ fvl f, z ∈ B) ∧ (∀ z ∈ fvl g, z ∈ B) ∧
  ∀ H', Evl.Ex H H' → Q (.bl true) H'
theorem ok_told {f fD fP : Addr} {fd fdD fdP : FuncData} (F : Fun K "_law_is_told" "_law_is_told" s_law_is_told f fd) (T : Bl mg)
    (G_law_due_world : FnOk P w K mg base CX0 27 fD fdD ["one", "other"] (spPart K 25)) (C_law_due_world : Callee K mg "_law_due_world" fD fdD ["one", "other"])
    (Gparting_world : FnOk P w K mg base CX0 52 fP fdP ["one", "other"] (spPart K 25)) (Cparting_world : Callee K mg "parting_world" fP fdP ["one", "other"]) (Kparting_world : KwRev fdP ["one", "other"]) :
    FnG P w K mg base 53 f fd ["one", "other", "is_named"] (spTold K) := by
  refine okG F sc_law_is_told (fun vs H Q E h => ?_) (fun cdv A outer s H vs Q E hr hg h => ?_)
  · obtain ⟨v, u, f, g, B, b, rfl, _⟩ := h
    rfl
  · obtain ⟨v, u, f, g, B, b, rfl, hv, hu, hm1, hm2, hn1, hn2, hq1, hq2, ht1, ht2, ho1, ho2, hB, hfB, hgB, q⟩ := h
    refine ⟨_, (pss_cons (ps_asg (pe_tup (pa_cons (pe_callB (c_reprW (K := K) rfl hg hr.units) (by rfl) T.repr (by decide +kernel) (pa_cons (pe_lstZ (pa_cons (pv 0) (pa_cons (pv 1) pa_nil))) pa_nil)) (pa_cons (pe_callB (c_reprW (K := K) rfl hg hr.units) (by rfl) T.repr (by decide +kernel) (pa_cons (pe_call G_law_due_world (hr.mono (by decide)) (by rfl) C_law_due_world.m C_law_due_world.k C_law_due_world.b .nil pass0 (pa_cons (pv 0) (pa_cons (pv 1) pa_nil))) pa_nil)) pa_nil))) (pgk_tup (K := K) rfl rfl (pgs_cons (pg_name (i := 3) sc_law_is_told.nd rfl (Or.inl rfl)) (pgs_cons (pg_name (i := 4) sc_law_is_told.nd rfl (Or.inr rfl)) pgs_nil))))
 (pss_cons (ps_set (i := 5) sc_law_is_told.nd rfl (Or.inl rfl) (pe_ifExp (pt_val (pv 2)) (pe_kw (E := fun _ => E0) (ks := ["other", "one"]) (g := List.reverse) (gV := List.reverse) Gparting_world (hr.mono (by decide)) (by rfl) Cparting_world.m Cparting_world.k Kparting_world (fun _ r => rel_rev r) (fun _ => passAt0) (pk_cons (pv 1) (pk_cons (pv 0) pk_nil))) (pe_call Gparting_world (hr.mono (by decide)) (by rfl) Cparting_world.m Cparting_world.k Cparting_world.b .nil pass0 (pa_cons (pv 0) (pa_cons (pv 1) pa_nil)))))
 (pss_cons (ps_if (PW.pt (pw_or (pt_cmpR op_ne (pe_callB (c_reprW (K := K) rfl hg hr.units) (by rfl) T.repr (by decide +kernel) (pa_cons (pv 5) pa_nil)) (pv 4) (nomark _)) (pw_or1 (pt_cmpR op_ne (pe_callB (c_reprW (K := K) rfl hg hr.units) (by rfl) T.repr (by decide +kernel) (pa_cons (pe_lstZ (pa_cons (pv 0) (pa_cons (pv 1) pa_nil))) pa_nil)) (pv 3) (nomark _))))) (pss_one (ps_ret pe_bl)) pss_nil)
 (pss_cons (ps_set (i := 6) sc_law_is_told.nd rfl (Or.inl rfl) (pe_ifExp (pt_val (pv 2)) (pe_lstZ (pa_cons (pe_call Gparting_world (hr.mono (by decide)) (by rfl) Cparting_world.m Cparting_world.k Cparting_world.b .nil pass0 (pa_cons (pv 1) (pa_cons (pv 0) pa_nil))) (pa_cons (pe_call Gparting_world (hr.mono (by decide)) (by rfl) Cparting_world.m Cparting_world.k Cparting_world.b .nil pass0 (pa_cons (pv 0) (pa_cons (pv 1) pa_nil))) pa_nil))) (pe_lstZ pa_nil)))
 (pss_one (ps_ret (pe_cmpR (ok_eqD (K := K) rfl hr.units) (pe_lc (own := [("own", 7)]) (g := gName 7) rfl sc_law_is_told.nd (ik_listI (K := K) rfl (pv 6)) (blkOk_by (own := [("own", 7)]) (N := ["one", "other", "is_named", "known", "due", "told", "again", "own"]) (sc := defScope s_law_is_told) (by decide +kernel)) (fun _ _ _ _ _ => (pg_name (i := 7) sc_law_is_told.nd rfl (Or.inl rfl))) (fun _ _ _ _ _ => (pts_one (pt_cmpR op_ne (pe_callB (c_reprW (K := K) rfl hg hr.units) (by rfl) T.repr (by decide +kernel) (pa_cons (pv 7) pa_nil)) (pv 4) (nomark _)))) (fun _ _ _ _ _ => pe_int)) (pe_lstZ pa_nil) (nomark _)))))))), ?_⟩
    refine rd_start (σ' := [some v, some u, some (.bl b), none, none, none, none, none]) rfl ?_
    have ff : Fair (20 * 400 + 1 + (20 * 400 + 1 + 0)) (30 + 1) (.list [dat f, dat g]) := Fair.two (fair_dat ho1 hn1 ht1) (fair_dat ho2 hn2 ht2)
    walk_at "rvs"
    refine ⟨(by show 2 ≤ sizeLine; decide), fun pa hpa hsa => ?_⟩
    have ea := Evl.Ex.new (o := .lst [v, u]) hpa
    have ra : RdU K (upd H pa (.lst [v, u])) (.ref pa) (.list [dat f, dat g]) := RdU.two hsa (SqL.of upd_same) (.fm (dpF_ex ea hv)) (.fm (dpF_ex ea hu))
    generalize (upd H pa (.lst [v, u])) = Ha at ea ra ⊢
    walk_at "rvs"
    refine rd_reprW ra ff (by decide) (by decide) ?_
    walk_at "rvs"
    refine ⟨v, u, f, g, B, rfl, dpF_ex ea hv, dpF_ex ea hu, hm1, hm2, hn1, hn2, hq1, hq2, hB, hfB, hgB, fun zs x H1 so zn zm e1 dx => ?_⟩
    have zl : zs.length ≤ 9 := Nat.le_trans (nodup_sub zn fun z hz => ((zm z).mp hz).elim (hfB z) (hgB z)) hB
    have zok : ∀ z ∈ zs, okz z = true := fun z hz => ((zm z).mp hz).elim (fvl_okz f ho1 z) (fvl_okz g ho2 z)
    have fw := fair_pwD zok (PW f g zs)
    have hfw : 60 * zs.length + 20 ≤ 2 ^ 18 := by omega
    have hnl := noL_pwD zs (PW f g zs)
    have same : ∀ {zs2 : List Str} {H' : Hp} {x2 : V}, zs2.Pairwise leS → zs2.Nodup → (∀ z, z ∈ zs2 ↔ z ∈ fvl f ∨ z ∈ fvl g) → Dp K H' x2 (pwD zs2 (PW f g zs2)) → Dp K H' x2 (pwD zs (PW f g zs)) := fun s2 n2 m2 d2 => by
      rw [texts_one so s2 zn n2 fun z => by rw [zm, m2]]
      exact d2
    have same2 : ∀ {zs2 : List Str} {H' : Hp} {x2 : V}, zs2.Pairwise leS → zs2.Nodup → (∀ z, z ∈ zs2 ↔ z ∈ fvl g ∨ z ∈ fvl f) → Dp K H' x2 (pwD zs2 (PW g f zs2)) → Dp K H' x2 (pwD zs (PW f g zs)) := fun s2 n2 m2 d2 => same s2 n2 (fun z => by rw [m2, Or.comm]) (by rw [PW_comm]; exact d2)
    generalize pwD zs (PW f g zs) = pd at fw hnl same same2 dx
    walk_at "rvs"
    refine rd_reprW (.dz (dz_of_dp _ _ hnl dx)) fw hfw (by decide) ?_
    walk_at "rvs"
    refine ⟨(by show 2 ≤ sizeLine; decide), fun pt hpt => ?_⟩
    have et := Evl.Ex.new (o := .tup [V.str (PyData.list [dat f, dat g]).shown, .str pd.shown]) hpt
    refine rd_gtup2 (SqT.of upd_same) rfl (σ' := [some v, some u, some (.bl b), some (.str (PyData.list [dat f, dat g]).shown), some (.str pd.shown), none, none, none]) rfl ?_
    have eA := ea.trans (e1.trans et)
    generalize (upd H1 pt (.tup [V.str (PyData.list [dat f, dat g]).shown, .str pd.shown])) = H2 at eA ⊢
    have hv2 := dpF_ex eA hv
    have hu2 := dpF_ex eA hu
    walk_at "rvs"
    refine rd_ifV (fun v' H' => Dp K H' v' pd ∧ Evl.Ex H2 H') (fun N5 kN => ?_) fun v' H3 hv' => ?_
    · walk_at "rds"
      cases b with
      | true =>
        refine (if_pos rfl).mpr ?_
        walk_at "rds"
        refine ⟨rfl, v, u, f, g, B, rfl, hv2, hu2, hm1, hm2, hn1, hn2, hq1, hq2, hB, hfB, hgB, fun zs2 x2 H' s2 n2 m2 e2 d2 => ?_⟩
        exact kN _ _ ⟨same s2 n2 m2 d2, e2⟩
      | false =>
        refine (if_neg Bool.false_ne_true).mpr ?_
        walk_at "rds"
        refine ⟨v, u, f, g, B, rfl, hv2, hu2, hm1, hm2, hn1, hn2, hq1, hq2, hB, hfB, hgB, fun zs2 x2 H' s2 n2 m2 e2 d2 => ?_⟩
        exact kN _ _ ⟨same s2 n2 m2 d2, e2⟩
    obtain ⟨dv', e3⟩ := hv'
    walk_at "rds"
    refine rd_reprW (.dz (dz_of_dp _ _ hnl dv')) fw hfw (by decide) ?_
    walk_at "rds"
    refine if_same ?_
    walk_at "rds"
    refine ⟨(by show 2 ≤ sizeLine; decide), fun pb hpb hsb => ?_⟩
    have eb := Evl.Ex.new (o := .lst [v, u]) hpb
    have e23 := e3.trans eb
    have rb : RdU K (upd H3 pb (.lst [v, u])) (.ref pb) (.list [dat f, dat g]) := RdU.two hsb (SqL.of upd_same) (.fm (dpF_ex e23 hv2)) (.fm (dpF_ex e23 hu2))
    generalize (upd H3 pb (.lst [v, u])) = H4 at e23 rb ⊢
    have hv4 := dpF_ex e23 hv2
    have hu4 := dpF_ex e23 hu2
    walk_at "rds"
    refine rd_reprW rb ff (by decide) (by decide) ?_
    walk_at "rds"
    refine if_same ?_
    walk_at "rvs"
    refine rd_ifV (fun v' H' => ∃ (L : Addr) (xs : List V), v' = .ref L ∧ H' L = some (.lst xs) ∧ (∀ y ∈ xs, Dp K H' y pd) ∧ Evl.Ex H4 H') (fun N5 kN => ?_) fun v'' H5 hv'' => ?_
    · walk_at "rds"
      cases b with
      | true =>
        refine (if_pos rfl).mpr ?_
        walk_at "rds"
        refine ⟨u, v, g, f, B, rfl, hu4, hv4, hm2, hm1, hn2, hn1, hq2, hq1, hB, hgB, hfB, fun zs2 x2 H' s2 n2 m2 e2 d2 => ?_⟩
        have d2 := same2 s2 n2 m2 d2
        walk_at "rds"
        refine ⟨v, u, f, g, B, rfl, dpF_ex e2 hv4, dpF_ex e2 hu4, hm1, hm2, hn1, hn2, hq1, hq2, hB, hfB, hgB, fun zs3 x3 H'' s3 n3 m3 e3' d3 => ?_⟩
        have d3 := same s3 n3 m3 d3
        walk_at "rds"
        refine ⟨(by show 2 ≤ sizeLine; decide), fun pc hpc hsc => ?_⟩
        have ec := Evl.Ex.new (o := .lst [x2, x3]) hpc
        refine kN _ _ ⟨pc, _, rfl, upd_same, fun y hy => ?_, e2.trans (e3'.trans ec)⟩
        simp only [List.mem_cons, List.not_mem_nil, or_false] at hy
        rcases hy with rfl | rfl
        · exact dp_ex (e3'.trans ec) _ _ d2
        · exact dp_ex ec _ _ d3
      | false =>
        refine (if_neg Bool.false_ne_true).mpr ?_
        walk_at "rds"
        refine ⟨Nat.zero_le _, fun pc hpc hsc => ?_⟩
        exact kN _ _ ⟨pc, [], rfl, upd_same, fun y hy => (by cases hy), Evl.Ex.new hpc⟩
    obtain ⟨L, xs, rfl, hL, hxs, e5⟩ := hv''
    walk_at "rds"
    refine ⟨L, rfl, ⟨_, SqL.of hL⟩, ?_⟩
    refine lc_noneX (K := K) (xs := xs) hL (σx := fun y => [some v, some u, some (.bl b), some (.str (PyData.list [dat f, dat g]).shown), some (.str pd.shown), some v', some (.ref L), some y]) (fun _ => rfl) (fun _ => rfl) (fun y hy H6 N6 S6 e6 kS => ?_) fun D H6 e6 hn6 hD => ?_
    · walk_at "rds"
      refine rd_reprW (.dz (dz_of_dp _ _ hnl (dp_ex e6 _ _ (hxs y hy)))) fw hfw (by decide) ?_
      walk_at "rds"
      refine if_same ?_
      exact kS _ (Evl.Ex.refl _)
    walk_at "rds"
    refine ⟨Nat.zero_le _, fun p hp hps => ?_⟩
    have e7 := Evl.Ex.new (o := .lst []) hp
    refine ⟨.list [], .list [], .lst (SqL.of (e7 _ _ hD)) .nil, .lst (SqL.of upd_same) .nil, by decide, by decide, ?_⟩
    exact q _ (eA.trans (e23.trans (e5.trans (e6.trans e7))))
end
end KA
set_option Elab.async false
set_option linter.all false
set_option maxRecDepth 100000
set_option maxHeartbeats 400000
set_option pp.maxSteps 300
namespace KA
open PySem PySem.Spec PyProof.Rows L2 Ea
abbrev s_law_remade : Stmt := topS 19
theorem sc_law_remade : FnScope ["f", "parts"] ["f", "parts"] (defScope s_law_remade) :=
  ⟨rfl, rfl, rfl, by decide +kernel, rfl, by decide +kernel, by decide +kernel⟩
abbrev s_law_near : Stmt := topS 26
theorem sc_law_near : FnScope ["bag", "f", "parts", "at"] ["bag", "f"] (defScope s_law_near) :=
  ⟨rfl, rfl, rfl, by decide +kernel, rfl, by decide +kernel, by decide +kernel⟩
abbrev s_law_lone : Stmt := topS 27
theorem sc_law_lone : FnScope ["bag", "many", "names", "literals", "name", "f"] ["bag", "many"] (defScope s_law_lone) :=
  ⟨rfl, rfl, rfl, by decide +kernel, rfl, by decide +kernel, by decide +kernel⟩
local macro_rules | `(tactic| walk_at "rd") => `(tactic| first
  | (with_reducible refine rd_iItems ?_) | (with_reducible refine rd_sc2 ?_) | (with_reducible refine rd_lc2 ?_) | (with_reducible refine rd_iZipN ?_) | (with_reducible refine rd_iZipL ?_) | (with_reducible refine rd_revL ?_) | (with_reducible refine rd_lstZ ?_) | (with_reducible refine rd_iRev ?_)
  | (with_reducible refine rd_seq ?_) | (with_reducible refine rd_asg ?_) | (with_reducible refine rd_if ?_) | (with_reducible refine rd_ret ?_) | (with_reducible refine rd_next ?_)
  | (with_reducible refine rd_drop ?_) | ((with_reducible refine rd_name (σ' := ?ss) ?hs ?_); (case hs => (dsimp only [List.set]; exact rfl)))
  | ((with_reducible refine rd_var (v := ?vv) ?hv ?_); (case hv => exact rfl)) | (with_reducible refine rd_c ?_) | (with_reducible refine rd_op ?_) | (with_reducible refine rd_un ?_)
  | (with_reducible refine rd_I0 ?_) | (with_reducible refine rd_U ?_) | (with_reducible refine rd_test ?_) | (with_reducible refine rd_B ?_) | (with_reducible refine rd_k ?_)
  | (with_reducible refine rd_not ?_) | (with_reducible refine rd_and ?_) | (with_reducible refine rd_or ?_) | (with_reducible refine rd_ifE ?_)
  | (with_reducible refine rd_par ?_) | ((with_reducible refine rd_par2 (σ' := ?ss) ?hs ?_); (case hs => (dsimp only [List.set]; exact rfl)))
  | (with_reducible refine rd_gsub ?_) | (with_reducible refine rd_andV ?_) | (with_reducible refine rd_orV ?_) | (with_reducible refine rd_notV ?_)
  | (with_reducible refine rd_lc ?_) | (with_reducible refine rd_iTup ?_) | (with_reducible refine rd_iList ?_) | (with_reducible refine rd_iRng1 ?_) | (with_reducible refine rd_iRng2 ?_) | (with_reducible refine rd_iEnumT ?_) | (with_reducible refine rd_iEnum ?_) | (with_reducible refine rd_iZipM ?_) | (with_reducible refine rd_iEnumS ?_) | (with_reducible refine rd_iKeys ?_) | (with_reducible refine rd_din ?_) | (with_reducible refine rd_dnotin ?_)
  | (with_reducible refine rd_yes ?_) | (with_reducible refine rd_true ?_) | (with_reducible refine rd_false ?_) | (with_reducible refine rd_m1 ?_) | (with_reducible refine rd_isS ?_)
  | ((with_reducible refine rd_eq ?hs ?_); (case hs => exact rfl)) | ((with_reducible refine rd_ne ?hs ?_); (case hs => exact rfl))
  | (with_reducible refine rd_listRg ?_) | (with_reducible refine rd_rg2 ?_) | (with_reducible refine rd_rgk ?_)
  | (with_reducible refine rd_dnew ?_) | (with_reducible refine rd_ddel ?_) | (with_reducible refine rd_kw ?_) | (with_reducible refine rd_callS ?_) | (with_reducible refine rd_dc ?_) | (with_reducible refine rd_for ?_) | (with_reducible refine rd_tru ?_) | (with_reducible refine rd_truI ?_)
  | (with_reducible refine rd_nil ?_) | (with_reducible refine rd_cons ?_) | (with_reducible refine rd_call ?_) | (with_reducible refine rd_cb ?_)
  | (with_reducible refine rd_tup ?_) | (with_reducible refine rd_lst ?_) | (with_reducible refine rd_dget ?_) | (with_reducible refine rd_dput ?_) | (with_reducible refine rd_dget2 ?_) | (with_reducible refine rd_sl ?_)
  | (with_reducible refine rd_nopart ?_) | (with_reducible refine rd_part ?_) | (with_reducible refine rd_parti ?_) | (with_reducible refine rd_bm ?_) | (with_reducible refine rd_bm0 ?_)
  | (with_reducible refine rd_int ?_) | (with_reducible refine rd_intb ?_) | (with_reducible refine rd_abs ?_) | (with_reducible refine rd_min2 ?_) | (with_reducible refine rd_max2 ?_))
local macro_rules | `(tactic| walk_at "rds") => `(tactic| repeat (walk_at "rd"))
local macro_rules | `(tactic| walk_at "rq") => `(tactic| first
  | (with_reducible refine rd_iItems ?_) | (with_reducible refine rd_sc2 ?_) | (with_reducible refine rd_lc2 ?_) | (with_reducible refine rd_iZipN ?_) | (with_reducible refine rd_iZipL ?_) | (with_reducible refine rd_revL ?_) | (with_reducible refine rd_lstZ ?_) | (with_reducible refine rd_iRev ?_)
  | (with_reducible refine rd_seq ?_) | (with_reducible refine rd_asg ?_) | (with_reducible refine rd_ret ?_) | (with_reducible refine rd_next ?_)
  | (with_reducible refine rd_drop ?_) | ((with_reducible refine rd_name (σ' := ?ss) ?hs ?_); (case hs => (dsimp only [List.set]; exact rfl)))
  | ((with_reducible refine rd_var (v := ?vv) ?hv ?_); (case hv => exact rfl)) | (with_reducible refine rd_c ?_) | (with_reducible refine rd_op ?_) | (with_reducible refine rd_un ?_)
  | (with_reducible refine rd_I0 ?_) | (with_reducible refine rd_U ?_) | (with_reducible refine rd_test ?_) | (with_reducible refine rd_B ?_) | (with_reducible refine rd_k ?_)
  | (with_reducible refine rd_not ?_) | (with_reducible refine rd_and ?_) | (with_reducible refine rd_or ?_) | (with_reducible refine rd_ifE ?_)
  | (with_reducible refine rd_par ?_) | ((with_reducible refine rd_par2 (σ' := ?ss) ?hs ?_); (case hs => (dsimp only [List.set]; exact rfl)))
  | (with_reducible refine rd_gsub ?_) | (with_reducible refine rd_andV ?_) | (with_reducible refine rd_orV ?_) | (with_reducible refine rd_notV ?_)
  | (with_reducible refine rd_lc ?_) | (with_reducible refine rd_iTup ?_) | (with_reducible refine rd_iList ?_) | (with_reducible refine rd_iRng1 ?_) | (with_reducible refine rd_iRng2 ?_) | (with_reducible refine rd_iEnumT ?_) | (with_reducible refine rd_iEnum ?_) | (with_reducible refine rd_iZipM ?_) | (with_reducible refine rd_iEnumS ?_) | (with_reducible refine rd_iKeys ?_) | (with_reducible refine rd_din ?_) | (with_reducible refine rd_dnotin ?_)
  | (with_reducible refine rd_yes ?_) | (with_reducible refine rd_true ?_) | (with_reducible refine rd_false ?_) | (with_reducible refine rd_m1 ?_) | (with_reducible refine rd_isS ?_)
  | ((with_reducible refine rd_eq ?hs ?_); (case hs => exact rfl)) | ((with_reducible refine rd_ne ?hs ?_); (case hs => exact rfl))
  | (with_reducible refine rd_listRg ?_) | (with_reducible refine rd_rg2 ?_) | (with_reducible refine rd_rgk ?_)
  | (with_reducible refine rd_dnew ?_) | (with_reducible refine rd_ddel ?_) | (with_reducible refine rd_kw ?_) | (with_reducible refine rd_callS ?_) | (with_reducible refine rd_dc ?_) | (with_reducible refine rd_for ?_) | (with_reducible refine rd_tru ?_) | (with_reducible refine rd_truI ?_)
  | (with_reducible refine rd_nil ?_) | (with_reducible refine rd_cons ?_) | (with_reducible refine rd_call ?_) | (with_reducible refine rd_cb ?_)
  | (with_reducible refine rd_tup ?_) | (with_reducible refine rd_lst ?_) | (with_reducible refine rd_dget ?_) | (with_reducible refine rd_dput ?_) | (with_reducible refine rd_dget2 ?_) | (with_reducible refine rd_sl ?_)
  | (with_reducible refine rd_nopart ?_) | (with_reducible refine rd_part ?_) | (with_reducible refine rd_parti ?_) | (with_reducible refine rd_bm ?_) | (with_reducible refine rd_bm0 ?_)
  | (with_reducible refine rd_int ?_) | (with_reducible refine rd_intb ?_) | (with_reducible refine rd_abs ?_) | (with_reducible refine rd_min2 ?_) | (with_reducible refine rd_max2 ?_))
local macro_rules | `(tactic| walk_at "rqs") => `(tactic| repeat (walk_at "rq"))
local macro_rules | `(tactic| walk_at "rv") => `(tactic| first
  | (with_reducible refine rd_iItems ?_) | (with_reducible refine rd_sc2 ?_) | (with_reducible refine rd_lc2 ?_) | (with_reducible refine rd_iZipN ?_) | (with_reducible refine rd_iZipL ?_) | (with_reducible refine rd_revL ?_) | (with_reducible refine rd_lstZ ?_) | (with_reducible refine rd_iRev ?_)
  | (with_reducible refine rd_seq ?_) | (with_reducible refine rd_asg ?_) | (with_reducible refine rd_ret ?_) | (with_reducible refine rd_next ?_)
  | (with_reducible refine rd_drop ?_) | ((with_reducible refine rd_name (σ' := ?ss) ?hs ?_); (case hs => (dsimp only [List.set]; exact rfl)))
  | ((with_reducible refine rd_var (v := ?vv) ?hv ?_); (case hv => exact rfl)) | (with_reducible refine rd_c ?_) | (with_reducible refine rd_op ?_) | (with_reducible refine rd_un ?_)
  | (with_reducible refine rd_I0 ?_) | (with_reducible refine rd_U ?_) | (with_reducible refine rd_test ?_) | (with_reducible refine rd_B ?_) | (with_reducible refine rd_k ?_)
  | (with_reducible refine rd_not ?_) | (with_reducible refine rd_and ?_) | (with_reducible refine rd_or ?_)
  | (with_reducible refine rd_par ?_) | ((with_reducible refine rd_par2 (σ' := ?ss) ?hs ?_); (case hs => (dsimp only [List.set]; exact rfl)))
  | (with_reducible refine rd_gsub ?_) | (with_reducible refine rd_andV ?_) | (with_reducible refine rd_orV ?_) | (with_reducible refine rd_notV ?_)
  | (with_reducible refine rd_lc ?_) | (with_reducible refine rd_iTup ?_) | (with_reducible refine rd_iList ?_) | (with_reducible refine rd_iRng1 ?_) | (with_reducible refine rd_iRng2 ?_) | (with_reducible refine rd_iEnumT ?_) | (with_reducible refine rd_iEnum ?_) | (with_reducible refine rd_iZipM ?_) | (with_reducible refine rd_iEnumS ?_) | (with_reducible refine rd_iKeys ?_) | (with_reducible refine rd_din ?_) | (with_reducible refine rd_dnotin ?_)
  | (with_reducible refine rd_yes ?_) | (with_reducible refine rd_true ?_) | (with_reducible refine rd_false ?_) | (with_reducible refine rd_m1 ?_) | (with_reducible refine rd_isS ?_)
  | ((with_reducible refine rd_eq ?hs ?_); (case hs => exact rfl)) | ((with_reducible refine rd_ne ?hs ?_); (case hs => exact rfl))
  | (with_reducible refine rd_listRg ?_) | (with_reducible refine rd_rg2 ?_) | (with_reducible refine rd_rgk ?_)
  | (with_reducible refine rd_dnew ?_) | (with_reducible refine rd_ddel ?_) | (with_reducible refine rd_kw ?_) | (with_reducible refine rd_callS ?_) | (with_reducible refine rd_dc ?_) | (with_reducible refine rd_for ?_) | (with_reducible refine rd_tru ?_) | (with_reducible refine rd_truI ?_)
  | (with_reducible refine rd_nil ?_) | (with_reducible refine rd_cons ?_) | (with_reducible refine rd_call ?_) | (with_reducible refine rd_cb ?_)
  | (with_reducible refine rd_tup ?_) | (with_reducible refine rd_lst ?_) | (with_reducible refine rd_dget ?_) | (with_reducible refine rd_dput ?_) | (with_reducible refine rd_dget2 ?_) | (with_reducible refine rd_sl ?_)
  | (with_reducible refine rd_nopart ?_) | (with_reducible refine rd_part ?_) | (with_reducible refine rd_parti ?_) | (with_reducible refine rd_bm ?_) | (with_reducible refine rd_bm0 ?_)
  | (with_reducible refine rd_int ?_) | (with_reducible refine rd_intb ?_) | (with_reducible refine rd_abs ?_) | (with_reducible refine rd_min2 ?_) | (with_reducible refine rd_max2 ?_))
local macro_rules | `(tactic| walk_at "rvs") => `(tactic| repeat (walk_at "rv"))

/-- with other parts -/
def rem : Fm → List Fm → Fm
  | .letter z, _ => .letter z
  | .no _, [g] => .no g
  | .conn b _, gs => .conn b gs
  | .same _ _, [g, h] => .same g h
  | .quan b z _, [g] => .quan b z g
  | f, _ => f
/-- a formula near another -/
structure Nb (f f' : Fm) : Prop where
  bk : okf f' = true
  bp : dp f' ≤ dp f + 3
  bt : dt f' ≤ dt f + 4
  bn : nd f' ≤ 2 * nd f + 3
  bq : qd f' ≤ qd f
  bv : ∀ z ∈ fvl f', z ∈ fvl f ∨ z = "a"
theorem mem_dps : ∀ {fs : List Fm} {f : Fm}, f ∈ fs → dp f ≤ dps fs
  | a :: t, f, h => by
    rw [dps]
    rcases List.mem_cons.mp h with rfl | h
    · omega
    · have := mem_dps h
      omega
theorem mem_dts : ∀ {fs : List Fm} {f : Fm}, f ∈ fs → dt f ≤ dts fs
  | a :: t, f, h => by
    rw [dts]
    rcases List.mem_cons.mp h with rfl | h
    · omega
    · have := mem_dts h
      omega
theorem mem_qds : ∀ {fs : List Fm} {f : Fm}, f ∈ fs → qd f ≤ qds fs
  | a :: t, f, h => by
    rw [qds]
    rcases List.mem_cons.mp h with rfl | h
    · omega
    · have := mem_qds h
      omega
theorem nds_set : ∀ {fs : List Fm} {i : Nat} {g g' : Fm}, fs[i]? = some g → nds (fs.set i g') + nd g = nds fs + nd g' ∧ nd g ≤ nds fs
  | a :: t, 0, g, g', h => by
    obtain rfl : a = g := Option.some.inj h
    rw [List.set_cons_zero, nds, nds]
    omega
  | a :: t, i + 1, g, g', h => by
    have := nds_set (g' := g') (show t[i]? = some g from h)
    rw [List.set_cons_succ, nds, nds]
    omega
theorem dps_set {K : PySem.W.Frag} {H : Hp} {x' : V} {g' : Fm} (hg : Dp K H x' (dat g')) : ∀ {xs : List V} {fs : List Fm} {i : Nat}, DpAll K H xs (dats fs) → DpAll K H (xs.set i x') (dats (fs.set i g'))
  | [], [], i, h => by cases i <;> exact h
  | x :: xs, f :: fs, 0, h => by
    cases h with
    | cons h1 h2 => exact .cons hg h2
  | x :: xs, f :: fs, i + 1, h => by
    cases h with
    | cons h1 h2 => exact .cons h1 (dps_set hg h2)
theorem Nb.no {f : Fm} (h : okf f = true) : Nb f (.no f) := ⟨h, by rw [KA.dp]; omega, by rw [KA.dt]; omega, by rw [KA.nd]; omega, Nat.le_refl _, fun z hz => .inl (by rw [fvl] at hz; exact hz)⟩
theorem Nb.nono {f : Fm} (h : okf f = true) : Nb f (.no (.no f)) := ⟨h, by rw [KA.dp, KA.dp]; omega, by rw [KA.dt, KA.dt]; omega, by rw [KA.nd, KA.nd]; omega, Nat.le_refl _, fun z hz => .inl (by rw [fvl, fvl] at hz; exact hz)⟩
theorem Nb.both {f : Fm} (h : okf f = true) : Nb f (.conn true [f, f]) := by
  refine ⟨?_, ?_, ?_, ?_, ?_, fun z hz => .inl ?_⟩
  · show (okf f && (okf f && true)) = true
    rw [h] <;> rfl
  · show max (dp f) (max (dp f) 0) + 1 ≤ _
    omega
  · show max (dt f) (max (dt f) 0) + 2 ≤ _
    omega
  · show nd f + (nd f + 0) + 1 ≤ _
    omega
  · show max (qd f) (max (qd f) 0) ≤ _
    omega
  · have hz : z ∈ fvl f ++ (fvl f ++ []) := hz
    simpa using hz
theorem Nb.or {f : Fm} (h : okf f = true) : Nb f (.conn false [f, .letter "a"]) := by
  refine ⟨?_, ?_, ?_, ?_, ?_, fun z hz => ?_⟩
  · show (okf f && (okz "a" && true)) = true
    rw [h] <;> decide +kernel
  · show max (dp f) (max 1 0) + 1 ≤ _
    omega
  · show max (dt f) (max 1 0) + 2 ≤ _
    omega
  · show nd f + (1 + 0) + 1 ≤ _
    omega
  · show max (qd f) (max 0 0) ≤ _
    omega
  · have hz : z ∈ fvl f ++ ([("a" : Str)] ++ []) := hz
    simpa using hz
theorem Nb.turn {b : Bool} {fs : List Fm} (h : okf (.conn b fs) = true) : Nb (.conn b fs) (.conn (!b) fs) := ⟨h, by rw [KA.dp, KA.dp]; omega, by rw [KA.dt, KA.dt]; omega, by rw [KA.nd, KA.nd]; omega, Nat.le_refl _, fun z hz => .inl (by rw [fvl] at hz ⊢; exact hz)⟩
theorem Nb.kid {f g g' : Fm} {i : Nat} (h : okf f = true) (hi : (kids f)[i]? = some g) (n : Nb g g') : Nb f (rem f ((kids f).set i g')) := by
  obtain ⟨n1, n2, n3, n4, n5, n6⟩ := n
  cases f with
  | letter z => cases hi
  | no g0 =>
    match i, hi with
    | 0, hi =>
      obtain rfl : g0 = g := Option.some.inj hi
      show Nb (.no g0) (.no g')
      exact ⟨n1, by rw [KA.dp, KA.dp]; omega, by rw [KA.dt, KA.dt]; omega, by rw [KA.nd, KA.nd]; omega, n5, fun z hz => by rw [fvl] at hz ⊢; exact n6 z hz⟩
  | quan b y g0 =>
    match i, hi with
    | 0, hi =>
      obtain rfl : g0 = g := Option.some.inj hi
      show Nb (.quan b y g0) (.quan b y g')
      rw [okf, Bool.and_eq_true] at h
      refine ⟨by rw [okf, h.1, n1] <;> rfl, by rw [KA.dp, KA.dp]; omega, by rw [KA.dt, KA.dt]; omega, by rw [KA.nd, KA.nd]; omega, by rw [KA.qd, KA.qd]; omega, fun z hz => ?_⟩
      rw [fvl] at hz ⊢
      obtain ⟨h1, h2⟩ := List.mem_filter.mp hz
      exact (n6 z h1).imp (fun h3 => List.mem_filter.mpr ⟨h3, h2⟩) id
  | same g0 h0 =>
    rw [okf, Bool.and_eq_true] at h
    match i, hi with
    | 0, hi =>
      obtain rfl : g0 = g := Option.some.inj hi
      show Nb (.same g0 h0) (.same g' h0)
      refine ⟨by rw [okf, n1, h.2] <;> rfl, by rw [KA.dp, KA.dp]; omega, by rw [KA.dt, KA.dt]; omega, by rw [KA.nd, KA.nd]; omega, by rw [KA.qd, KA.qd]; omega, fun z hz => ?_⟩
      rw [fvl] at hz ⊢
      rcases List.mem_append.mp hz with hz | hz
      · exact (n6 z hz).imp (fun h3 => List.mem_append_left _ h3) id
      · exact .inl (List.mem_append_right _ hz)
    | 1, hi =>
      obtain rfl : h0 = g := Option.some.inj hi
      show Nb (.same g0 h0) (.same g0 g')
      refine ⟨by rw [okf, n1, h.1] <;> rfl, by rw [KA.dp, KA.dp]; omega, by rw [KA.dt, KA.dt]; omega, by rw [KA.nd, KA.nd]; omega, by rw [KA.qd, KA.qd]; omega, fun z hz => ?_⟩
      rw [fvl] at hz ⊢
      rcases List.mem_append.mp hz with hz | hz
      · exact .inl (List.mem_append_left _ hz)
      · exact (n6 z hz).imp (fun h3 => List.mem_append_right _ h3) id
  | conn b fs =>
    have hi : fs[i]? = some g := hi
    have hgm := List.mem_of_getElem? hi
    have hn := nds_set (g' := g') hi
    have m1 := mem_dps hgm
    have m2 := mem_dts hgm
    have m3 := mem_qds hgm
    have hm : ∀ k ∈ fs.set i g', k ∈ fs ∨ k = g' := fun k hk => List.mem_or_eq_of_mem_set hk
    show Nb (.conn b fs) (.conn b (fs.set i g'))
    refine ⟨?_, ?_, ?_, ?_, ?_, fun z hz => ?_⟩
    · show okfs _ = true
      exact okfs_of fun k hk => (hm k hk).elim (fun h1 => okfs_mem h h1) fun h1 => by rw [h1]; exact n1
    · rw [KA.dp, KA.dp]
      have := dps_le (fs := fs.set i g') (m := dps fs + 3) fun k hk => (hm k hk).elim (fun h1 => by have := mem_dps h1; omega) fun h1 => by rw [h1]; omega
      omega
    · rw [KA.dt, KA.dt]
      have := dts_le (fs := fs.set i g') (m := dts fs + 4) fun k hk => (hm k hk).elim (fun h1 => by have := mem_dts h1; omega) fun h1 => by rw [h1]; omega
      omega
    · rw [KA.nd, KA.nd]
      omega
    · rw [KA.qd, KA.qd]
      exact qds_le fun k hk => (hm k hk).elim (fun h1 => mem_qds h1) fun h1 => by rw [h1]; omega
    · rw [fvl, fvls_map] at hz ⊢
      obtain ⟨k, hk, hz2⟩ := List.mem_flatMap.mp hz
      rcases hm k hk with h1 | rfl
      · exact .inl (List.mem_flatMap.mpr ⟨k, h1, hz2⟩)
      · exact (n6 z hz2).imp (fun h3 => List.mem_flatMap.mpr ⟨g, hgm, h3⟩) id
section
variable {P : Program} {w : World} {K : PySem.W.Frag} {mg : Str → Option Value} {base : Heap}
def spRem (K : PySem.W.Frag) : Sp := fun vs H Q _ => ∃ (v : V) (f : Fm) (c : Addr) (xs : List V) (gs : List Fm), vs = [v, .ref c] ∧ Dp K H v (dat f) ∧ SqT K H c xs ∧ DpAll K H xs (dats gs) ∧ gs.length = (kids f).length ∧ isL f = false ∧
  ∀ (x : V) (H' : Hp), Evl.Ex H H' → Dp K H' x (dat (rem f gs)) → Q x H'
theorem ok_remade {f : Addr} {fd : FuncData} (F : Fun K "_law_remade" "_law_remade" s_law_remade f fd) (T : Bl mg) : FnOk P w K mg base CX0 1 f fd ["f", "parts"] (spRem K) := by
  refine F.ok sc_law_remade (fun vs H Q E h => ?_) (fun cdv A outer s H vs Q E hr h => ?_)
  · obtain ⟨v, f, c, xs, gs, rfl, _⟩ := h
    rfl
  · obtain ⟨v, f, c, xs, gs, rfl, hv, sc, hx, hl, hL, q⟩ := h
    refine ⟨_, (pss_cons (ps_if (pt_cmpR op_eq (pe_ix (ik_tup (K := K) rfl) (pv 0) pe_int (fun _ _ => rfl)) pe_str (nomark _)) (pss_one (ps_ret (pv 0))) pss_nil)
 (pss_one (ps_ret (pe_ifExp (pt_cmpR (ok_in (K := K) rfl) (pe_ix (ik_tup (K := K) rfl) (pv 0) pe_int (fun _ _ => rfl)) (pe_tup (pa_cons pe_str (pa_cons pe_str pa_nil))) (by rfl)) (pe_tup (pa_cons (pe_ix (ik_tup (K := K) rfl) (pv 0) pe_int (fun _ _ => rfl)) (pa_cons (pv 1) pa_nil))) (pe_op (ok_catT (K := K) rfl) (pe_slice (sk_tup (K := K) rfl) (pv 0) po_none (po_some (pe_op op_sub (pe_callB (c_len (K := K) rfl) (by rfl) T.len (by decide +kernel) (pa_cons (pv 0) pa_nil)) (pe_callB (c_len (K := K) rfl) (by rfl) T.len (by decide +kernel) (pa_cons (pv 1) pa_nil))))) (pv 1)))))), ?_⟩
    refine rd_start (σ' := [some v, some (.ref c)]) rfl ?_
    cases f with
    | letter z => cases hL
    | no g =>
      obtain ⟨a, x, rfl, sa, hx0⟩ := dp_no hv
      obtain ⟨g', rfl⟩ : ∃ g', gs = [g'] := by
        match gs, hl with
        | [g'], _ => exact ⟨g', rfl⟩
      obtain ⟨x', rfl, hx'⟩ : ∃ x', xs = [x'] ∧ Dp K H x' (dat g') := by
        cases hx with
        | cons h t =>
          cases t
          exact ⟨_, rfl, h⟩
      walk_at "rds"
      refine rd_ixT sa rfl ?_
      walk_at "rds"
      refine rd_ite (fun c => absurd c (by decide)) (fun _ => ?_)
      walk_at "rds"
      refine rd_ixT sa rfl ?_
      walk_at "rds"
      refine ⟨(by show 2 ≤ sizeLine; decide), fun t ht => ?_⟩
      have e1 := Evl.Ex.new (o := .tup [V.str "and", .str "or"]) ht
      refine rd_inS (zs := ["and", "or"]) (SqT.of upd_same) ?_
      refine rd_bno (by decide) ?_
      walk_at "rds"
      refine rd_lenT (Evl.ex_t e1 sa) ?_
      walk_at "rds"
      refine rd_lenT (Evl.ex_t e1 sc) ?_
      walk_at "rds"
      refine rd_slT (Evl.ex_t e1 sa) fun p H1 e2 s1 => ?_
      walk_at "rds"
      have s1 : SqT K H1 p [.str "not"] := s1
      have e12 := e1.trans e2
      refine rd_catT s1 (Evl.ex_t e12 sc) (by show 2 ≤ sizeLine; decide) fun p3 H3 e3 s3 => ?_
      have e13 := e12.trans e3
      exact q _ _ e13 (mk_no s3 (dpF_ex e13 hx'))
    | quan b z g =>
      obtain ⟨a, x, rfl, sa, hx0⟩ := dp_quan hv
      obtain ⟨g', rfl⟩ : ∃ g', gs = [g'] := by
        match gs, hl with
        | [g'], _ => exact ⟨g', rfl⟩
      obtain ⟨x', rfl, hx'⟩ : ∃ x', xs = [x'] ∧ Dp K H x' (dat g') := by
        cases hx with
        | cons h t =>
          cases t
          exact ⟨_, rfl, h⟩
      walk_at "rds"
      refine rd_ixT sa rfl ?_
      walk_at "rds"
      refine rd_ite (fun c => absurd c (by cases b <;> decide)) (fun _ => ?_)
      walk_at "rds"
      refine rd_ixT sa rfl ?_
      walk_at "rds"
      refine ⟨(by show 2 ≤ sizeLine; decide), fun t ht => ?_⟩
      have e1 := Evl.Ex.new (o := .tup [V.str "and", .str "or"]) ht
      refine rd_inS (zs := ["and", "or"]) (SqT.of upd_same) ?_
      refine rd_bno (by cases b <;> decide) ?_
      walk_at "rds"
      refine rd_lenT (Evl.ex_t e1 sa) ?_
      walk_at "rds"
      refine rd_lenT (Evl.ex_t e1 sc) ?_
      walk_at "rds"
      refine rd_slT (Evl.ex_t e1 sa) fun p H1 e2 s1 => ?_
      walk_at "rds"
      have s1 : SqT K H1 p [.str (qw b), .str z] := s1
      have e12 := e1.trans e2
      refine rd_catT s1 (Evl.ex_t e12 sc) (by show 3 ≤ sizeLine; decide) fun p3 H3 e3 s3 => ?_
      have e13 := e12.trans e3
      exact q _ _ e13 (mk_quan (b := b) s3 (dpF_ex e13 hx'))
    | same g h =>
      obtain ⟨a, x, y, rfl, sa, hx0, hy0⟩ := dp_same hv
      obtain ⟨g', h', rfl⟩ : ∃ g' h', gs = [g', h'] := by
        match gs, hl with
        | [g', h'], _ => exact ⟨g', h', rfl⟩
      obtain ⟨x', y', rfl, hx', hy'⟩ : ∃ x' y', xs = [x', y'] ∧ Dp K H x' (dat g') ∧ Dp K H y' (dat h') := by
        cases hx with
        | cons h t =>
          cases t with
          | cons h2 t2 =>
            cases t2
            exact ⟨_, _, rfl, h, h2⟩
      walk_at "rds"
      refine rd_ixT sa rfl ?_
      walk_at "rds"
      refine rd_ite (fun c => absurd c (by decide)) (fun _ => ?_)
      walk_at "rds"
      refine rd_ixT sa rfl ?_
      walk_at "rds"
      refine ⟨(by show 2 ≤ sizeLine; decide), fun t ht => ?_⟩
      have e1 := Evl.Ex.new (o := .tup [V.str "and", .str "or"]) ht
      refine rd_inS (zs := ["and", "or"]) (SqT.of upd_same) ?_
      refine rd_bno (by decide) ?_
      walk_at "rds"
      refine rd_lenT (Evl.ex_t e1 sa) ?_
      walk_at "rds"
      refine rd_lenT (Evl.ex_t e1 sc) ?_
      walk_at "rds"
      refine rd_slT (Evl.ex_t e1 sa) fun p H1 e2 s1 => ?_
      walk_at "rds"
      have s1 : SqT K H1 p [.str "same"] := s1
      have e12 := e1.trans e2
      refine rd_catT s1 (Evl.ex_t e12 sc) (by show 3 ≤ sizeLine; decide) fun p3 H3 e3 s3 => ?_
      have e13 := e12.trans e3
      exact q _ _ e13 (mk_same s3 (dpF_ex e13 hx') (dpF_ex e13 hy'))
    | conn b fs =>
      obtain ⟨a, c0, xs0, rfl, sa, sc0, hx0⟩ := dp_conn hv
      walk_at "rds"
      refine rd_ixT sa rfl ?_
      walk_at "rds"
      refine rd_ite (fun c => absurd c (by cases b <;> decide)) (fun _ => ?_)
      walk_at "rds"
      refine rd_ixT sa rfl ?_
      walk_at "rds"
      refine ⟨(by show 2 ≤ sizeLine; decide), fun t ht => ?_⟩
      have e1 := Evl.Ex.new (o := .tup [V.str "and", .str "or"]) ht
      refine rd_inS (zs := ["and", "or"]) (SqT.of upd_same) ?_
      refine rd_byes (by cases b <;> decide) ?_
      walk_at "rds"
      refine rd_ixT (Evl.ex_t e1 sa) rfl ?_
      walk_at "rds"
      refine ⟨(by show 2 ≤ sizeLine; decide), fun t2 ht2 => ?_⟩
      have e2 := Evl.Ex.new (o := .tup [V.str (cw b), .ref c]) ht2
      have e12 := e1.trans e2
      exact q _ _ e12 (mk_conn (b := b) (Evl.ex_t e12 sc) (dpsF_ex e12 hx) (SqT.of upd_same))
def spNear (K : PySem.W.Frag) (m : Nat) : Sp := fun vs H Q _ => ∃ (d l : Addr) (v : V) (f : Fm), vs = [.ref d, v] ∧ DeckT d l H ∧ Dp K H v (dat f) ∧ dp f ≤ m ∧ okf f = true ∧ nd f ≤ 500 ∧
  ∀ (x : V) (f' : Fm) (H' : Hp), Gt d l H H' → Dp K H' x (dat f') → Nb f f' → Q x H'
theorem ok_near1 {f fP fT fK fR : Addr} {fd fdP fdT fdK fdR : FuncData} (F : Fun K "_law_near" "_law_near" s_law_near f fd) (T : Bl mg) {m k : Nat} (hk1 : 1 ≤ k) (hk2 : 2 ≤ k)
    (G_law_take : FnOk P w K mg base CX0 1 fT fdT ["bag", "many"] spTake) (C_law_take : Callee K mg "_law_take" fT fdT ["bag", "many"])
    (G_law_pick : FnOk P w K mg base CX0 2 fK fdK ["bag", "some"] spPick) (C_law_pick : Callee K mg "_law_pick" fK fdK ["bag", "some"])
    (G_law_parts_of : FnOk P w K mg base CX0 1 fP fdP ["f"] (spPartsOf K)) (C_law_parts_of : Callee K mg "_law_parts_of" fP fdP ["f"])
    (G_law_remade : FnOk P w K mg base CX0 1 fR fdR ["f", "parts"] (spRem K)) (C_law_remade : Callee K mg "_law_remade" fR fdR ["f", "parts"])
    (G_law_near : FnOk P w K mg base CX0 k f fd ["bag", "f"] (spNear K m)) (C_law_near : Callee K mg "_law_near" f fd ["bag", "f"]) :
    FnOk P w K mg base CX0 (k + 1) f fd ["bag", "f"] (spNear K (m + 1)) := by
  refine F.ok sc_law_near (fun vs H Q E h => ?_) (fun cdv A outer s H vs Q E hr h => ?_)
  · obtain ⟨d, l, v, f, rfl, _⟩ := h
    rfl
  · obtain ⟨d, l, v, f, rfl, hD, hv, hm, hok, hn, q⟩ := h
    refine ⟨_, (pss_cons (ps_set (i := 2) sc_law_near.nd rfl (Or.inl rfl) (pe_callTy (c_list (K := K) rfl) (by rfl) T.list (by decide +kernel) (pa_cons (pe_call G_law_parts_of (hr.mono hk1) (by rfl) C_law_parts_of.m C_law_parts_of.k C_law_parts_of.b .nil pass0 (pa_cons (pv 1) pa_nil)) pa_nil)))
 (pss_cons (ps_if (PW.pt (pw_and (pt_cmpR (op_ne0 (K := K) rfl hr.units) (pv 2) (pe_lst pa_nil) (nomark _)) (pw_and1 (pt_cmpR op_gt (pe_call G_law_take (hr.mono hk1) (by rfl) C_law_take.m C_law_take.k C_law_take.b .nil pass0 (pa_cons (pv 0) (pa_cons pe_int pa_nil))) pe_int (nomark _))))) (pss_cons (ps_set (i := 3) sc_law_near.nd rfl (Or.inl rfl) (pe_call G_law_take (hr.mono hk1) (by rfl) C_law_take.m C_law_take.k C_law_take.b .nil pass0 (pa_cons (pv 0) (pa_cons (pe_callB (c_len (K := K) rfl) (by rfl) T.len (by decide +kernel) (pa_cons (pv 2) pa_nil)) pa_nil))))
 (pss_cons (ps_asg (pe_call G_law_near hr (by rfl) C_law_near.m C_law_near.k C_law_near.b .nil pass0 (pa_cons (pv 0) (pa_cons (pe_ix (ik_list (K := K) rfl) (pv 2) (pv 3) (fun _ _ => rfl)) pa_nil))) (pg_sub (pv 2) (pv 3) set_list))
 (pss_one (ps_ret (pe_call G_law_remade (hr.mono hk1) (by rfl) C_law_remade.m C_law_remade.k C_law_remade.b .nil pass0 (pa_cons (pv 1) (pa_cons (pe_callTy (c_tuple (K := K) rfl) (by rfl) T.tuple (by decide +kernel) (pa_cons (pv 2) pa_nil)) pa_nil))))))) pss_nil)
 (pss_cons (ps_if (pt_cmpR (ok_in (K := K) rfl) (pe_ix (ik_tup (K := K) rfl) (pv 1) pe_int (fun _ _ => rfl)) (pe_tup (pa_cons pe_str (pa_cons pe_str pa_nil))) (by rfl)) (pss_one (ps_ret (pe_tup (pa_cons (pe_ifExp (pt_cmpR op_eq (pe_ix (ik_tup (K := K) rfl) (pv 1) pe_int (fun _ _ => rfl)) pe_str (nomark _)) pe_str pe_str) (pa_cons (pe_ix (ik_tup (K := K) rfl) (pv 1) pe_int (fun _ _ => rfl)) pa_nil))))) pss_nil)
 (pss_one (ps_ret (pe_call G_law_pick (hr.mono hk2) (by rfl) C_law_pick.m C_law_pick.k C_law_pick.b .nil pass0 (pa_cons (pv 0) (pa_cons (pe_lst (pa_cons (pe_tup (pa_cons pe_str (pa_cons (pv 1) pa_nil))) (pa_cons (pe_tup (pa_cons pe_str (pa_cons (pe_tup (pa_cons pe_str (pa_cons (pv 1) pa_nil))) pa_nil))) (pa_cons (pe_tup (pa_cons pe_str (pa_cons (pe_tup (pa_cons (pv 1) (pa_cons (pv 1) pa_nil))) pa_nil))) (pa_cons (pe_tup (pa_cons pe_str (pa_cons (pe_tup (pa_cons (pv 1) (pa_cons (pe_tup (pa_cons pe_str (pa_cons pe_str pa_nil))) pa_nil))) pa_nil))) pa_nil))))) pa_nil)))))))), ?_⟩
    refine rd_start (σ' := [some (.ref d), some v, none, none]) rfl ?_
    walk_at "rvs"
    refine ⟨v, f, rfl, hv, fun c xs H1 e1 sc hx => ?_⟩
    walk_at "rvs"
    refine rd_listT sc fun P0 hP => ?_
    have lx : xs.length = (kids f).length := by rw [dps_len hx, dats_map, List.length_map]
    have hlk : (kids f).length ≤ nd f := by
      cases f with
      | conn b fs => have := nds_len fs; rw [KA.nd]; show fs.length ≤ _; omega
      | letter z => exact Nat.zero_le _
      | no g => rw [KA.nd]; show 1 ≤ _; omega
      | quan b z g => rw [KA.nd]; show 1 ≤ _; omega
      | same g h => rw [KA.nd]; have := nd_pos g; have := nd_pos h; show 2 ≤ _; omega
    have e2 := Evl.Ex.new (o := .lst xs) hP
    have e12 := e1.trans e2
    have hPn := Evl.fresh_back e1 hP
    have oP := (Gt.ex e1 hD).dk.off hP
    have g2 := Gt.ex e12 hD
    have hP2 : (upd H1 P0 (.lst xs)) P0 = some (.lst xs) := upd_same
    have hv2 := dpF_ex e12 hv
    have hx2 := dpsF_ex e2 hx
    generalize (upd H1 P0 (.lst xs)) = H2 at g2 hP2 hv2 hx2 ⊢
    walk_at "rvs"
    refine rd_ifI (fun σ' H' => σ' = [some (.ref d), some v, some (.ref P0), none] ∧ Gt d l H H' ∧ Dp K H' v (dat f)) (fun N kN => ?_) fun σ' H3 hI => ?_
    · refine rd_if ?_
      walk_at "rvs"
      refine ⟨Nat.zero_le _, fun pe hpe => ?_⟩
      have ge := Gt.new (o := .lst []) g2.dk hpe
      have ee := Evl.Ex.new (o := .lst []) hpe
      refine rd_ne0 (SqL.of (ee _ _ hP2)) (SqL.of upd_same) ?_
      have hPe := ee _ _ hP2
      have hve := dpF_ex ee hv2
      have hxe := dpsF_ex ee hx2
      generalize (upd H2 pe (.lst [])) = He at ge hPe hve hxe ⊢
      refine ⟨_, rfl, ?_⟩
      by_cases hem : xs.isEmpty = true
      · rw [hem]
        rw [if_neg (by decide)]
        walk_at "rvs"
        exact kN _ _ ⟨rfl, g2.trans ge, hve⟩
      · have hem : xs.isEmpty = false := by
          cases e : xs.isEmpty with
          | true => exact absurd e hem
          | false => rfl
        have hpos : 1 ≤ xs.length := by
          cases xs with
          | nil => cases hem
          | cons a t => exact Nat.succ_pos _
        rw [hem]
        refine (if_pos rfl).mpr ?_
        walk_at "rvs"
        refine ⟨d, l, 4, rfl, ge.dk, by decide, by decide, fun r H4 g4 _ _ => ?_⟩
        have hP4 := g4.kp _ _ oP.1 oP.2 hPe
        have hv4 := dpF_gt g4 ge.dk hve
        have hx4 := dpsF_gt g4 ge.dk hxe
        have G4 := (g2.trans ge).trans g4
        walk_at "rvs"
        refine rd_ite (fun _ => ?_) fun _ => ?_
        · walk_at "rvs"
          refine rd_lenL (SqL.of hP4) ?_
          refine ⟨d, l, (xs.length : Int), rfl, G4.dk, by omega, by omega, fun r2 H5 g5 h0 hr => ?_⟩
          obtain ⟨j, rfl, hj⟩ : ∃ j : Nat, r2 = (j : Int) ∧ j < xs.length := ⟨r2.toNat, by omega, by omega⟩
          have hP5 := g5.kp _ _ oP.1 oP.2 hP4
          have hv5 := dpF_gt g5 G4.dk hv4
          have hx5 := dpsF_gt g5 G4.dk hx4
          have G5 := G4.trans g5
          have hy := List.getElem?_eq_getElem hj
          generalize xs[j] = y at hy
          obtain ⟨g, hg, hdg⟩ := dps_get hx5 hy
          have hgm := List.mem_of_getElem? hg
          have hL : isL f = false := by
            cases f with
            | letter z => cases hgm
            | no g => rfl
            | conn b fs => rfl
            | same g h => rfl
            | quan b z g => rfl
          walk_at "rvs"
          refine rd_ixL (x := y) (SqL.of hP5) (atI_nat hy) ?_
          walk_at "rvs"
          refine ⟨d, l, y, g, rfl, G5.dk, hdg, kids_dp hm hgm, kids_okf hok hgm, by have := kids_nd hgm; omega, fun x' g' H6 g6 dx' nb => ?_⟩
          have hP6 := g6.kp _ _ oP.1 oP.2 hP5
          have hv6 := dpF_gt g6 G5.dk hv5
          have hx6 := dpsF_gt g6 G5.dk hx5
          have G6 := G5.trans g6
          walk_at "rvs"
          refine rd_setl hP6 (ixn_nat rfl hj) ?_
          have G7 := G6.mut (o := .lst (xs.set j x')) hD hPn
          have hv7 : Dp K (upd H6 P0 (.lst (xs.set j x'))) v (dat f) := dp_mono (fun _ _ t => tup_upd hP6 lst_not t) _ _ (noL_dat f) hv6
          have hx7 : DpAll K (upd H6 P0 (.lst (xs.set j x'))) (xs.set j x') (dats ((kids f).set j g')) := dps_upd hP6 (dps_set dx' hx6)
          have hP7 : (upd H6 P0 (.lst (xs.set j x'))) P0 = some (.lst (xs.set j x')) := upd_same
          generalize (upd H6 P0 (.lst (xs.set j x'))) = H7 at G7 hv7 hx7 hP7 ⊢
          walk_at "rvs"
          refine ⟨P0, _, rfl, .inl ⟨SqL.of hP7, fun t ht => ?_⟩⟩
          have e8 := Evl.Ex.new (o := .tup (xs.set j x')) ht
          walk_at "rvs"
          refine ⟨v, f, t, _, (kids f).set j g', rfl, dpF_ex e8 hv7, SqT.of upd_same, dpsF_ex e8 hx7, by rw [List.length_set], hL, fun x H9 e9 dx => ?_⟩
          exact q x _ _ (G7.trans (Gt.ex (e8.trans e9) G7.dk)) dx (.kid hok hg nb)
        · walk_at "rvs"
          exact kN _ _ ⟨rfl, G4, hv4⟩
    obtain ⟨rfl, g3, hv3⟩ := hI
    walk_at "rds"
    obtain ⟨a, x, t, rfl, sa⟩ := dp_word hv3
    refine rd_ixT (x := .str (wd f)) sa (atI_nat (j := 0) rfl) ?_
    walk_at "rds"
    refine ⟨(by show 2 ≤ sizeLine; decide), fun p hp => ?_⟩
    have e4 := Evl.Ex.new (o := .tup [V.str "and", .str "or"]) hp
    refine rd_inS (zs := ["and", "or"]) (SqT.of upd_same) ?_
    by_cases hcn : ∃ b fs, f = .conn b fs
    · obtain ⟨b, fs, rfl⟩ := hcn
      obtain ⟨a2, c2, xs2, e2, sa2, sc2, hx9⟩ := dp_conn hv3
      cases e2
      refine rd_byes (by cases b <;> (simp only [wd, cw]; decide)) ?_
      walk_at "rds"
      refine rd_ixT (Evl.ex_t e4 sa2) rfl ?_
      walk_at "rds"
      cases b with
      | true =>
        refine rd_ite (fun _ => ?_) (fun c => absurd rfl c)
        walk_at "rds"
        refine rd_ixT (Evl.ex_t e4 sa2) rfl ?_
        walk_at "rds"
        refine ⟨(by show 2 ≤ sizeLine; decide), fun t2 ht2 => ?_⟩
        have e5 := Evl.Ex.new (o := .tup [V.str (cw false), .ref c2]) ht2
        exact q _ (.conn false fs) _ (g3.trans (Gt.ex (e4.trans e5) g3.dk)) (mk_conn (b := false) (Evl.ex_t (e4.trans e5) sc2) (dpsF_ex (e4.trans e5) hx9) (SqT.of upd_same)) (.turn hok)
      | false =>
        refine rd_ite (fun c => absurd c (by decide)) (fun _ => ?_)
        walk_at "rds"
        refine rd_ixT (Evl.ex_t e4 sa2) rfl ?_
        walk_at "rds"
        refine ⟨(by show 2 ≤ sizeLine; decide), fun t2 ht2 => ?_⟩
        have e5 := Evl.Ex.new (o := .tup [V.str (cw true), .ref c2]) ht2
        exact q _ (.conn true fs) _ (g3.trans (Gt.ex (e4.trans e5) g3.dk)) (mk_conn (b := true) (Evl.ex_t (e4.trans e5) sc2) (dpsF_ex (e4.trans e5) hx9) (SqT.of upd_same)) (.turn hok)
    refine rd_bno (by
      cases f with
      | conn b fs => exact absurd ⟨b, fs, rfl⟩ hcn
      | letter z => simp only [wd]; decide
      | no g => simp only [wd]; decide
      | same g h => simp only [wd]; decide
      | quan b z g => cases b <;> (simp only [wd, qw]; decide)) ?_
    have hv3 := dpF_ex e4 hv3
    have g3 := g3.trans (Gt.ex e4 g3.dk)
    generalize (upd H3 p (.tup [V.str "and", .str "or"])) = H3b at hv3 g3 ⊢
    walk_at "rvs"
    refine ⟨(by show 2 ≤ sizeLine; decide), fun p1 hp1 => ?_⟩
    have E1 := Evl.Ex.new (o := .tup [V.str "not", V.ref a]) hp1
    have f1 : Dp K _ (.ref p1) (dat (.no f)) := mk_no (SqT.of upd_same) (dpF_ex E1 hv3)
    walk_at "rvs"
    refine ⟨(by show 2 ≤ sizeLine; decide), fun p2 hp2 => ?_⟩
    have E2 := Evl.Ex.new (o := .tup [V.str "not", V.ref a]) hp2
    have f2 : Dp K _ (.ref p2) (dat (.no f)) := mk_no (SqT.of upd_same) (dpF_ex (E1.trans E2) hv3)
    walk_at "rvs"
    refine ⟨(by show 2 ≤ sizeLine; decide), fun p3 hp3 => ?_⟩
    have E3 := Evl.Ex.new (o := .tup [V.str "not", V.ref p2]) hp3
    have f3 : Dp K _ (.ref p3) (dat (.no (.no f))) := mk_no (SqT.of upd_same) (dpF_ex E3 f2)
    walk_at "rvs"
    refine ⟨(by show 2 ≤ sizeLine; decide), fun p4 hp4 => ?_⟩
    have E4 := Evl.Ex.new (o := .tup [V.ref a, V.ref a]) hp4
    walk_at "rvs"
    refine ⟨(by show 2 ≤ sizeLine; decide), fun p5 hp5 => ?_⟩
    have E5 := Evl.Ex.new (o := .tup [V.str "and", .ref p4]) hp5
    have f5 : Dp K _ (.ref p5) (dat (.conn true [f, f])) := mk_conn (b := true) (Evl.ex_t E5 (SqT.of upd_same)) (.cons (dpF_ex ((((E1.trans E2).trans E3).trans E4).trans E5) hv3) (.cons (dpF_ex ((((E1.trans E2).trans E3).trans E4).trans E5) hv3) .nil)) (SqT.of upd_same)
    walk_at "rvs"
    refine ⟨(by show 2 ≤ sizeLine; decide), fun p6 hp6 => ?_⟩
    have E6 := Evl.Ex.new (o := .tup [V.str "letter", .str "a"]) hp6
    have f6 := letter_new (K := K) (z := "a") hp6
    walk_at "rvs"
    refine ⟨(by show 2 ≤ sizeLine; decide), fun p7 hp7 => ?_⟩
    have E7 := Evl.Ex.new (o := .tup [V.ref a, V.ref p6]) hp7
    walk_at "rvs"
    refine ⟨(by show 2 ≤ sizeLine; decide), fun p8 hp8 => ?_⟩
    have E8 := Evl.Ex.new (o := .tup [V.str "or", .ref p7]) hp8
    have f8 : Dp K _ (.ref p8) (dat (.conn false [f, (.letter "a")])) := mk_conn (b := false) (Evl.ex_t E8 (SqT.of upd_same)) (.cons (dpF_ex (((((((E1.trans E2).trans E3).trans E4).trans E5).trans E6).trans E7).trans E8) hv3) (.cons (dpF_ex (E7.trans E8) f6) .nil)) (SqT.of upd_same)
    walk_at "rvs"
    refine ⟨(by show 4 ≤ sizeLine; decide), fun p9 hp9 => ?_⟩
    have E9 := Evl.Ex.new (o := .lst [V.ref p1, V.ref p3, V.ref p5, V.ref p8]) hp9
    have k1 := (dpF_ex (((((((E2.trans E3).trans E4).trans E5).trans E6).trans E7).trans E8).trans E9) f1)
    have k2 := (dpF_ex (((((E4.trans E5).trans E6).trans E7).trans E8).trans E9) f3)
    have k3 := (dpF_ex (((E6.trans E7).trans E8).trans E9) f5)
    have k4 := (dpF_ex E9 f8)
    have hall : ∀ x ∈ [V.ref p1, V.ref p3, V.ref p5, V.ref p8], ∃ g : Fm, Dp K _ x (dat g) ∧ Nb f g := fun x hx => by
      simp only [List.mem_cons, List.not_mem_nil, or_false] at hx
      rcases hx with rfl | rfl | rfl | rfl
      · exact ⟨_, k1, .no hok⟩
      · exact ⟨_, k2, .nono hok⟩
      · exact ⟨_, k3, .both hok⟩
      · exact ⟨_, k4, .or hok⟩
    have gL := Gt.ex ((((((((E1.trans E2).trans E3).trans E4).trans E5).trans E6).trans E7).trans E8).trans E9) g3.dk
    have oL := (Gt.ex (((((((E1.trans E2).trans E3).trans E4).trans E5).trans E6).trans E7).trans E8) g3.dk).dk.off hp9
    walk_at "rvs"
    refine ⟨d, l, p9, _, rfl, gL.dk, upd_same, oL.1, oL.2, by show 1 ≤ 4; decide, by show 4 ≤ 1000; decide, fun y H9 g9 hy => ?_⟩
    obtain ⟨g, dg, nb⟩ := hall y hy
    exact q y g _ ((g3.trans gL).trans g9) (dpF_gt g9 gL.dk dg) nb
def loneB : List Str := ["b", "a1", "c", "a10", "e", "f", "g"]
def LitB (g : Fm) : Prop := okf g = true ∧ dp g ≤ 2 ∧ dt g ≤ 2 ∧ nd g ≤ 2 ∧ qd g = 0 ∧ ∀ z ∈ fvl g, z ∈ loneB
instance (f : Fm) : Decidable (LitB f) := by unfold LitB; infer_instance
theorem litB_ok : ∀ z ∈ loneB, LitB (.letter z) ∧ LitB (.no (.letter z)) := by decide +kernel
def spLone (K : PySem.W.Frag) : Sp := fun vs H Q _ => ∃ (d l : Addr) (n : Nat), vs = [.ref d, .int (n : Int)] ∧ DeckT d l H ∧ 1 ≤ n ∧ n ≤ 6 ∧
  ∀ (t : Addr) (v u : V) (f : Fm) (H' : Hp), Gt d l H H' → SqT K H' t [v, u] → Dp K H' v (dat f) → Dp K H' u (dat (.conn false [])) → okf f = true → dp f ≤ 5 → dt f ≤ 5 → nd f ≤ 50 → qd f = 0 → (∀ z ∈ fvl f, z ∈ loneB) → Q (.ref t) H'
theorem ok_lone {f fK : Addr} {fd fdK : FuncData} (F : Fun K "_law_lone" "_law_lone" s_law_lone f fd) (T : Bl mg)
    (G_law_pick : FnOk P w K mg base CX0 2 fK fdK ["bag", "some"] spPick) (C_law_pick : Callee K mg "_law_pick" fK fdK ["bag", "some"]) :
    FnOk P w K mg base CX0 3 f fd ["bag", "many"] (spLone K) := by
  refine F.ok sc_law_lone (fun vs H Q E h => ?_) (fun cdv A outer s H vs Q E hr h => ?_)
  · obtain ⟨d, l, n, rfl, _⟩ := h
    rfl
  · obtain ⟨d, l, n, rfl, hD, h1, h6, q⟩ := h
    refine ⟨_, (pss_cons (ps_par (i := 2) (j := 3) rfl sc_law_lone.nd rfl rfl (by decide) rfl rfl (pa_cons (pe_slice (sk_list (K := K) rfl) (pe_lst (pa_cons pe_str (pa_cons pe_str (pa_cons pe_str (pa_cons pe_str (pa_cons pe_str (pa_cons pe_str (pa_cons pe_str pa_nil)))))))) po_none (po_some (pv 1))) (pa_cons (pe_lst pa_nil) pa_nil)) (by rfl))
 (pss_cons (ps_for PassesOwn.never rfl (ik_listI (K := K) rfl (pv 2)) (pg_name (i := 4) sc_law_lone.nd rfl (Or.inl rfl)) (pss_one (ps_expr (pe_bm PySem.F.plainAttrs_list PySem.F.slot_list_append PySem.F.type_list_append mt_append (pv 3) (pa_cons (pe_call G_law_pick (hr.mono (by decide)) (by rfl) C_law_pick.m C_law_pick.k C_law_pick.b .nil pass0 (pa_cons (pv 0) (pa_cons (pe_lst (pa_cons (pe_tup (pa_cons pe_str (pa_cons (pv 4) pa_nil))) (pa_cons (pe_tup (pa_cons pe_str (pa_cons (pe_tup (pa_cons pe_str (pa_cons (pv 4) pa_nil))) pa_nil))) pa_nil))) pa_nil))) pa_nil)))))
 (pss_cons (ps_set (i := 5) sc_law_lone.nd rfl (Or.inl rfl) (pe_ifExp (pt_cmpR op_gt (pv 1) pe_int (nomark _)) (pe_tup (pa_cons pe_str (pa_cons (pe_callTy (c_tuple (K := K) rfl) (by rfl) T.tuple (by decide +kernel) (pa_cons (pv 3) pa_nil)) pa_nil))) (pe_ix (ik_list (K := K) rfl) (pv 3) pe_int (fun _ _ => rfl))))
 (pss_one (ps_ret (pe_tup (pa_cons (pv 5) (pa_cons (pe_tup (pa_cons pe_str (pa_cons (pe_tup pa_nil) pa_nil))) pa_nil)))))))), ?_⟩
    refine rd_start (σ' := [some (.ref d), some (.int (n : Int)), none, none, none, none]) rfl ?_
    walk_at "rvs"
    refine ⟨(by show 7 ≤ sizeLine; decide), fun p0 hp0 => ?_⟩
    have e0 := Evl.Ex.new (o := .lst [V.str "b", .str "a1", .str "c", .str "a10", .str "e", .str "f", .str "g"]) hp0
    walk_at "rvs"
    refine rd_slL (xs := loneB.map V.str) (SqL.of upd_same) fun N hN => ?_
    have e1 := Evl.Ex.new (o := .lst (cutV (loneB.map V.str) none (some (n : Int)))) hN
    have hcut : cutV (loneB.map V.str) none (some (n : Int)) = (loneB.take n).map V.str := by
      obtain rfl | rfl | rfl | rfl | rfl | rfl : n = 1 ∨ n = 2 ∨ n = 3 ∨ n = 4 ∨ n = 5 ∨ n = 6 := by omega
      all_goals rfl
    rw [hcut] at e1 ⊢
    have hN1 : (upd (upd H p0 (.lst [V.str "b", .str "a1", .str "c", .str "a10", .str "e", .str "f", .str "g"])) N (.lst ((loneB.take n).map V.str))) N = some (.lst ((loneB.take n).map V.str)) := upd_same
    generalize (upd (upd H p0 (.lst [V.str "b", .str "a1", .str "c", .str "a10", .str "e", .str "f", .str "g"])) N (.lst ((loneB.take n).map V.str))) = H1 at e1 hN1 ⊢
    have e01 := e0.trans e1
    walk_at "rvs"
    refine ⟨Nat.zero_le _, fun L hL => ?_⟩
    have e2 := Evl.Ex.new (o := .lst []) hL
    have hL2 : (upd H1 L (.lst [])) L = some (.lst []) := upd_same
    have hN2 := e2 _ _ hN1
    have hLn := Evl.fresh_back e01 hL
    have oL := (Gt.ex e01 hD).dk.off hL
    have e02 := e01.trans e2
    have hNn : N ≠ d ∧ N ≠ l := (Gt.ex e0 hD).dk.off hN
    generalize (upd H1 L (.lst [])) = H2 at e02 hL2 hN2 ⊢
    walk_at "rvs"
    have hNL : SqL K H2 N ((loneB.take n).map V.str) := SqL.of hN2
    refine ⟨N, rfl, ⟨_, hNL⟩, ?_⟩
    have g2 := Gt.ex e02 hD
    refine fr_list (K := K) (xs := (loneB.take n).map V.str) (fun i σ' H' => ∃ (acc : List V) (fs : List Fm) (o : Option V), σ' = [some (.ref d), some (.int (n : Int)), some (.ref N), some (.ref L), o, none] ∧ Gt d l H H' ∧ H' N = some (.lst ((loneB.take n).map V.str)) ∧ H' L = some (.lst acc) ∧ DpAll K H' acc (dats fs) ∧ fs.length = i ∧ ∀ g ∈ fs, LitB g) ⟨[], [], none, rfl, g2, hN2, hL2, .nil, rfl, fun g hg => by cases hg⟩ (fun i σ' H' _ h => by
        obtain ⟨_, _, _, _, _, e, _⟩ := h
        exact SqL.of e) (fun i y σ' H3 hy hP => ?_) fun σ' H3 hP => ?_
    · obtain ⟨acc, fs, o, rfl, g3, hN3, hL3, hacc, hfl, hlit⟩ := hP
      rw [List.getElem?_map] at hy
      obtain ⟨z, hz, rfl⟩ := Option.map_eq_some_iff.mp hy
      have hil := (List.getElem?_eq_some_iff.mp hz).1
      rw [List.length_take] at hil
      have hzm : z ∈ loneB := List.mem_of_mem_take (List.mem_of_getElem? hz)
      obtain ⟨lb1, lb2⟩ := litB_ok z hzm
      refine rd_start (σ' := [some (.ref d), some (.int (n : Int)), some (.ref N), some (.ref L), some (.str z), none]) rfl ?_
      walk_at "rvs"
      refine rd_tyL hL3 ?_
      walk_at "rvs"
      refine ⟨(by show 2 ≤ sizeLine; decide), fun p1 hp1 => ?_⟩
      have E1 := Evl.Ex.new (o := .tup [V.str "letter", .str z]) hp1
      have f1 := letter_new (K := K) (z := z) hp1
      walk_at "rvs"
      refine ⟨(by show 2 ≤ sizeLine; decide), fun p2 hp2 => ?_⟩
      have E2 := Evl.Ex.new (o := .tup [V.str "letter", .str z]) hp2
      have f2 := letter_new (K := K) (z := z) hp2
      walk_at "rvs"
      refine ⟨(by show 2 ≤ sizeLine; decide), fun p3 hp3 => ?_⟩
      have E3 := Evl.Ex.new (o := .tup [V.str "not", .ref p2]) hp3
      have f3 : Dp K _ (.ref p3) (dat (.no (.letter z))) := mk_no (SqT.of upd_same) (dpF_ex E3 f2)
      walk_at "rvs"
      refine ⟨(by show 2 ≤ sizeLine; decide), fun p4 hp4 => ?_⟩
      have E4 := Evl.Ex.new (o := .lst [V.ref p1, .ref p3]) hp4
      have k1 := dpF_ex ((E2.trans E3).trans E4) f1
      have k3 := dpF_ex E4 f3
      have E := E1.trans ((E2.trans E3).trans E4)
      have gE := Gt.ex E g3.dk
      have o4 := (Gt.ex (E1.trans (E2.trans E3)) g3.dk).dk.off hp4
      have hL4 := E _ _ hL3
      have hN4 := E _ _ hN3
      have hacc4 := dpsF_ex E hacc
      walk_at "rvs"
      refine ⟨d, l, p4, _, rfl, gE.dk, upd_same, o4.1, o4.2, by show 1 ≤ 2; decide, by show 2 ≤ 1000; decide, fun y H9 g9 hy => ?_⟩
      obtain ⟨g, dg, hg⟩ : ∃ g, Dp K _ y (dat g) ∧ LitB g := by
        simp only [List.mem_cons, List.not_mem_nil, or_false] at hy
        rcases hy with rfl | rfl
        · exact ⟨_, k1, lb1⟩
        · exact ⟨_, k3, lb2⟩
      have dg9 := dpF_gt g9 gE.dk dg
      have hacc9 := dpsF_gt g9 gE.dk hacc4
      have hL9 := g9.kp _ _ oL.1 oL.2 hL4
      have hN9 := g9.kp _ _ hNn.1 hNn.2 hN4
      have hal : acc.length = fs.length := by rw [dps_len hacc, dats_map, List.length_map]
      walk_at "rvs"
      refine rd_append hL9 (by omega) ?_
      walk_at "rvs"
      have hNL' : N ≠ L := fun e => by
        rw [e, hL2] at hN2
        have := congrArg List.length (HO.lst.inj (Option.some.inj hN2))
        rw [List.length_map, List.length_take, List.length_nil] at this
        have h7 : loneB.length = 7 := rfl
        omega
      refine ⟨_, fs ++ [g], _, rfl, ((g3.trans gE).trans g9).mut hD hLn, by rw [upd_ne hNL']; exact hN9, upd_same, dps_upd hL9 (dps_snoc hacc9 dg9), by rw [List.length_append, hfl] <;> rfl, fun k hk => ?_⟩
      rcases List.mem_append.mp hk with hk | hk
      · exact hlit k hk
      · rw [List.mem_singleton.mp hk]
        exact hg
    · obtain ⟨acc, fs, o, rfl, g3, hN3, hL3, hacc, hfl, hlit⟩ := hP
      have hnl : fs.length = n := by
        rw [hfl, List.length_map, List.length_take]
        have h7 : loneB.length = 7 := rfl
        omega
      walk_at "rvs"
      have hal : acc.length = fs.length := by rw [dps_len hacc, dats_map, List.length_map]
      refine rd_ifV (fun v' H' => Evl.Ex H3 H' ∧ ∃ g : Fm, Dp K H' v' (dat g) ∧ okf g = true ∧ dp g ≤ 5 ∧ dt g ≤ 5 ∧ nd g ≤ 50 ∧ qd g = 0 ∧ ∀ z ∈ fvl g, z ∈ loneB) (fun N5 kN => ?_) fun v' H4 hv' => ?_
      · walk_at "rds"
        refine rd_ite (fun _ => ?_) fun c => ?_
        · walk_at "rds"
          refine ⟨L, acc, rfl, .inl ⟨SqL.of hL3, fun t ht => ?_⟩⟩
          have e5 := Evl.Ex.new (o := .tup acc) ht
          walk_at "rds"
          refine ⟨(by show 2 ≤ sizeLine; decide), fun p5 hp5 => ?_⟩
          have e6 := Evl.Ex.new (o := .tup [V.str (cw true), .ref t]) hp5
          refine kN _ _ ⟨e5.trans e6, .conn true fs, mk_conn (b := true) (Evl.ex_t e6 (SqT.of upd_same)) (dpsF_ex (e5.trans e6) hacc) (SqT.of upd_same), okfs_of fun g hg => (hlit g hg).1, ?_, ?_, ?_, ?_, fun z hz => ?_⟩
          · have := dps_le (fs := fs) (m := 2) fun g hg => (hlit g hg).2.1
            rw [KA.dp]
            omega
          · have := dts_le (fs := fs) (m := 2) fun g hg => (hlit g hg).2.2.1
            rw [KA.dt]
            omega
          · have := nds_le (fs := fs) (m := 2) fun g hg => (hlit g hg).2.2.2.1
            rw [KA.nd]
            omega
          · have := qds_le (fs := fs) (m := 0) fun g hg => by rw [(hlit g hg).2.2.2.2.1]; exact Nat.le_refl _
            rw [KA.qd]
            omega
          · rw [fvl, fvls_map] at hz
            obtain ⟨g, hg, hz⟩ := List.mem_flatMap.mp hz
            exact (hlit g hg).2.2.2.2.2 z hz
        · obtain ⟨y, hy⟩ : ∃ y, acc[0]? = some y := ⟨acc[0]'(by omega), List.getElem?_eq_getElem (by omega)⟩
          obtain ⟨g, hg, hdg⟩ := dps_get hacc hy
          obtain ⟨l1, l2, l3, l4, l5, l6⟩ := hlit g (List.mem_of_getElem? hg)
          walk_at "rds"
          refine rd_ixL (x := y) (SqL.of hL3) (atI_nat (j := 0) hy) ?_
          exact kN _ _ ⟨Evl.Ex.refl _, g, hdg, l1, by omega, by omega, by omega, l5, l6⟩
      obtain ⟨e4, g, dg, r1, r2, r3, r4, r5, r6⟩ := hv'
      walk_at "rds"
      refine ⟨Nat.zero_le _, fun p5 hp5 => ?_⟩
      have e5 := Evl.Ex.new (o := .tup []) hp5
      walk_at "rds"
      refine ⟨(by show 2 ≤ sizeLine; decide), fun p6 hp6 => ?_⟩
      have e6 := Evl.Ex.new (o := .tup [V.str (cw false), .ref p5]) hp6
      have du : Dp K _ (.ref p6) (dat (.conn false [])) := mk_conn (b := false) (Evl.ex_t e6 (SqT.of upd_same)) .nil (SqT.of upd_same)
      walk_at "rds"
      refine ⟨(by show 2 ≤ sizeLine; decide), fun p7 hp7 => ?_⟩
      have e7 := Evl.Ex.new (o := .tup [v', .ref p6]) hp7
      have e57 := e5.trans (e6.trans e7)
      exact q p7 v' (.ref p6) g _ (g3.trans (Gt.ex (e4.trans e57) g3.dk)) (SqT.of upd_same) (dpF_ex e57 dg) (dpF_ex e7 du) r1 r2 r3 r4 r5 r6
end
end KA
set_option Elab.async false
set_option linter.all false
set_option maxRecDepth 100000
set_option maxHeartbeats 400000
set_option pp.maxSteps 600
namespace KA
open PySem PySem.Spec PyProof.Rows L2 Ea
abbrev slaw : Stmt := topS 28
theorem sclaw : FnScope ["script", "bag", "turn", "names", "f", "g", "nth", "other", "x", "a", "b", "some", "one"] ["script"] (defScope slaw) :=
  ⟨rfl, rfl, rfl, by decide +kernel, rfl, by decide +kernel, by decide +kernel⟩
local macro_rules | `(tactic| walk_at "rd") => `(tactic| first
  | (with_reducible refine rd_iItems ?_) | (with_reducible refine rd_sc2 ?_) | (with_reducible refine rd_lc2 ?_) | (with_reducible refine rd_iZipN ?_) | (with_reducible refine rd_iZipL ?_) | (with_reducible refine rd_revL ?_) | (with_reducible refine rd_lstZ ?_) | (with_reducible refine rd_iRev ?_)
  | (with_reducible refine rd_seq ?_) | (with_reducible refine rd_asg ?_) | (with_reducible refine rd_if ?_) | (with_reducible refine rd_ret ?_) | (with_reducible refine rd_next ?_)
  | (with_reducible refine rd_drop ?_) | ((with_reducible refine rd_name (σ' := ?ss) ?hs ?_); (case hs => (dsimp only [List.set]; exact rfl)))
  | ((with_reducible refine rd_var (v := ?vv) ?hv ?_); (case hv => exact rfl)) | (with_reducible refine rd_c ?_) | (with_reducible refine rd_op ?_) | (with_reducible refine rd_un ?_)
  | (with_reducible refine rd_I0 ?_) | (with_reducible refine rd_U ?_) | (with_reducible refine rd_test ?_) | (with_reducible refine rd_B ?_) | (with_reducible refine rd_k ?_)
  | (with_reducible refine rd_not ?_) | (with_reducible refine rd_and ?_) | (with_reducible refine rd_or ?_) | (with_reducible refine rd_ifE ?_)
  | (with_reducible refine rd_par ?_) | ((with_reducible refine rd_par2 (σ' := ?ss) ?hs ?_); (case hs => (dsimp only [List.set]; exact rfl)))
  | (with_reducible refine rd_gsub ?_) | (with_reducible refine rd_andV ?_) | (with_reducible refine rd_orV ?_) | (with_reducible refine rd_notV ?_)
  | (with_reducible refine rd_lc ?_) | (with_reducible refine rd_iTup ?_) | (with_reducible refine rd_iList ?_) | (with_reducible refine rd_iRng1 ?_) | (with_reducible refine rd_iRng2 ?_) | (with_reducible refine rd_iEnumT ?_) | (with_reducible refine rd_iEnum ?_) | (with_reducible refine rd_iZipM ?_) | (with_reducible refine rd_iEnumS ?_) | (with_reducible refine rd_iKeys ?_) | (with_reducible refine rd_din ?_) | (with_reducible refine rd_dnotin ?_)
  | (with_reducible refine rd_yes ?_) | (with_reducible refine rd_true ?_) | (with_reducible refine rd_false ?_) | (with_reducible refine rd_m1 ?_) | (with_reducible refine rd_isS ?_)
  | ((with_reducible refine rd_eq ?hs ?_); (case hs => exact rfl)) | ((with_reducible refine rd_ne ?hs ?_); (case hs => exact rfl))
  | (with_reducible refine rd_listRg ?_) | (with_reducible refine rd_rg2 ?_) | (with_reducible refine rd_rgk ?_)
  | (with_reducible refine rd_dnew ?_) | (with_reducible refine rd_ddel ?_) | (with_reducible refine rd_kw ?_) | (with_reducible refine rd_callS ?_) | (with_reducible refine rd_dc ?_) | (with_reducible refine rd_for ?_) | (with_reducible refine rd_tru ?_) | (with_reducible refine rd_truI ?_)
  | (with_reducible refine rd_nil ?_) | (with_reducible refine rd_cons ?_) | (with_reducible refine rd_call ?_) | (with_reducible refine rd_cb ?_)
  | (with_reducible refine rd_tup ?_) | (with_reducible refine rd_lst ?_) | (with_reducible refine rd_dget ?_) | (with_reducible refine rd_dput ?_) | (with_reducible refine rd_dget2 ?_) | (with_reducible refine rd_sl ?_)
  | (with_reducible refine rd_nopart ?_) | (with_reducible refine rd_part ?_) | (with_reducible refine rd_parti ?_) | (with_reducible refine rd_bm ?_) | (with_reducible refine rd_bm0 ?_)
  | (with_reducible refine rd_int ?_) | (with_reducible refine rd_intb ?_) | (with_reducible refine rd_abs ?_) | (with_reducible refine rd_min2 ?_) | (with_reducible refine rd_max2 ?_))
local macro_rules | `(tactic| walk_at "rds") => `(tactic| repeat (walk_at "rd"))
local macro_rules | `(tactic| walk_at "rq") => `(tactic| first
  | (with_reducible refine rd_iItems ?_) | (with_reducible refine rd_sc2 ?_) | (with_reducible refine rd_lc2 ?_) | (with_reducible refine rd_iZipN ?_) | (with_reducible refine rd_iZipL ?_) | (with_reducible refine rd_revL ?_) | (with_reducible refine rd_lstZ ?_) | (with_reducible refine rd_iRev ?_)
  | (with_reducible refine rd_seq ?_) | (with_reducible refine rd_asg ?_) | (with_reducible refine rd_ret ?_) | (with_reducible refine rd_next ?_)
  | (with_reducible refine rd_drop ?_) | ((with_reducible refine rd_name (σ' := ?ss) ?hs ?_); (case hs => (dsimp only [List.set]; exact rfl)))
  | ((with_reducible refine rd_var (v := ?vv) ?hv ?_); (case hv => exact rfl)) | (with_reducible refine rd_c ?_) | (with_reducible refine rd_op ?_) | (with_reducible refine rd_un ?_)
  | (with_reducible refine rd_I0 ?_) | (with_reducible refine rd_U ?_) | (with_reducible refine rd_test ?_) | (with_reducible refine rd_B ?_) | (with_reducible refine rd_k ?_)
  | (with_reducible refine rd_not ?_) | (with_reducible refine rd_and ?_) | (with_reducible refine rd_or ?_) | (with_reducible refine rd_ifE ?_)
  | (with_reducible refine rd_par ?_) | ((with_reducible refine rd_par2 (σ' := ?ss) ?hs ?_); (case hs => (dsimp only [List.set]; exact rfl)))
  | (with_reducible refine rd_gsub ?_) | (with_reducible refine rd_andV ?_) | (with_reducible refine rd_orV ?_) | (with_reducible refine rd_notV ?_)
  | (with_reducible refine rd_lc ?_) | (with_reducible refine rd_iTup ?_) | (with_reducible refine rd_iList ?_) | (with_reducible refine rd_iRng1 ?_) | (with_reducible refine rd_iRng2 ?_) | (with_reducible refine rd_iEnumT ?_) | (with_reducible refine rd_iEnum ?_) | (with_reducible refine rd_iZipM ?_) | (with_reducible refine rd_iEnumS ?_) | (with_reducible refine rd_iKeys ?_) | (with_reducible refine rd_din ?_) | (with_reducible refine rd_dnotin ?_)
  | (with_reducible refine rd_yes ?_) | (with_reducible refine rd_true ?_) | (with_reducible refine rd_false ?_) | (with_reducible refine rd_m1 ?_) | (with_reducible refine rd_isS ?_)
  | ((with_reducible refine rd_eq ?hs ?_); (case hs => exact rfl)) | ((with_reducible refine rd_ne ?hs ?_); (case hs => exact rfl))
  | (with_reducible refine rd_listRg ?_) | (with_reducible refine rd_rg2 ?_) | (with_reducible refine rd_rgk ?_)
  | (with_reducible refine rd_dnew ?_) | (with_reducible refine rd_ddel ?_) | (with_reducible refine rd_kw ?_) | (with_reducible refine rd_callS ?_) | (with_reducible refine rd_dc ?_) | (with_reducible refine rd_for ?_) | (with_reducible refine rd_tru ?_) | (with_reducible refine rd_truI ?_)
  | (with_reducible refine rd_nil ?_) | (with_reducible refine rd_cons ?_) | (with_reducible refine rd_call ?_) | (with_reducible refine rd_cb ?_)
  | (with_reducible refine rd_tup ?_) | (with_reducible refine rd_lst ?_) | (with_reducible refine rd_dget ?_) | (with_reducible refine rd_dput ?_) | (with_reducible refine rd_dget2 ?_) | (with_reducible refine rd_sl ?_)
  | (with_reducible refine rd_nopart ?_) | (with_reducible refine rd_part ?_) | (with_reducible refine rd_parti ?_) | (with_reducible refine rd_bm ?_) | (with_reducible refine rd_bm0 ?_)
  | (with_reducible refine rd_int ?_) | (with_reducible refine rd_intb ?_) | (with_reducible refine rd_abs ?_) | (with_reducible refine rd_min2 ?_) | (with_reducible refine rd_max2 ?_))
local macro_rules | `(tactic| walk_at "rqs") => `(tactic| repeat (walk_at "rq"))
local macro_rules | `(tactic| walk_at "rv") => `(tactic| first
  | (with_reducible refine rd_iItems ?_) | (with_reducible refine rd_sc2 ?_) | (with_reducible refine rd_lc2 ?_) | (with_reducible refine rd_iZipN ?_) | (with_reducible refine rd_iZipL ?_) | (with_reducible refine rd_revL ?_) | (with_reducible refine rd_lstZ ?_) | (with_reducible refine rd_iRev ?_)
  | (with_reducible refine rd_seq ?_) | (with_reducible refine rd_asg ?_) | (with_reducible refine rd_ret ?_) | (with_reducible refine rd_next ?_)
  | (with_reducible refine rd_drop ?_) | ((with_reducible refine rd_name (σ' := ?ss) ?hs ?_); (case hs => (dsimp only [List.set]; exact rfl)))
  | ((with_reducible refine rd_var (v := ?vv) ?hv ?_); (case hv => exact rfl)) | (with_reducible refine rd_c ?_) | (with_reducible refine rd_op ?_) | (with_reducible refine rd_un ?_)
  | (with_reducible refine rd_I0 ?_) | (with_reducible refine rd_U ?_) | (with_reducible refine rd_test ?_) | (with_reducible refine rd_B ?_) | (with_reducible refine rd_k ?_)
  | (with_reducible refine rd_not ?_) | (with_reducible refine rd_and ?_) | (with_reducible refine rd_or ?_)
  | (with_reducible refine rd_par ?_) | ((with_reducible refine rd_par2 (σ' := ?ss) ?hs ?_); (case hs => (dsimp only [List.set]; exact rfl)))
  | (with_reducible refine rd_gsub ?_) | (with_reducible refine rd_andV ?_) | (with_reducible refine rd_orV ?_) | (with_reducible refine rd_notV ?_)
  | (with_reducible refine rd_lc ?_) | (with_reducible refine rd_iTup ?_) | (with_reducible refine rd_iList ?_) | (with_reducible refine rd_iRng1 ?_) | (with_reducible refine rd_iRng2 ?_) | (with_reducible refine rd_iEnumT ?_) | (with_reducible refine rd_iEnum ?_) | (with_reducible refine rd_iZipM ?_) | (with_reducible refine rd_iEnumS ?_) | (with_reducible refine rd_iKeys ?_) | (with_reducible refine rd_din ?_) | (with_reducible refine rd_dnotin ?_)
  | (with_reducible refine rd_yes ?_) | (with_reducible refine rd_true ?_) | (with_reducible refine rd_false ?_) | (with_reducible refine rd_m1 ?_) | (with_reducible refine rd_isS ?_)
  | ((with_reducible refine rd_eq ?hs ?_); (case hs => exact rfl)) | ((with_reducible refine rd_ne ?hs ?_); (case hs => exact rfl))
  | (with_reducible refine rd_listRg ?_) | (with_reducible refine rd_rg2 ?_) | (with_reducible refine rd_rgk ?_)
  | (with_reducible refine rd_dnew ?_) | (with_reducible refine rd_ddel ?_) | (with_reducible refine rd_kw ?_) | (with_reducible refine rd_callS ?_) | (with_reducible refine rd_dc ?_) | (with_reducible refine rd_for ?_) | (with_reducible refine rd_tru ?_) | (with_reducible refine rd_truI ?_)
  | (with_reducible refine rd_nil ?_) | (with_reducible refine rd_cons ?_) | (with_reducible refine rd_call ?_) | (with_reducible refine rd_cb ?_)
  | (with_reducible refine rd_tup ?_) | (with_reducible refine rd_lst ?_) | (with_reducible refine rd_dget ?_) | (with_reducible refine rd_dput ?_) | (with_reducible refine rd_dget2 ?_) | (with_reducible refine rd_sl ?_)
  | (with_reducible refine rd_nopart ?_) | (with_reducible refine rd_part ?_) | (with_reducible refine rd_parti ?_) | (with_reducible refine rd_bm ?_) | (with_reducible refine rd_bm0 ?_)
  | (with_reducible refine rd_int ?_) | (with_reducible refine rd_intb ?_) | (with_reducible refine rd_abs ?_) | (with_reducible refine rd_min2 ?_) | (with_reducible refine rd_max2 ?_))
local macro_rules | `(tactic| walk_at "rvs") => `(tactic| repeat (walk_at "rv"))

def pool62 : List Str := ["b", "a1", "x", "zz"]
theorem pool62_ok : ∀ z ∈ pool62, okn z = true := by decide +kernel
theorem seal_heap {D G : Hp → Prop} {H : Hp} (h : D H) (k : ∀ Z, D Z → G Z) : G H := k H h
/-- two formulas that may be asked of -/
def Pr62 (f g : Fm) : Prop := (dp f ≤ 25 ∧ dp g ≤ 25 ∧ nd f ≤ 400 ∧ nd g ≤ 400 ∧ qd f ≤ 5 ∧ qd g ≤ 5 ∧ dt f ≤ 30 ∧ dt g ≤ 30 ∧ okf f = true ∧ okf g = true) ∧ ∃ B : List Str, B.length ≤ 9 ∧ (∀ z ∈ fvl f, z ∈ B) ∧ ∀ z ∈ fvl g, z ∈ B
theorem Pr62.of {f g : Fm} (h : dp f ≤ 25 ∧ dp g ≤ 25 ∧ nd f ≤ 400 ∧ nd g ≤ 400 ∧ qd f ≤ 5 ∧ qd g ≤ 5 ∧ dt f ≤ 30 ∧ dt g ≤ 30 ∧ okf f = true ∧ okf g = true) (h1 : ∀ z ∈ fvl f, z ∈ (["x", "a", "b"] : List Str)) (h2 : ∀ z ∈ fvl g, z ∈ (["x", "a", "b"] : List Str)) : Pr62 f g := ⟨h, _, by decide, h1, h2⟩
def P62 (K : PySem.W.Frag) (H : Hp) (x : V) : Prop := ∃ (T : Addr) (v u : V) (f g : Fm), x = .ref T ∧ SqT K H T [v, u] ∧ Dp K H v (dat f) ∧ Dp K H u (dat g) ∧ Pr62 f g
theorem P62.gt {K : PySem.W.Frag} {d l : Addr} {H H' : Hp} {x : V} (h : P62 K H x) (g : Gt d l H H') (hD : DeckT d l H) : P62 K H' x := by
  obtain ⟨T, v, u, f, k, e, s, h1, h2, h3⟩ := h
  exact ⟨T, v, u, f, k, e, g.tup hD s, dpF_gt g hD h1, dpF_gt g hD h2, h3⟩
theorem P62.updL {K : PySem.W.Frag} {H : Hp} {x : V} {L : Addr} {ys u : List V} (h : P62 K H x) (e : H L = some (.lst ys)) : P62 K (upd H L (.lst u)) x := by
  obtain ⟨T, v, w, f, k, e1, s, h1, h2, h3⟩ := h
  exact ⟨T, v, w, f, k, e1, tup_upd e lst_not s, dp_mono (fun _ _ t => tup_upd e lst_not t) _ _ (noL_dat f) h1, dp_mono (fun _ _ t => tup_upd e lst_not t) _ _ (noL_dat k) h2, h3⟩
/-- the list of pairs as it grows, the letters beside -/
structure St62 (K : PySem.W.Frag) (d l S : Addr) (vx va vb : V) (n : Nat) (H : Hp) : Prop where
  dk : DeckT d l H
  o1 : S ≠ d
  o2 : S ≠ l
  fx : Dp K H vx (dat (.letter "x"))
  fa : Dp K H va (dat (.letter "a"))
  fb : Dp K H vb (dat (.letter "b"))
  xs : ∃ xs : List V, H S = some (.lst xs) ∧ xs.length ≤ n ∧ ∀ x ∈ xs, P62 K H x
theorem St62.gt {K : PySem.W.Frag} {d l S : Addr} {vx va vb : V} {n : Nat} {H H' : Hp} (h : St62 K d l S vx va vb n H) (g : Gt d l H H') : St62 K d l S vx va vb n H' := by
  obtain ⟨dk, o1, o2, fx, fa, fb, xs, h1, h2, h3⟩ := h
  exact ⟨g.dk, o1, o2, dpF_gt g dk fx, dpF_gt g dk fa, dpF_gt g dk fb, xs, g.kp _ _ o1 o2 h1, h2, fun x hx => (h3 x hx).gt g dk⟩
theorem St62.put {K : PySem.W.Frag} {d l S : Addr} {vx va vb : V} {n : Nat} {H : Hp} {xs : List V} {x : V} (h : St62 K d l S vx va vb n H) (e : H S = some (.lst xs)) (p : P62 K H x) : St62 K d l S vx va vb (n + 1) (upd H S (.lst (xs ++ [x]))) := by
  obtain ⟨dk, o1, o2, fx, fa, fb, ys, h1, h2, h3⟩ := h
  rw [e] at h1
  obtain rfl : xs = ys := HO.lst.inj (Option.some.inj h1)
  have mv : ∀ {v : V} {f : Fm}, Dp K H v (dat f) → Dp K (upd H S (.lst (xs ++ [x]))) v (dat f) := fun {v f} h => dp_mono (fun _ _ t => tup_upd e lst_not t) _ _ (noL_dat f) h
  refine ⟨dk.upd o1 o2, o1, o2, mv fx, mv fa, mv fb, xs ++ [x], upd_same, by rw [List.length_append]; show xs.length + 1 ≤ _; omega, fun y hy => ?_⟩
  rcases List.mem_append.mp hy with hy | hy
  · exact (h3 y hy).updL e
  · rw [List.mem_singleton.mp hy]
    exact p.updL e
theorem lc_none2 {K : PySem.W.Frag} {σ : L2.St} {H : Hp} {Q : VK} {tt : TT} {te : TE} {vs : List Nat} {j1 j2 k : Nat} {a : Addr} {xs : List V} {σx : V → V → L2.St} (hx : H a = some (.lst xs)) (hk : k = 2) (hσ : ∀ x y, (((wipe σ vs).set j1 (some x)).set j2 (some y)) = σx x y) (hw : ∀ x y, wipe (σx x y) vs = wipe σ vs)
    (hs : ∀ x ∈ xs, ∀ (H' : Hp), Evl.Ex H H' → ∃ (T : Addr) (u v : V), x = .ref T ∧ SqT K H' T [u, v] ∧ ∀ (N : VK) (S : Hp → Prop), (∀ H3, Evl.Ex H' H3 → S H3) → tt (σx u v) H' fun b H2 => if b = true then te (σx u v) H2 N else S H2)
    (hd : ∀ D H', Evl.Ex H H' → H D = none → H' D = some (.lst []) → Q (.ref D) H') : LcR (gTup K k (gCons (gName j1) (gCons (gName j2) gNil))) tt te vs σ Q (Itl K a) H := fun D hn =>
  lc_list (xs := xs) (fun _ H' => Evl.Ex H H' ∧ H' D = some (.lst [])) ⟨Evl.Ex.new hn, upd_same⟩ (fun _ H' _ p => SqL.of (p.1 _ _ hx)) (fun i x H' hi p => by
    obtain ⟨T, u, v, rfl, sT, h⟩ := hs x (List.mem_of_getElem? hi) H' p.1
    exact rd_gtup2 sT hk (hσ u v) ⟨hw u v, h _ _ fun H3 g3 => ⟨p.1.trans g3, g3 _ _ p.2⟩⟩) fun H' p => hd D H' p.1 hn p.2
section
variable {P : Program} {w : World} {K : PySem.W.Frag} {mg : Str → Option Value} {base : Heap}
theorem ok_near0 {f : Addr} {fd : FuncData} {k : Nat} : FnOk P w K mg base CX0 k f fd ["bag", "f"] (spNear K 0) :=
  ⟨fun vs H Q E h => by
    obtain ⟨_, _, v, f, _, _, _, hm, _⟩ := h
    have := dp_pos f
    omega, fun A outer s H args us vs Q E hr e0 hb r hsp => by
    obtain ⟨_, _, v, f, _, _, _, hm, _⟩ := hsp
    have := dp_pos f
    omega⟩
theorem ok_near {f fP fT fK fR : Addr} {fd fdP fdT fdK fdR : FuncData} (F : Fun K "_law_near" "_law_near" s_law_near f fd) (T : Bl mg)
    (G_law_take : FnOk P w K mg base CX0 1 fT fdT ["bag", "many"] spTake) (C_law_take : Callee K mg "_law_take" fT fdT ["bag", "many"])
    (G_law_pick : FnOk P w K mg base CX0 2 fK fdK ["bag", "some"] spPick) (C_law_pick : Callee K mg "_law_pick" fK fdK ["bag", "some"])
    (G_law_parts_of : FnOk P w K mg base CX0 1 fP fdP ["f"] (spPartsOf K)) (C_law_parts_of : Callee K mg "_law_parts_of" fP fdP ["f"])
    (G_law_remade : FnOk P w K mg base CX0 1 fR fdR ["f", "parts"] (spRem K)) (C_law_remade : Callee K mg "_law_remade" fR fdR ["f", "parts"])
    (C_law_near : Callee K mg "_law_near" f fd ["bag", "f"]) : ∀ m, FnOk P w K mg base CX0 (m + 2) f fd ["bag", "f"] (spNear K m)
  | 0 => ok_near0
  | m + 1 => ok_near1 F T (by omega) (by omega) G_law_take C_law_take G_law_pick C_law_pick G_law_parts_of C_law_parts_of G_law_remade C_law_remade (ok_near F T G_law_take C_law_take G_law_pick C_law_pick G_law_parts_of C_law_parts_of G_law_remade C_law_remade C_law_near m) C_law_near
def spLaw (K : PySem.W.Frag) : Sp := fun vs H Q _ => ∃ (a : Addr) (ns : List Int), vs = [.ref a] ∧ SqL K H a (ns.map V.int) ∧ ns.length ≤ 63 ∧ ∀ H', Q (.bl true) H'
theorem ok_law {f fB fD fP fF fI fN fL : Addr} {fd fdB fdD fdP fdF fdI fdN fdL : FuncData} (F : Fun K "law" "law" slaw f fd) (T : Bl mg)
    (G_law_bag : FnOk P w K mg base CX0 1 fB fdB ["script"] (spBag K)) (C_law_bag : Callee K mg "_law_bag" fB fdB ["script"])
    (G_law_take : FnOk P w K mg base CX0 1 fD fdD ["bag", "many"] spTake) (C_law_take : Callee K mg "_law_take" fD fdD ["bag", "many"])
    (G_law_pick : FnOk P w K mg base CX0 2 fP fdP ["bag", "some"] spPick) (C_law_pick : Callee K mg "_law_pick" fP fdP ["bag", "some"])
    (G_law_formula : FnOk P w K mg base CX0 27 fF fdF ["bag", "names", "size", "more"] (spFm K 25)) (C_law_formula : Callee K mg "_law_formula" fF fdF ["bag", "names", "size", "more"])
    (G_law_near : FnOk P w K mg base CX0 27 fN fdN ["bag", "f"] (spNear K 25)) (C_law_near : Callee K mg "_law_near" fN fdN ["bag", "f"])
    (G_law_lone : FnOk P w K mg base CX0 3 fL fdL ["bag", "many"] (spLone K)) (C_law_lone : Callee K mg "_law_lone" fL fdL ["bag", "many"])
    (G_law_is_told : FnG P w K mg base 53 fI fdI ["one", "other", "is_named"] (spTold K)) (C_law_is_told : Callee K mg "_law_is_told" fI fdI ["one", "other", "is_named"]) :
    FnG P w K mg base 54 f fd ["script"] (spLaw K) := by
  refine okG F sclaw (fun vs H Q E h => ?_) (fun cdv A outer s H vs Q E hr hg h => ?_)
  · obtain ⟨a, ns, rfl, _⟩ := h
    rfl
  · obtain ⟨a, ns, rfl, ha, hl, q⟩ := h
    refine ⟨_, (pss_cons (ps_set (i := 1) sclaw.nd rfl (Or.inl rfl) (pe_call G_law_bag (hr.mono (by decide)) (by rfl) C_law_bag.m C_law_bag.k C_law_bag.b .nil pass0 (pa_cons (pv 0) pa_nil)))
 (pss_cons (ps_for PassesOwn.never rfl (pi_range1 (by rfl) T.range (pa_cons pe_int pa_nil)) (pg_name (i := 2) sclaw.nd rfl (Or.inl rfl)) (pss_cons (ps_set (i := 3) sclaw.nd rfl (Or.inl rfl) (pe_slice (sk_list (K := K) rfl) (pe_lst (pa_cons pe_str (pa_cons pe_str (pa_cons pe_str (pa_cons pe_str pa_nil))))) po_none (po_some (pe_call G_law_take (hr.mono (by decide)) (by rfl) C_law_take.m C_law_take.k C_law_take.b .nil pass0 (pa_cons (pv 1) (pa_cons pe_int pa_nil))))))
 (pss_cons (ps_set (i := 4) sclaw.nd rfl (Or.inl rfl) (pe_call G_law_formula (hr.mono (by decide)) (by rfl) C_law_formula.m C_law_formula.k C_law_formula.b .nil pass0 (pa_cons (pv 1) (pa_cons (pv 3) (pa_cons (pe_call G_law_pick (hr.mono (by decide)) (by rfl) C_law_pick.m C_law_pick.k C_law_pick.b .nil pass0 (pa_cons (pv 1) (pa_cons (pe_lst (pa_cons pe_int (pa_cons pe_int (pa_cons pe_int pa_nil)))) pa_nil))) (pa_cons (pe_call G_law_pick (hr.mono (by decide)) (by rfl) C_law_pick.m C_law_pick.k C_law_pick.b .nil pass0 (pa_cons (pv 1) (pa_cons (pe_lst (pa_cons pe_int (pa_cons pe_int (pa_cons pe_int (pa_cons pe_int pa_nil))))) pa_nil))) pa_nil))))))
 (pss_cons (ps_set (i := 5) sclaw.nd rfl (Or.inl rfl) (pe_call G_law_formula (hr.mono (by decide)) (by rfl) C_law_formula.m C_law_formula.k C_law_formula.b .nil pass0 (pa_cons (pv 1) (pa_cons (pv 3) (pa_cons (pe_call G_law_pick (hr.mono (by decide)) (by rfl) C_law_pick.m C_law_pick.k C_law_pick.b .nil pass0 (pa_cons (pv 1) (pa_cons (pe_lst (pa_cons pe_int (pa_cons pe_int pa_nil))) pa_nil))) (pa_cons pe_int pa_nil))))))
 (pss_one (ps_for PassesOwn.never rfl (pi_enumL (K := K) rfl (by rfl) T.enumerate (pa_cons (pe_lst (pa_cons (pv 5) (pa_cons (pe_call G_law_near (hr.mono (by decide)) (by rfl) C_law_near.m C_law_near.k C_law_near.b .nil pass0 (pa_cons (pv 1) (pa_cons (pv 4) pa_nil))) (pa_cons (pe_tup (pa_cons pe_str (pa_cons (pe_tup (pa_cons pe_str (pa_cons (pv 4) pa_nil))) pa_nil))) pa_nil)))) pa_nil)) (pgk_tup (K := K) rfl rfl (pgs_cons (pg_name (i := 6) sclaw.nd rfl (Or.inl rfl)) (pgs_cons (pg_name (i := 7) sclaw.nd rfl (Or.inl rfl)) pgs_nil))) (pss_one (ps_if (pt_not (pt_val (pe_callG G_law_is_told (hr.mono (by decide)) hg (by rfl) C_law_is_told.m C_law_is_told.k C_law_is_told.b (pa_cons (pv 4) (pa_cons (pv 7) (pa_cons (pe_cmpR op_eq (pv 6) (pv 2) (nomark _)) pa_nil)))))) (pss_one (ps_ret pe_bl)) pss_nil))))))))
 (pss_cons (ps_asg (pe_tup (pa_cons (pe_tup (pa_cons pe_str (pa_cons pe_str pa_nil))) (pa_cons (pe_tup (pa_cons pe_str (pa_cons pe_str pa_nil))) (pa_cons (pe_tup (pa_cons pe_str (pa_cons pe_str pa_nil))) pa_nil)))) (pgk_tup (K := K) rfl rfl (pgs_cons (pg_name (i := 8) sclaw.nd rfl (Or.inl rfl)) (pgs_cons (pg_name (i := 9) sclaw.nd rfl (Or.inl rfl)) (pgs_cons (pg_name (i := 10) sclaw.nd rfl (Or.inl rfl)) pgs_nil)))))
 (pss_cons (ps_set (i := 11) sclaw.nd rfl (Or.inl rfl) (pe_lst (pa_cons (pe_tup (pa_cons (pe_tup (pa_cons pe_str (pa_cons (pv 9) (pa_cons (pv 10) pa_nil)))) (pa_cons (pe_tup (pa_cons pe_str (pa_cons (pe_tup (pa_cons (pe_tup (pa_cons pe_str (pa_cons (pe_tup (pa_cons (pv 9) (pa_cons (pv 10) pa_nil))) pa_nil))) (pa_cons (pe_tup (pa_cons pe_str (pa_cons (pe_tup (pa_cons (pe_tup (pa_cons pe_str (pa_cons (pv 9) pa_nil))) (pa_cons (pe_tup (pa_cons pe_str (pa_cons (pv 10) pa_nil))) pa_nil))) pa_nil))) pa_nil))) pa_nil))) pa_nil))) (pa_cons (pe_tup (pa_cons (pv 9) (pa_cons (pv 8) pa_nil))) pa_nil))))
 (pss_cons (ps_expr (pe_bm PySem.F.plainAttrs_list PySem.F.slot_list_append PySem.F.type_list_append mt_append (pv 11) (pa_cons (pe_tup (pa_cons (pe_tup (pa_cons pe_str (pa_cons (pe_tup (pa_cons pe_str (pa_cons pe_str (pa_cons (pe_tup (pa_cons pe_str (pa_cons (pe_tup (pa_cons (pv 8) (pa_cons (pv 9) pa_nil))) pa_nil))) pa_nil)))) pa_nil))) (pa_cons (pe_tup (pa_cons pe_str (pa_cons pe_str (pa_cons (pe_tup (pa_cons pe_str (pa_cons (pe_tup (pa_cons (pe_tup (pa_cons pe_str (pa_cons (pv 8) pa_nil))) (pa_cons (pe_tup (pa_cons pe_str (pa_cons (pv 9) pa_nil))) pa_nil))) pa_nil))) pa_nil)))) pa_nil))) pa_nil)))
 (pss_cons (ps_expr (pe_bm PySem.F.plainAttrs_list PySem.F.slot_list_append PySem.F.type_list_append mt_append (pv 11) (pa_cons (pe_tup (pa_cons (pe_tup (pa_cons pe_str (pa_cons pe_str (pa_cons (pe_tup (pa_cons pe_str (pa_cons pe_str (pa_cons (pe_tup (pa_cons pe_str (pa_cons (pv 8) (pa_cons (pv 9) pa_nil)))) pa_nil)))) pa_nil)))) (pa_cons (pe_tup (pa_cons pe_str (pa_cons pe_str (pa_cons (pe_tup (pa_cons pe_str (pa_cons pe_str (pa_cons (pe_tup (pa_cons pe_str (pa_cons (pv 8) (pa_cons (pv 9) pa_nil)))) pa_nil)))) pa_nil)))) pa_nil))) pa_nil)))
 (pss_cons (ps_expr (pe_bm PySem.F.plainAttrs_list PySem.F.slot_list_append PySem.F.type_list_append mt_append (pv 11) (pa_cons (pe_call G_law_lone (hr.mono (by decide)) (by rfl) C_law_lone.m C_law_lone.k C_law_lone.b .nil pass0 (pa_cons (pv 1) (pa_cons (pe_call G_law_pick (hr.mono (by decide)) (by rfl) C_law_pick.m C_law_pick.k C_law_pick.b .nil pass0 (pa_cons (pv 1) (pa_cons (pe_lst (pa_cons pe_int (pa_cons pe_int (pa_cons pe_int (pa_cons pe_int (pa_cons pe_int pa_nil)))))) pa_nil))) pa_nil))) pa_nil)))
 (pss_one (ps_ret (pe_cmpR (ok_eqD (K := K) rfl hr.units) (pe_lc (own := [("one", 12), ("other", 7)]) (g := gTup K 2 (gCons (gName 12) (gCons (gName 7) gNil))) rfl sclaw.nd (ik_listI (K := K) rfl (pv 11)) (blkOk_by (own := [("one", 12), ("other", 7)]) (N := ["script", "bag", "turn", "names", "f", "g", "nth", "other", "x", "a", "b", "some", "one"]) (sc := defScope slaw) (by decide +kernel)) (fun _ _ _ _ _ => (pgk_tup (K := K) rfl rfl (pgs_cons (pg_name (i := 12) sclaw.nd rfl (Or.inl rfl)) (pgs_cons (pg_name (i := 7) sclaw.nd rfl (Or.inl rfl)) pgs_nil)))) (fun _ _ _ _ _ => (pts_one (pt_not (pt_val (pe_callG G_law_is_told (hr.mono (by decide)) hg (by rfl) C_law_is_told.m C_law_is_told.k C_law_is_told.b (pa_cons (pv 12) (pa_cons (pv 7) (pa_cons pe_bl pa_nil)))))))) (fun _ _ _ _ _ => pe_int)) (pe_lst pa_nil) (nomark _))))))))))), ?_⟩
    refine rd_start (σ' := [some (.ref a), none, none, none, none, none, none, none, none, none, none, none, none]) rfl ?_
    walk_at "rvs"
    refine ⟨a, ns, rfl, ha, hl, fun d l H1 e1 hd hl0 hD1 => ?_⟩
    walk_at "rvs"
    refine rd_rng1 (by decide) (by decide) ?_
    refine fr_range (lo := 0) (n := 4) (fun i σ' H' => ∃ x2 x3 x4 x5 x6 x7 : Option V, σ' = [some (.ref a), some (.ref d), x2, x3, x4, x5, x6, x7, none, none, none, none, none] ∧ DeckT d l H')
      ⟨_, _, _, _, _, _, rfl, hD1⟩ (fun i σ' H2 hi hP => ?_) fun σ' H2 hP => ?_
    · obtain ⟨x2, x3, x4, x5, x6, x7, rfl, hD2⟩ := hP
      refine rd_start (σ' := [some (.ref a), some (.ref d), some (.int (0 + (i : Int))), x3, x4, x5, x6, x7, none, none, none, none, none]) rfl ?_
      walk_at "rvs"
      refine ⟨(by show 4 ≤ sizeLine; decide), fun p1 hp1 => ?_⟩
      have g1 := Gt.new (o := .lst [V.str "b", .str "a1", .str "x", .str "zz"]) hD2 hp1
      obtain ⟨m1, m2⟩ := hD2.off hp1
      walk_at "rvs"
      refine ⟨d, l, 5, rfl, g1.dk, by omega, by omega, fun r H3 g3 r0 r1 => ?_⟩
      obtain ⟨nk, rfl, hnk⟩ : ∃ nk : Nat, r = (nk : Int) ∧ nk ≤ 4 := ⟨r.toNat, by omega, by omega⟩
      walk_at "rvs"
      have hp3 := g3.kp p1 _ m1 m2 (upd_same (H := H2) (a := p1) (o := .lst [V.str "b", .str "a1", .str "x", .str "zz"]))
      refine rd_slL (SqL.of hp3) fun u hu => ?_
      have hcut : cutV [V.str "b", .str "a1", .str "x", .str "zz"] none (some (nk : Int)) = (pool62.take nk).map V.str := by
        rw [cut_take (Int.natCast_nonneg nk), Int.toNat_natCast, List.map_take] <;> rfl
      rw [hcut]
      have hpool : ∀ z ∈ pool62.take nk, okn z = true := fun z hz => pool62_ok z (List.mem_of_mem_take hz)
      have hplen : (pool62.take nk).length ≤ 4 := List.length_take_le' _ _
      generalize pool62.take nk = zs at hpool hplen ⊢
      have g4 := Gt.new (o := .lst (zs.map V.str)) g3.dk hu
      obtain ⟨u1, u2⟩ := g3.dk.off hu
      have hD4 := g4.dk
      have hu4 : (upd H3 u (.lst (zs.map V.str))) u = some (.lst (zs.map V.str)) := upd_same
      generalize (upd H3 u (.lst (zs.map V.str))) = H4 at hD4 hu4 ⊢
      clear g4 g3 g1 hp3 hD2
      walk_at "rvs"
      refine ⟨(by show 3 ≤ sizeLine; decide), fun p2 hp2 => ?_⟩
      have g5 := Gt.new (o := .lst [V.int 2, .int 6, .int 10]) hD4 hp2
      have e5 := Evl.Ex.new (o := .lst [V.int 2, .int 6, .int 10]) hp2
      obtain ⟨v1, v2⟩ := hD4.off hp2
      walk_at "rvs"
      refine ⟨d, l, p2, _, rfl, g5.dk, upd_same, v1, v2, by show 1 ≤ 3; decide, by show 3 ≤ 1000; decide, fun y H5 g6 hy => ?_⟩
      obtain ⟨n, rfl, hn⟩ : ∃ n : Nat, y = .int (n : Int) ∧ n ≤ 10 := by
        simp only [List.mem_cons, List.not_mem_nil, or_false] at hy
        rcases hy with rfl | rfl | rfl
        · exact ⟨2, rfl, by decide⟩
        · exact ⟨6, rfl, by decide⟩
        · exact ⟨10, rfl, by decide⟩
      have hu5 := g6.kp u _ u1 u2 (e5 _ _ hu4)
      have hD5 := g6.dk
      clear g5 e5 g6 hu4 hD4
      walk_at "rvs"
      refine ⟨(by show 4 ≤ sizeLine; decide), fun p3 hp3 => ?_⟩
      have g5 := Gt.new (o := .lst [V.int 0, .int 0, .int 1, .int 2]) hD5 hp3
      have e5 := Evl.Ex.new (o := .lst [V.int 0, .int 0, .int 1, .int 2]) hp3
      obtain ⟨v1, v2⟩ := hD5.off hp3
      walk_at "rvs"
      refine ⟨d, l, p3, _, rfl, g5.dk, upd_same, v1, v2, by show 1 ≤ 4; decide, by show 4 ≤ 1000; decide, fun y H6 g6 hy => ?_⟩
      obtain ⟨r, rfl, hr3⟩ : ∃ r : Nat, y = .int (r : Int) ∧ r ≤ 2 := by
        simp only [List.mem_cons, List.not_mem_nil, or_false] at hy
        rcases hy with rfl | rfl | rfl | rfl
        · exact ⟨0, rfl, by decide⟩
        · exact ⟨0, rfl, by decide⟩
        · exact ⟨1, rfl, by decide⟩
        · exact ⟨2, rfl, by decide⟩
      have hu6 := g6.kp u _ u1 u2 (e5 _ _ hu5)
      have hD6 := g6.dk
      clear g5 e5 g6 hu5 hD5
      walk_at "rvs"
      refine ⟨d, l, u, zs, n, r, rfl, by omega, by decide, hD6, hu6, u1, u2, by omega, hpool, fun x f H7 g7 dx gd => ?_⟩
      have hu7 := g7.kp u _ u1 u2 hu6
      have hD7 := g7.dk
      obtain ⟨k1, k2, k3, k4, k5, k6⟩ := gd
      clear hu6 hD6
      walk_at "rvs"
      refine ⟨(by show 2 ≤ sizeLine; decide), fun p4 hp4 => ?_⟩
      have g8 := Gt.new (o := .lst [V.int 2, .int 6]) hD7 hp4
      have e8 := Evl.Ex.new (o := .lst [V.int 2, .int 6]) hp4
      obtain ⟨v1, v2⟩ := hD7.off hp4
      walk_at "rvs"
      refine ⟨d, l, p4, _, rfl, g8.dk, upd_same, v1, v2, by show 1 ≤ 2; decide, by show 2 ≤ 1000; decide, fun y H9 g9 hy => ?_⟩
      obtain ⟨n2, rfl, hn2⟩ : ∃ n : Nat, y = .int (n : Int) ∧ n ≤ 6 := by
        simp only [List.mem_cons, List.not_mem_nil, or_false] at hy
        rcases hy with rfl | rfl
        · exact ⟨2, rfl, by decide⟩
        · exact ⟨6, rfl, by decide⟩
      have hu9 := g9.kp u _ u1 u2 (e8 _ _ hu7)
      have hD9 := g9.dk
      have dx9 := dpF_gt g9 g8.dk (dpF_ex e8 dx)
      walk_at "rvs"
      refine ⟨d, l, u, zs, n2, 1, rfl, by omega, by decide, hD9, hu9, u1, u2, by omega, hpool, fun y g Ha ga dy gd2 => ?_⟩
      have hDa := ga.dk
      have dxa := dpF_gt ga hD9 dx9
      obtain ⟨l1, l2, l3, l4, l5, l6⟩ := gd2
      clear hu9 hD9 dx9 g9 g8 hu7 hD7
      walk_at "rvs"
      refine ⟨d, l, x, f, rfl, hDa, dxa, by omega, k1, by omega, fun x' f' Hb gb dx' nb => ?_⟩
      obtain ⟨n1, n3, n4, n5, n6, n7⟩ := nb
      have hDb := gb.dk
      have dxb := dpF_gt gb hDa dxa
      have dyb := dpF_gt gb hDa dy
      clear hDa dxa
      walk_at "rvs"
      refine ⟨(by show 2 ≤ sizeLine; decide), fun p5 hp5 => ?_⟩
      have E1 := Evl.Ex.new (o := .tup [V.str "not", x]) hp5
      have f1 : Dp K _ (.ref p5) (dat (.no f)) := mk_no (SqT.of upd_same) (dpF_ex E1 dxb)
      walk_at "rvs"
      refine ⟨(by show 2 ≤ sizeLine; decide), fun p6 hp6 => ?_⟩
      have E2 := Evl.Ex.new (o := .tup [V.str "not", .ref p5]) hp6
      have f2 : Dp K _ (.ref p6) (dat (.no (.no f))) := mk_no (SqT.of upd_same) (dpF_ex E2 f1)
      walk_at "rvs"
      refine ⟨(by show 3 ≤ sizeLine; decide), fun p7 hp7 => ?_⟩
      have E3 := Evl.Ex.new (o := .lst [y, x', .ref p6]) hp7
      have E := E1.trans (E2.trans E3)
      have hDc := (Gt.ex E hDb).dk
      have dxc := dpF_ex E dxb
      have dyc := dpF_ex E dyb
      have dxc' := dpF_ex E dx'
      have f3 := dpF_ex E3 f2
      have hL3 : (upd (upd (upd Hb p5 (.tup [V.str "not", x])) p6 (.tup [V.str "not", .ref p5])) p7 (.lst [y, x', .ref p6])) p7 = some (.lst [y, x', .ref p6]) := upd_same
      have hB : (zs ++ [("a" : Str)]).length ≤ 9 := by rw [List.length_append]; show zs.length + 1 ≤ 9; omega
      have hall : ∀ w ∈ [y, x', V.ref p6], ∃ g : Fm, Dp K (upd (upd (upd Hb p5 (.tup [V.str "not", x])) p6 (.tup [V.str "not", .ref p5])) p7 (.lst [y, x', .ref p6])) w (dat g) ∧ Pr62 f g := fun w hw => by
        simp only [List.mem_cons, List.not_mem_nil, or_false] at hw
        rcases hw with rfl | rfl | rfl
        · exact ⟨g, dyc, ⟨by omega, by omega, by omega, by omega, by omega, by omega, by omega, by omega, k1, l1⟩, (zs ++ [("a" : Str)] : List Str), hB, fun z hz => List.mem_append_left _ (k5 z hz), fun z hz => List.mem_append_left _ (l5 z hz)⟩
        · exact ⟨f', dxc', ⟨by omega, by omega, by omega, by omega, by omega, by omega, by omega, by omega, k1, n1⟩, (zs ++ [("a" : Str)] : List Str), hB, fun z hz => List.mem_append_left _ (k5 z hz), fun z hz => (n7 z hz).elim (fun h => List.mem_append_left _ (k5 z h)) fun h => by rw [h]; exact List.mem_append_right _ (List.mem_singleton.mpr rfl)⟩
        · exact ⟨.no (.no f), f3, ⟨by omega, by rw [KA.dp, KA.dp]; omega, by omega, by rw [KA.nd, KA.nd]; omega, by omega, by rw [KA.qd, KA.qd]; omega, by omega, by rw [KA.dt, KA.dt]; omega, k1, k1⟩, (zs ++ [("a" : Str)] : List Str), hB, fun z hz => List.mem_append_left _ (k5 z hz), fun z hz => List.mem_append_left _ (k5 z (by rw [fvl, fvl] at hz; exact hz))⟩
      generalize [y, x', V.ref p6] = ent at hall hL3 hDc dxc ⊢
      generalize (upd (upd (upd Hb p5 (.tup [V.str "not", x])) p6 (.tup [V.str "not", .ref p5])) p7 (.lst ent)) = Hc at hDc dxc hall hL3 ⊢
      walk_at "rvs"
      refine ⟨p7, ent, rfl, SqL.of hL3, ?_⟩
      refine fr_enumLN (K := K) (xs := ent) rfl (fun j σ' H' => ∃ x6 x7 : Option V, σ' = [some (.ref a), some (.ref d), some (.int (0 + (i : Int))), some (.ref u), some x, some y, x6, x7, none, none, none, none, none] ∧ Evl.Ex Hc H') ⟨_, _, rfl, Evl.Ex.refl _⟩ (fun _ _ _ h => by
        obtain ⟨_, _, _, e⟩ := h
        exact SqL.of (e _ _ hL3)) (fun j σ' Hd T hj hP hT => ?_) fun σ' Hd hP => ?_
      · obtain ⟨x6, x7, rfl, ed⟩ := hP
        have eT := Evl.Ex.new (o := .tup [.int (j : Nat), ent.getD j .non]) hT
        obtain ⟨g0, dg0, hm, B, hB9, hB1, hB2⟩ := hall (ent.getD j .non) (by rw [List.getD_eq_getElem?_getD, List.getElem?_eq_getElem hj]; exact List.getElem_mem hj)
        generalize ent.getD j .non = w0 at eT dg0 ⊢
        have ee := ed.trans eT
        generalize (upd Hd T (.tup [.int (j : Nat), w0])) = He at ee ⊢
        obtain ⟨m1, m2, m3, m4, m5, m6, m7, m8, m9, m10⟩ := hm
        refine rd_name (σ' := [some (.ref a), some (.ref d), some (.int (0 + (i : Int))), some (.ref u), some x, some y, some (.int (j : Nat)), some w0, none, none, none, none, none]) rfl ?_
        refine ⟨rfl, ?_⟩
        refine rd_if ?_
        walk_at "rds"
        refine ⟨x, w0, f, g0, B, _, rfl, dpF_ex ee dxc, dpF_ex ee dg0, m1, m2, m3, m4, m5, m6, m7, m8, m9, m10, hB9, hB1, hB2, fun Hf ef => ?_⟩
        walk_at "rds"
        refine (if_neg Bool.false_ne_true).mpr ?_
        walk_at "rds"
        exact ⟨_, _, rfl, ee.trans ef⟩
      · obtain ⟨x6, x7, rfl, ed⟩ := hP
        exact ⟨_, _, _, _, _, _, rfl, (Gt.ex ed hDc).dk⟩
    obtain ⟨x2, x3, x4, x5, x6, x7, rfl, hD2⟩ := hP
    dsimp only
    walk_at "rvs"
    refine ⟨(by show 2 ≤ sizeLine; decide), fun p1 hp1 => ?_⟩
    have E1 := Evl.Ex.new (o := .tup [V.str "letter", .str "x"]) hp1
    have f1 := letter_new (K := K) (z := "x") hp1
    walk_at "rvs"
    refine ⟨(by show 2 ≤ sizeLine; decide), fun p2 hp2 => ?_⟩
    have E2 := Evl.Ex.new (o := .tup [V.str "letter", .str "a"]) hp2
    have f2 := letter_new (K := K) (z := "a") hp2
    walk_at "rvs"
    refine ⟨(by show 2 ≤ sizeLine; decide), fun p3 hp3 => ?_⟩
    have E3 := Evl.Ex.new (o := .tup [V.str "letter", .str "b"]) hp3
    have f3 := letter_new (K := K) (z := "b") hp3
    walk_at "rvs"
    refine ⟨(by show 3 ≤ sizeLine; decide), fun p4 hp4 => ?_⟩
    have E4 := Evl.Ex.new (o := .tup [V.ref p1, V.ref p2, V.ref p3]) hp4
    walk_at "rvs"
    refine rd_gtup3 (SqT.of upd_same) rfl (σ' := [some (.ref a), some (.ref d), x2, x3, x4, x5, x6, x7, some (V.ref p1), some (V.ref p2), some (V.ref p3), none, none]) rfl ?_
    walk_at "rvs"
    refine ⟨(by show 3 ≤ sizeLine; decide), fun p5 hp5 => ?_⟩
    have E5 := Evl.Ex.new (o := .tup [V.str "same", V.ref p2, V.ref p3]) hp5
    have f5 : Dp K _ (.ref p5) (dat (.same (.letter "a") (.letter "b"))) := mk_same (SqT.of upd_same) (dpF_ex ((E3.trans E4).trans E5) f2) (dpF_ex (E4.trans E5) f3)
    walk_at "rvs"
    refine ⟨(by show 2 ≤ sizeLine; decide), fun p6 hp6 => ?_⟩
    have E6 := Evl.Ex.new (o := .tup [V.ref p2, V.ref p3]) hp6
    walk_at "rvs"
    refine ⟨(by show 2 ≤ sizeLine; decide), fun p7 hp7 => ?_⟩
    have E7 := Evl.Ex.new (o := .tup [V.str "and", .ref p6]) hp7
    have f7 : Dp K _ (.ref p7) (dat (.conn true [(.letter "a"), (.letter "b")])) := mk_conn (b := true) (Evl.ex_t E7 (SqT.of upd_same)) (.cons (dpF_ex ((((E3.trans E4).trans E5).trans E6).trans E7) f2) (.cons (dpF_ex (((E4.trans E5).trans E6).trans E7) f3) .nil)) (SqT.of upd_same)
    walk_at "rvs"
    refine ⟨(by show 2 ≤ sizeLine; decide), fun p8 hp8 => ?_⟩
    have E8 := Evl.Ex.new (o := .tup [V.str "not", V.ref p2]) hp8
    have f8 : Dp K _ (.ref p8) (dat (.no (.letter "a"))) := mk_no (SqT.of upd_same) (dpF_ex (((((E3.trans E4).trans E5).trans E6).trans E7).trans E8) f2)
    walk_at "rvs"
    refine ⟨(by show 2 ≤ sizeLine; decide), fun p9 hp9 => ?_⟩
    have E9 := Evl.Ex.new (o := .tup [V.str "not", V.ref p3]) hp9
    have f9 : Dp K _ (.ref p9) (dat (.no (.letter "b"))) := mk_no (SqT.of upd_same) (dpF_ex (((((E4.trans E5).trans E6).trans E7).trans E8).trans E9) f3)
    walk_at "rvs"
    refine ⟨(by show 2 ≤ sizeLine; decide), fun p10 hp10 => ?_⟩
    have E10 := Evl.Ex.new (o := .tup [V.ref p8, V.ref p9]) hp10
    walk_at "rvs"
    refine ⟨(by show 2 ≤ sizeLine; decide), fun p11 hp11 => ?_⟩
    have E11 := Evl.Ex.new (o := .tup [V.str "and", .ref p10]) hp11
    have f11 : Dp K _ (.ref p11) (dat (.conn true [(.no (.letter "a")), (.no (.letter "b"))])) := mk_conn (b := true) (Evl.ex_t E11 (SqT.of upd_same)) (.cons (dpF_ex ((E9.trans E10).trans E11) f8) (.cons (dpF_ex (E10.trans E11) f9) .nil)) (SqT.of upd_same)
    walk_at "rvs"
    refine ⟨(by show 2 ≤ sizeLine; decide), fun p12 hp12 => ?_⟩
    have E12 := Evl.Ex.new (o := .tup [V.ref p7, V.ref p11]) hp12
    walk_at "rvs"
    refine ⟨(by show 2 ≤ sizeLine; decide), fun p13 hp13 => ?_⟩
    have E13 := Evl.Ex.new (o := .tup [V.str "or", .ref p12]) hp13
    have f13 : Dp K _ (.ref p13) (dat (.conn false [(.conn true [(.letter "a"), (.letter "b")]), (.conn true [(.no (.letter "a")), (.no (.letter "b"))])])) := mk_conn (b := false) (Evl.ex_t E13 (SqT.of upd_same)) (.cons (dpF_ex (((((E8.trans E9).trans E10).trans E11).trans E12).trans E13) f7) (.cons (dpF_ex (E12.trans E13) f11) .nil)) (SqT.of upd_same)
    walk_at "rvs"
    refine ⟨(by show 2 ≤ sizeLine; decide), fun p14 hp14 => ?_⟩
    have E14 := Evl.Ex.new (o := .tup [V.ref p5, V.ref p13]) hp14
    have q1 : P62 K _ (.ref p14) := ⟨p14, _, _, _, _, rfl, SqT.of upd_same, (dpF_ex ((((((((E6.trans E7).trans E8).trans E9).trans E10).trans E11).trans E12).trans E13).trans E14) f5), (dpF_ex E14 f13), .of (by decide +kernel) (by decide +kernel) (by decide +kernel)⟩
    walk_at "rvs"
    refine ⟨(by show 2 ≤ sizeLine; decide), fun p15 hp15 => ?_⟩
    have E15 := Evl.Ex.new (o := .tup [V.ref p2, V.ref p1]) hp15
    have q2 : P62 K _ (.ref p15) := ⟨p15, _, _, _, _, rfl, SqT.of upd_same, (dpF_ex ((((((((((((E3.trans E4).trans E5).trans E6).trans E7).trans E8).trans E9).trans E10).trans E11).trans E12).trans E13).trans E14).trans E15) f2), (dpF_ex (((((((((((((E2.trans E3).trans E4).trans E5).trans E6).trans E7).trans E8).trans E9).trans E10).trans E11).trans E12).trans E13).trans E14).trans E15) f1), .of (by decide +kernel) (by decide +kernel) (by decide +kernel)⟩
    walk_at "rvs"
    refine ⟨(by show 2 ≤ sizeLine; decide), fun p16 hp16 => ?_⟩
    have E16 := Evl.Ex.new (o := .lst [V.ref p14, .ref p15]) hp16
    have hDl := (Gt.ex (((((((((((((((E1.trans E2).trans E3).trans E4).trans E5).trans E6).trans E7).trans E8).trans E9).trans E10).trans E11).trans E12).trans E13).trans E14).trans E15).trans E16) hD2).dk
    have oL := (Gt.ex ((((((((((((((E1.trans E2).trans E3).trans E4).trans E5).trans E6).trans E7).trans E8).trans E9).trans E10).trans E11).trans E12).trans E13).trans E14).trans E15) hD2).dk.off hp16
    have r1 := (q1.gt (Gt.ex E15 (Gt.ex (((((((((((((E1.trans E2).trans E3).trans E4).trans E5).trans E6).trans E7).trans E8).trans E9).trans E10).trans E11).trans E12).trans E13).trans E14) hD2).dk) (Gt.ex (((((((((((((E1.trans E2).trans E3).trans E4).trans E5).trans E6).trans E7).trans E8).trans E9).trans E10).trans E11).trans E12).trans E13).trans E14) hD2).dk).gt (Gt.ex E16 (Gt.ex ((((((((((((((E1.trans E2).trans E3).trans E4).trans E5).trans E6).trans E7).trans E8).trans E9).trans E10).trans E11).trans E12).trans E13).trans E14).trans E15) hD2).dk) (Gt.ex ((((((((((((((E1.trans E2).trans E3).trans E4).trans E5).trans E6).trans E7).trans E8).trans E9).trans E10).trans E11).trans E12).trans E13).trans E14).trans E15) hD2).dk
    have r2 := q2.gt (Gt.ex E16 (Gt.ex ((((((((((((((E1.trans E2).trans E3).trans E4).trans E5).trans E6).trans E7).trans E8).trans E9).trans E10).trans E11).trans E12).trans E13).trans E14).trans E15) hD2).dk) (Gt.ex ((((((((((((((E1.trans E2).trans E3).trans E4).trans E5).trans E6).trans E7).trans E8).trans E9).trans E10).trans E11).trans E12).trans E13).trans E14).trans E15) hD2).dk
    refine rd_name (σ' := [some (.ref a), some (.ref d), x2, x3, x4, x5, x6, x7, some (V.ref p1), some (V.ref p2), some (V.ref p3), some (.ref p16), none]) rfl ?_
    dsimp only
    refine seal_heap (D := St62 K d l p16 (V.ref p1) (V.ref p2) (V.ref p3) 2) ⟨hDl, oL.1, oL.2, (dpF_ex ((((((((((((((E2.trans E3).trans E4).trans E5).trans E6).trans E7).trans E8).trans E9).trans E10).trans E11).trans E12).trans E13).trans E14).trans E15).trans E16) f1), (dpF_ex (((((((((((((E3.trans E4).trans E5).trans E6).trans E7).trans E8).trans E9).trans E10).trans E11).trans E12).trans E13).trans E14).trans E15).trans E16) f2), (dpF_ex ((((((((((((E4.trans E5).trans E6).trans E7).trans E8).trans E9).trans E10).trans E11).trans E12).trans E13).trans E14).trans E15).trans E16) f3), _, upd_same, Nat.le_refl _, fun y hy => ?_⟩ fun Z0 st0 => ?_
    · simp only [List.mem_cons, List.not_mem_nil, or_false] at hy
      rcases hy with rfl | rfl
      · exact r1
      · exact r2
    clear E16 E15 E14 E13 E12 E11 E10 E9 E8 E7 E6 E5 E4 E3 E2 E1 r1 r2 q1 q2 hDl oL hD2
    obtain ⟨xs0, hS0, hSl0, _⟩ := st0.xs
    have hDz0 := st0.dk
    have zx := st0.fx
    have za := st0.fa
    have zb := st0.fb
    walk_at "rvs"
    refine rd_tyL hS0 ?_
    walk_at "rvs"
    refine ⟨(by show 2 ≤ sizeLine; decide), fun p101 hp101 => ?_⟩
    have E101 := Evl.Ex.new (o := .tup [V.ref p1, V.ref p2]) hp101
    walk_at "rvs"
    refine ⟨(by show 2 ≤ sizeLine; decide), fun p102 hp102 => ?_⟩
    have E102 := Evl.Ex.new (o := .tup [V.str "or", .ref p101]) hp102
    have f102 : Dp K _ (.ref p102) (dat (.conn false [(.letter "x"), (.letter "a")])) := mk_conn (b := false) (Evl.ex_t E102 (SqT.of upd_same)) (.cons (dpF_ex (E101.trans E102) zx) (.cons (dpF_ex (E101.trans E102) za) .nil)) (SqT.of upd_same)
    walk_at "rvs"
    refine ⟨(by show 3 ≤ sizeLine; decide), fun p103 hp103 => ?_⟩
    have E103 := Evl.Ex.new (o := .tup [V.str "each", .str "x", V.ref p102]) hp103
    have f103 : Dp K _ (.ref p103) (dat (.quan true "x" (.conn false [(.letter "x"), (.letter "a")]))) := mk_quan (b := true) (SqT.of upd_same) (dpF_ex E103 f102)
    walk_at "rvs"
    refine ⟨(by show 2 ≤ sizeLine; decide), fun p104 hp104 => ?_⟩
    have E104 := Evl.Ex.new (o := .tup [V.str "not", V.ref p103]) hp104
    have f104 : Dp K _ (.ref p104) (dat (.no (.quan true "x" (.conn false [(.letter "x"), (.letter "a")])))) := mk_no (SqT.of upd_same) (dpF_ex E104 f103)
    walk_at "rvs"
    refine ⟨(by show 2 ≤ sizeLine; decide), fun p105 hp105 => ?_⟩
    have E105 := Evl.Ex.new (o := .tup [V.str "not", V.ref p1]) hp105
    have f105 : Dp K _ (.ref p105) (dat (.no (.letter "x"))) := mk_no (SqT.of upd_same) (dpF_ex ((((E101.trans E102).trans E103).trans E104).trans E105) zx)
    walk_at "rvs"
    refine ⟨(by show 2 ≤ sizeLine; decide), fun p106 hp106 => ?_⟩
    have E106 := Evl.Ex.new (o := .tup [V.str "not", V.ref p2]) hp106
    have f106 : Dp K _ (.ref p106) (dat (.no (.letter "a"))) := mk_no (SqT.of upd_same) (dpF_ex (((((E101.trans E102).trans E103).trans E104).trans E105).trans E106) za)
    walk_at "rvs"
    refine ⟨(by show 2 ≤ sizeLine; decide), fun p107 hp107 => ?_⟩
    have E107 := Evl.Ex.new (o := .tup [V.ref p105, V.ref p106]) hp107
    walk_at "rvs"
    refine ⟨(by show 2 ≤ sizeLine; decide), fun p108 hp108 => ?_⟩
    have E108 := Evl.Ex.new (o := .tup [V.str "and", .ref p107]) hp108
    have f108 : Dp K _ (.ref p108) (dat (.conn true [(.no (.letter "x")), (.no (.letter "a"))])) := mk_conn (b := true) (Evl.ex_t E108 (SqT.of upd_same)) (.cons (dpF_ex ((E106.trans E107).trans E108) f105) (.cons (dpF_ex (E107.trans E108) f106) .nil)) (SqT.of upd_same)
    walk_at "rvs"
    refine ⟨(by show 3 ≤ sizeLine; decide), fun p109 hp109 => ?_⟩
    have E109 := Evl.Ex.new (o := .tup [V.str "some", .str "x", V.ref p108]) hp109
    have f109 : Dp K _ (.ref p109) (dat (.quan false "x" (.conn true [(.no (.letter "x")), (.no (.letter "a"))]))) := mk_quan (b := false) (SqT.of upd_same) (dpF_ex E109 f108)
    walk_at "rvs"
    refine ⟨(by show 2 ≤ sizeLine; decide), fun p110 hp110 => ?_⟩
    have E110 := Evl.Ex.new (o := .tup [V.ref p104, V.ref p109]) hp110
    have q1 : P62 K _ (.ref p110) := ⟨p110, _, _, _, _, rfl, SqT.of upd_same, (dpF_ex (((((E105.trans E106).trans E107).trans E108).trans E109).trans E110) f104), (dpF_ex E110 f109), .of (by decide +kernel) (by decide +kernel) (by decide +kernel)⟩
    have stn := st0.gt (Gt.ex (((((((((E101.trans E102).trans E103).trans E104).trans E105).trans E106).trans E107).trans E108).trans E109).trans E110) hDz0)
    have hSn := (((((((((E101.trans E102).trans E103).trans E104).trans E105).trans E106).trans E107).trans E108).trans E109).trans E110) _ _ hS0
    walk_at "rvs"
    refine rd_append hSn (by omega) ?_
    dsimp only
    refine seal_heap (D := St62 K d l p16 (V.ref p1) (V.ref p2) (V.ref p3) 3) (stn.put hSn q1) fun Z1 st1 => ?_
    clear stn hSn q1 E110 E109 E108 E107 E106 E105 E104 E103 E102 E101 zx za zb hS0 st0
    obtain ⟨xs1, hS1, hSl1, _⟩ := st1.xs
    have hDz1 := st1.dk
    have zx := st1.fx
    have za := st1.fa
    have zb := st1.fb
    walk_at "rvs"
    refine rd_tyL hS1 ?_
    walk_at "rvs"
    refine ⟨(by show 3 ≤ sizeLine; decide), fun p201 hp201 => ?_⟩
    have E201 := Evl.Ex.new (o := .tup [V.str "same", V.ref p1, V.ref p2]) hp201
    have f201 : Dp K _ (.ref p201) (dat (.same (.letter "x") (.letter "a"))) := mk_same (SqT.of upd_same) (dpF_ex E201 zx) (dpF_ex E201 za)
    walk_at "rvs"
    refine ⟨(by show 3 ≤ sizeLine; decide), fun p202 hp202 => ?_⟩
    have E202 := Evl.Ex.new (o := .tup [V.str "some", .str "a", V.ref p201]) hp202
    have f202 : Dp K _ (.ref p202) (dat (.quan false "a" (.same (.letter "x") (.letter "a")))) := mk_quan (b := false) (SqT.of upd_same) (dpF_ex E202 f201)
    walk_at "rvs"
    refine ⟨(by show 3 ≤ sizeLine; decide), fun p203 hp203 => ?_⟩
    have E203 := Evl.Ex.new (o := .tup [V.str "each", .str "x", V.ref p202]) hp203
    have f203 : Dp K _ (.ref p203) (dat (.quan true "x" (.quan false "a" (.same (.letter "x") (.letter "a"))))) := mk_quan (b := true) (SqT.of upd_same) (dpF_ex E203 f202)
    walk_at "rvs"
    refine ⟨(by show 3 ≤ sizeLine; decide), fun p204 hp204 => ?_⟩
    have E204 := Evl.Ex.new (o := .tup [V.str "same", V.ref p1, V.ref p2]) hp204
    have f204 : Dp K _ (.ref p204) (dat (.same (.letter "x") (.letter "a"))) := mk_same (SqT.of upd_same) (dpF_ex (((E201.trans E202).trans E203).trans E204) zx) (dpF_ex (((E201.trans E202).trans E203).trans E204) za)
    walk_at "rvs"
    refine ⟨(by show 3 ≤ sizeLine; decide), fun p205 hp205 => ?_⟩
    have E205 := Evl.Ex.new (o := .tup [V.str "each", .str "x", V.ref p204]) hp205
    have f205 : Dp K _ (.ref p205) (dat (.quan true "x" (.same (.letter "x") (.letter "a")))) := mk_quan (b := true) (SqT.of upd_same) (dpF_ex E205 f204)
    walk_at "rvs"
    refine ⟨(by show 3 ≤ sizeLine; decide), fun p206 hp206 => ?_⟩
    have E206 := Evl.Ex.new (o := .tup [V.str "some", .str "a", V.ref p205]) hp206
    have f206 : Dp K _ (.ref p206) (dat (.quan false "a" (.quan true "x" (.same (.letter "x") (.letter "a"))))) := mk_quan (b := false) (SqT.of upd_same) (dpF_ex E206 f205)
    walk_at "rvs"
    refine ⟨(by show 2 ≤ sizeLine; decide), fun p207 hp207 => ?_⟩
    have E207 := Evl.Ex.new (o := .tup [V.ref p203, V.ref p206]) hp207
    have q1 : P62 K _ (.ref p207) := ⟨p207, _, _, _, _, rfl, SqT.of upd_same, (dpF_ex (((E204.trans E205).trans E206).trans E207) f203), (dpF_ex E207 f206), .of (by decide +kernel) (by decide +kernel) (by decide +kernel)⟩
    have stn := st1.gt (Gt.ex ((((((E201.trans E202).trans E203).trans E204).trans E205).trans E206).trans E207) hDz1)
    have hSn := ((((((E201.trans E202).trans E203).trans E204).trans E205).trans E206).trans E207) _ _ hS1
    walk_at "rvs"
    refine rd_append hSn (by omega) ?_
    dsimp only
    refine seal_heap (D := St62 K d l p16 (V.ref p1) (V.ref p2) (V.ref p3) 4) (stn.put hSn q1) fun Z2 st2 => ?_
    clear stn hSn q1 E207 E206 E205 E204 E203 E202 E201 zx za zb hS1 st1
    walk_at "rvs"
    obtain ⟨xs2, hS2, hSl2, _⟩ := st2.xs
    refine rd_tyL hS2 ?_
    walk_at "rvs"
    refine ⟨(by show 5 ≤ sizeLine; decide), fun pk hpk => ?_⟩
    have gk := Gt.new (o := .lst [V.int 1, .int 3, .int 4, .int 5, .int 6]) st2.dk hpk
    have ek := Evl.Ex.new (o := .lst [V.int 1, .int 3, .int 4, .int 5, .int 6]) hpk
    obtain ⟨v1, v2⟩ := st2.dk.off hpk
    walk_at "rvs"
    refine ⟨d, l, pk, _, rfl, gk.dk, upd_same, v1, v2, by show 1 ≤ 5; decide, by show 5 ≤ 1000; decide, fun y H6 g6 hy => ?_⟩
    obtain ⟨n, rfl, hn1, hn⟩ : ∃ n : Nat, y = .int (n : Int) ∧ 1 ≤ n ∧ n ≤ 6 := by
      simp only [List.mem_cons, List.not_mem_nil, or_false] at hy
      rcases hy with rfl | rfl | rfl | rfl | rfl
      · exact ⟨1, rfl, by decide, by decide⟩
      · exact ⟨3, rfl, by decide, by decide⟩
      · exact ⟨4, rfl, by decide, by decide⟩
      · exact ⟨5, rfl, by decide, by decide⟩
      · exact ⟨6, rfl, by decide, by decide⟩
    have st6 := (st2.gt gk).gt g6
    have hS6 := g6.kp _ _ st2.o1 st2.o2 (ek _ _ hS2)
    walk_at "rvs"
    refine ⟨d, l, n, rfl, st6.dk, hn1, hn, fun t v u f H7 g7 sT dv du r1 r2 r3 r4 r5 r6 => ?_⟩
    have st7 := st6.gt g7
    have hS7 := g7.kp _ _ st2.o1 st2.o2 hS6
    have hB7 : loneB.length ≤ 9 := by decide
    have q7 : P62 K H7 (.ref t) := ⟨t, v, u, f, _, rfl, sT, dv, du, ⟨by omega, by decide, by omega, by decide, by omega, by decide, by omega, by decide, r1, by decide⟩, loneB, hB7, r6, fun z hz => by cases hz⟩
    walk_at "rvs"
    refine rd_append hS7 (by omega) ?_
    dsimp only
    refine seal_heap (D := St62 K d l p16 (V.ref p1) (V.ref p2) (V.ref p3) 5) (st7.put hS7 q7) fun Z3 st3 => ?_
    obtain ⟨xs3, hS3, hSl3, hall3⟩ := st3.xs
    walk_at "rds"
    refine ⟨p16, rfl, ⟨_, SqL.of hS3⟩, ?_⟩
    refine lc_none2 (K := K) (xs := xs3) hS3 rfl (σx := fun y z => [some (.ref a), some (.ref d), x2, x3, x4, x5, x6, some z, some (V.ref p1), some (V.ref p2), some (V.ref p3), some (.ref p16), some y]) (fun _ _ => rfl) (fun _ _ => rfl) (fun y hy H8 e8 => ?_) fun D H8 e8 hn8 hD => ?_
    · obtain ⟨T, v, u, f, g, rfl, sT, dv, du, hm, B, hB9, hB1, hB2⟩ := hall3 y hy
      obtain ⟨m1, m2, m3, m4, m5, m6, m7, m8, m9, m10⟩ := hm
      refine ⟨T, v, u, rfl, Evl.ex_t e8 sT, fun N S kS => ?_⟩
      walk_at "rds"
      refine ⟨v, u, f, g, B, _, rfl, dpF_ex e8 dv, dpF_ex e8 du, m1, m2, m3, m4, m5, m6, m7, m8, m9, m10, hB9, hB1, hB2, fun Hf ef => ?_⟩
      walk_at "rds"
      exact kS _ ef
    walk_at "rds"
    refine ⟨Nat.zero_le _, fun p hp => ?_⟩
    have e9 := Evl.Ex.new (o := .lst []) hp
    refine ⟨.list [], .list [], .lst (SqL.of (e9 _ _ hD)) .nil, .lst (SqL.of upd_same) .nil, by decide, by decide, ?_⟩
    exact q _
end
end KA
set_option Elab.async false
set_option linter.all false
set_option maxRecDepth 100000
set_option maxHeartbeats 400000
namespace KA
open PySem PySem.Spec PyProof.Rows L2 Ea
theorem all_mk {l : PySem.W.OpenLaw} {w : World} {K : PySem.W.Frag} {h : Heap} {mg : Str → Option Value} {fa f0 f1 f2 f3 f4 f5 f6 f7 f8 f9 f10 f11 f12 f13 f14 f15 f16 f17 f18 f19 f20 f21 f22 : Addr} (X : K.In h) (G : h.Ns mainGlobals mg) (hfa : mg "law" = some (.ref fa))
    {od0 an0 : Option Addr} {sl0 : Array (Option Value)} {oc0 kV0 dc0 pm0 cd0 ct0 : Value} {od1 an1 : Option Addr} {sl1 : Array (Option Value)} {oc1 kV1 dc1 pm1 cd1 ct1 : Value} {od2 an2 : Option Addr} {sl2 : Array (Option Value)} {oc2 kV2 dc2 pm2 cd2 ct2 : Value} {od3 an3 : Option Addr} {sl3 : Array (Option Value)} {oc3 kV3 dc3 pm3 cd3 ct3 : Value} {od4 an4 : Option Addr} {sl4 : Array (Option Value)} {oc4 kV4 dc4 pm4 cd4 ct4 : Value} {od5 an5 : Option Addr} {sl5 : Array (Option Value)} {oc5 kV5 dc5 pm5 cd5 ct5 : Value} {od6 an6 : Option Addr} {sl6 : Array (Option Value)} {oc6 kV6 dc6 pm6 cd6 ct6 : Value} {od7 an7 : Option Addr} {sl7 : Array (Option Value)} {oc7 kV7 dc7 pm7 cd7 ct7 : Value} {od8 an8 : Option Addr} {sl8 : Array (Option Value)} {oc8 kV8 dc8 pm8 cd8 ct8 : Value} {od9 an9 : Option Addr} {sl9 : Array (Option Value)} {oc9 kV9 dc9 pm9 cd9 ct9 : Value} {od10 an10 : Option Addr} {sl10 : Array (Option Value)} {oc10 kV10 dc10 pm10 cd10 ct10 : Value} {od11 an11 : Option Addr} {sl11 : Array (Option Value)} {oc11 kV11 dc11 pm11 cd11 ct11 : Value} {od12 an12 : Option Addr} {sl12 : Array (Option Value)} {oc12 kV12 dc12 pm12 cd12 ct12 : Value} {od13 an13 : Option Addr} {sl13 : Array (Option Value)} {oc13 kV13 dc13 pm13 cd13 ct13 : Value} {od14 an14 : Option Addr} {sl14 : Array (Option Value)} {oc14 kV14 dc14 pm14 cd14 ct14 : Value} {od15 an15 : Option Addr} {sl15 : Array (Option Value)} {oc15 kV15 dc15 pm15 cd15 ct15 : Value} {od16 an16 : Option Addr} {sl16 : Array (Option Value)} {oc16 kV16 dc16 pm16 cd16 ct16 : Value} {od17 an17 : Option Addr} {sl17 : Array (Option Value)} {oc17 kV17 dc17 pm17 cd17 ct17 : Value} {od18 an18 : Option Addr} {sl18 : Array (Option Value)} {oc18 kV18 dc18 pm18 cd18 ct18 : Value} {od19 an19 : Option Addr} {sl19 : Array (Option Value)} {oc19 kV19 dc19 pm19 cd19 ct19 : Value} {od20 an20 : Option Addr} {sl20 : Array (Option Value)} {oc20 kV20 dc20 pm20 cd20 ct20 : Value} {od21 an21 : Option Addr} {sl21 : Array (Option Value)} {oc21 kV21 dc21 pm21 cd21 ct21 : Value} {od22 an22 : Option Addr} {sl22 : Array (Option Value)} {oc22 kV22 dc22 pm22 cd22 ct22 : Value}
    (a0 : PySem.W.nsIn K mainGlobals "parts_of" = some (some (.ref f0))) (l0 : K.lookup f0 = some ⟨oc0, od0, .func (PySem.W.fnOf "parts_of" "parts_of" (defArgs sparts_of) (defBody sparts_of) (defScope sparts_of) .none kV0 dc0 pm0 an0 cd0 ct0), sl0⟩) (c0 : PySem.W.codeIn K cd0 "parts_of" = true) (k0 : PySem.W.keepIn K (.ref f0) = true)
    (a1 : PySem.W.nsIn K mainGlobals "free_names" = some (some (.ref f1))) (l1 : K.lookup f1 = some ⟨oc1, od1, .func (PySem.W.fnOf "free_names" "free_names" (defArgs sfree_names) (defBody sfree_names) (defScope sfree_names) .none kV1 dc1 pm1 an1 cd1 ct1), sl1⟩) (c1 : PySem.W.codeIn K cd1 "free_names" = true) (k1 : PySem.W.keepIn K (.ref f1) = true)
    (a2 : PySem.W.nsIn K mainGlobals "with_name" = some (some (.ref f2))) (l2 : K.lookup f2 = some ⟨oc2, od2, .func (PySem.W.fnOf "with_name" "with_name" (defArgs swith_name) (defBody swith_name) (defScope swith_name) .none kV2 dc2 pm2 an2 cd2 ct2), sl2⟩) (c2 : PySem.W.codeIn K cd2 "with_name" = true) (k2 : PySem.W.keepIn K (.ref f2) = true)
    (a3 : PySem.W.nsIn K mainGlobals "in_all" = some (some (.ref f3))) (l3 : K.lookup f3 = some ⟨oc3, od3, .func (PySem.W.fnOf "in_all" "in_all" (defArgs sin_all) (defBody sin_all) (defScope sin_all) .none kV3 dc3 pm3 an3 cd3 ct3), sl3⟩) (c3 : PySem.W.codeIn K cd3 "in_all" = true) (k3 : PySem.W.keepIn K (.ref f3) = true)
    (a4 : PySem.W.nsIn K mainGlobals "in_some" = some (some (.ref f4))) (l4 : K.lookup f4 = some ⟨oc4, od4, .func (PySem.W.fnOf "in_some" "in_some" (defArgs sin_some) (defBody sin_some) (defScope sin_some) .none kV4 dc4 pm4 an4 cd4 ct4), sl4⟩) (c4 : PySem.W.codeIn K cd4 "in_some" = true) (k4 : PySem.W.keepIn K (.ref f4) = true)
    (a5 : PySem.W.nsIn K mainGlobals "where_holding" = some (some (.ref f5))) (l5 : K.lookup f5 = some ⟨oc5, od5, .func (PySem.W.fnOf "where_holding" "where_holding" (defArgs swhere_holding) (defBody swhere_holding) (defScope swhere_holding) .none kV5 dc5 pm5 an5 cd5 ct5), sl5⟩) (c5 : PySem.W.codeIn K cd5 "where_holding" = true) (k5 : PySem.W.keepIn K (.ref f5) = true)
    (a6 : PySem.W.nsIn K mainGlobals "where_quantified" = some (some (.ref f6))) (l6 : K.lookup f6 = some ⟨oc6, od6, .func (PySem.W.fnOf "where_quantified" "where_quantified" (defArgs swhere_quantified) (defBody swhere_quantified) (defScope swhere_quantified) .none kV6 dc6 pm6 an6 cd6 ct6), sl6⟩) (c6 : PySem.W.codeIn K cd6 "where_quantified" = true) (k6 : PySem.W.keepIn K (.ref f6) = true)
    (a7 : PySem.W.nsIn K mainGlobals "worlds_of" = some (some (.ref f7))) (l7 : K.lookup f7 = some ⟨oc7, od7, .func (PySem.W.fnOf "worlds_of" "worlds_of" (defArgs sworlds_of) (defBody sworlds_of) (defScope sworlds_of) .none kV7 dc7 pm7 an7 cd7 ct7), sl7⟩) (c7 : PySem.W.codeIn K cd7 "worlds_of" = true) (k7 : PySem.W.keepIn K (.ref f7) = true)
    (a8 : PySem.W.nsIn K mainGlobals "parting_world" = some (some (.ref f8))) (l8 : K.lookup f8 = some ⟨oc8, od8, .func (PySem.W.fnOf "parting_world" "parting_world" (defArgs sparting_world) (defBody sparting_world) (defScope sparting_world) .none kV8 dc8 pm8 an8 cd8 ct8), sl8⟩) (c8 : PySem.W.codeIn K cd8 "parting_world" = true) (k8 : PySem.W.keepIn K (.ref f8) = true)
    (a9 : PySem.W.nsIn K mainGlobals "_law_bag" = some (some (.ref f9))) (l9 : K.lookup f9 = some ⟨oc9, od9, .func (PySem.W.fnOf "_law_bag" "_law_bag" (defArgs s_law_bag) (defBody s_law_bag) (defScope s_law_bag) .none kV9 dc9 pm9 an9 cd9 ct9), sl9⟩) (c9 : PySem.W.codeIn K cd9 "_law_bag" = true) (k9 : PySem.W.keepIn K (.ref f9) = true)
    (a10 : PySem.W.nsIn K mainGlobals "_law_take" = some (some (.ref f10))) (l10 : K.lookup f10 = some ⟨oc10, od10, .func (PySem.W.fnOf "_law_take" "_law_take" (defArgs s_law_take) (defBody s_law_take) (defScope s_law_take) .none kV10 dc10 pm10 an10 cd10 ct10), sl10⟩) (c10 : PySem.W.codeIn K cd10 "_law_take" = true) (k10 : PySem.W.keepIn K (.ref f10) = true)
    (a11 : PySem.W.nsIn K mainGlobals "_law_pick" = some (some (.ref f11))) (l11 : K.lookup f11 = some ⟨oc11, od11, .func (PySem.W.fnOf "_law_pick" "_law_pick" (defArgs s_law_pick) (defBody s_law_pick) (defScope s_law_pick) .none kV11 dc11 pm11 an11 cd11 ct11), sl11⟩) (c11 : PySem.W.codeIn K cd11 "_law_pick" = true) (k11 : PySem.W.keepIn K (.ref f11) = true)
    (a12 : PySem.W.nsIn K mainGlobals "_law_parts_of" = some (some (.ref f12))) (l12 : K.lookup f12 = some ⟨oc12, od12, .func (PySem.W.fnOf "_law_parts_of" "_law_parts_of" (defArgs s_law_parts_of) (defBody s_law_parts_of) (defScope s_law_parts_of) .none kV12 dc12 pm12 an12 cd12 ct12), sl12⟩) (c12 : PySem.W.codeIn K cd12 "_law_parts_of" = true) (k12 : PySem.W.keepIn K (.ref f12) = true)
    (a13 : PySem.W.nsIn K mainGlobals "_law_remade" = some (some (.ref f13))) (l13 : K.lookup f13 = some ⟨oc13, od13, .func (PySem.W.fnOf "_law_remade" "_law_remade" (defArgs s_law_remade) (defBody s_law_remade) (defScope s_law_remade) .none kV13 dc13 pm13 an13 cd13 ct13), sl13⟩) (c13 : PySem.W.codeIn K cd13 "_law_remade" = true) (k13 : PySem.W.keepIn K (.ref f13) = true)
    (a14 : PySem.W.nsIn K mainGlobals "_law_formula" = some (some (.ref f14))) (l14 : K.lookup f14 = some ⟨oc14, od14, .func (PySem.W.fnOf "_law_formula" "_law_formula" (defArgs s_law_formula) (defBody s_law_formula) (defScope s_law_formula) .none kV14 dc14 pm14 an14 cd14 ct14), sl14⟩) (c14 : PySem.W.codeIn K cd14 "_law_formula" = true) (k14 : PySem.W.keepIn K (.ref f14) = true)
    (a15 : PySem.W.nsIn K mainGlobals "_law_truth" = some (some (.ref f15))) (l15 : K.lookup f15 = some ⟨oc15, od15, .func (PySem.W.fnOf "_law_truth" "_law_truth" (defArgs s_law_truth) (defBody s_law_truth) (defScope s_law_truth) .none kV15 dc15 pm15 an15 cd15 ct15), sl15⟩) (c15 : PySem.W.codeIn K cd15 "_law_truth" = true) (k15 : PySem.W.keepIn K (.ref f15) = true)
    (a16 : PySem.W.nsIn K mainGlobals "_law_free" = some (some (.ref f16))) (l16 : K.lookup f16 = some ⟨oc16, od16, .func (PySem.W.fnOf "_law_free" "_law_free" (defArgs s_law_free) (defBody s_law_free) (defScope s_law_free) .none kV16 dc16 pm16 an16 cd16 ct16), sl16⟩) (c16 : PySem.W.codeIn K cd16 "_law_free" = true) (k16 : PySem.W.keepIn K (.ref f16) = true)
    (a17 : PySem.W.nsIn K mainGlobals "_law_worlds" = some (some (.ref f17))) (l17 : K.lookup f17 = some ⟨oc17, od17, .func (PySem.W.fnOf "_law_worlds" "_law_worlds" (defArgs s_law_worlds) (defBody s_law_worlds) (defScope s_law_worlds) .none kV17 dc17 pm17 an17 cd17 ct17), sl17⟩) (c17 : PySem.W.codeIn K cd17 "_law_worlds" = true) (k17 : PySem.W.keepIn K (.ref f17) = true)
    (a18 : PySem.W.nsIn K mainGlobals "_law_due_world" = some (some (.ref f18))) (l18 : K.lookup f18 = some ⟨oc18, od18, .func (PySem.W.fnOf "_law_due_world" "_law_due_world" (defArgs s_law_due_world) (defBody s_law_due_world) (defScope s_law_due_world) .none kV18 dc18 pm18 an18 cd18 ct18), sl18⟩) (c18 : PySem.W.codeIn K cd18 "_law_due_world" = true) (k18 : PySem.W.keepIn K (.ref f18) = true)
    (a19 : PySem.W.nsIn K mainGlobals "_law_is_told" = some (some (.ref f19))) (l19 : K.lookup f19 = some ⟨oc19, od19, .func (PySem.W.fnOf "_law_is_told" "_law_is_told" (defArgs s_law_is_told) (defBody s_law_is_told) (defScope s_law_is_told) .none kV19 dc19 pm19 an19 cd19 ct19), sl19⟩) (c19 : PySem.W.codeIn K cd19 "_law_is_told" = true) (k19 : PySem.W.keepIn K (.ref f19) = true)
    (a20 : PySem.W.nsIn K mainGlobals "_law_near" = some (some (.ref f20))) (l20 : K.lookup f20 = some ⟨oc20, od20, .func (PySem.W.fnOf "_law_near" "_law_near" (defArgs s_law_near) (defBody s_law_near) (defScope s_law_near) .none kV20 dc20 pm20 an20 cd20 ct20), sl20⟩) (c20 : PySem.W.codeIn K cd20 "_law_near" = true) (k20 : PySem.W.keepIn K (.ref f20) = true)
    (a21 : PySem.W.nsIn K mainGlobals "_law_lone" = some (some (.ref f21))) (l21 : K.lookup f21 = some ⟨oc21, od21, .func (PySem.W.fnOf "_law_lone" "_law_lone" (defArgs s_law_lone) (defBody s_law_lone) (defScope s_law_lone) .none kV21 dc21 pm21 an21 cd21 ct21), sl21⟩) (c21 : PySem.W.codeIn K cd21 "_law_lone" = true) (k21 : PySem.W.keepIn K (.ref f21) = true)
    (a22 : PySem.W.nsIn K mainGlobals "law" = some (some (.ref f22))) (l22 : K.lookup f22 = some ⟨oc22, od22, .func (PySem.W.fnOf "law" "law" (defArgs slaw) (defBody slaw) (defScope slaw) .none kV22 dc22 pm22 an22 cd22 ct22), sl22⟩) (c22 : PySem.W.codeIn K cd22 "law" = true) (k22 : PySem.W.keepIn K (.ref f22) = true)
    (z0 : PySem.W.nsIn K mainGlobals "len" = some none) (z1 : PySem.W.nsIn K mainGlobals "abs" = some none) (z2 : PySem.W.nsIn K mainGlobals "min" = some none) (z3 : PySem.W.nsIn K mainGlobals "max" = some none) (z4 : PySem.W.nsIn K mainGlobals "sorted" = some none) (z5 : PySem.W.nsIn K mainGlobals "tuple" = some none) (z6 : PySem.W.nsIn K mainGlobals "list" = some none) (z7 : PySem.W.nsIn K mainGlobals "set" = some none) (z8 : PySem.W.nsIn K mainGlobals "int" = some none) (z9 : PySem.W.nsIn K mainGlobals "range" = some none) (z10 : PySem.W.nsIn K mainGlobals "repr" = some none) (z11 : PySem.W.nsIn K mainGlobals "isinstance" = some none) (z12 : PySem.W.nsIn K mainGlobals "enumerate" = some none) (z13 : PySem.W.nsIn K mainGlobals "zip" = some none) (z14 : PySem.W.nsIn K mainGlobals "sum" = some none) (z15 : PySem.W.nsIn K mainGlobals "all" = some none) (z16 : PySem.W.nsIn K mainGlobals "any" = some none) (z17 : PySem.W.nsIn K mainGlobals "str" = some none) (z18 : PySem.W.nsIn K mainGlobals "bool" = some none) (z19 : PySem.W.nsIn K mainGlobals "dict" = some none) (z20 : PySem.W.nsIn K mainGlobals "reversed" = some none)
    {jJOINING : Addr} {odJOINING : Option Addr} {itJOINING : Array Value} {nnJOINING : Nat} {slJOINING : Array (Option Value)} (aTJOINING : PySem.W.nsIn K mainGlobals "JOINING" = some (some (.ref jJOINING))) (lTJOINING : K.lookup jJOINING = some ⟨.type "tuple", odJOINING, .seq itJOINING nnJOINING, slJOINING⟩) (sTJOINING : itJOINING.size ≤ sizeLine) (vTJOINING : Vals [.str "and", .str "or"] itJOINING.toList)
    {jNAMING : Addr} {odNAMING : Option Addr} {itNAMING : Array Value} {nnNAMING : Nat} {slNAMING : Array (Option Value)} (aTNAMING : PySem.W.nsIn K mainGlobals "NAMING" = some (some (.ref jNAMING))) (lTNAMING : K.lookup jNAMING = some ⟨.type "tuple", odNAMING, .seq itNAMING nnNAMING, slNAMING⟩) (sTNAMING : itNAMING.size ≤ sizeLine) (vTNAMING : Vals [.str "letter", .str "each", .str "some"] itNAMING.toList)
    {jQUANTIFIERS : Addr} {odQUANTIFIERS : Option Addr} {itQUANTIFIERS : Array Value} {nnQUANTIFIERS : Nat} {slQUANTIFIERS : Array (Option Value)} (aTQUANTIFIERS : PySem.W.nsIn K mainGlobals "QUANTIFIERS" = some (some (.ref jQUANTIFIERS))) (lTQUANTIFIERS : K.lookup jQUANTIFIERS = some ⟨.type "tuple", odQUANTIFIERS, .seq itQUANTIFIERS nnQUANTIFIERS, slQUANTIFIERS⟩) (sTQUANTIFIERS : itQUANTIFIERS.size ≤ sizeLine) (vTQUANTIFIERS : Vals [.str "each", .str "some"] itQUANTIFIERS.toList)
    : ∃ fd : FuncData, (∀ (s : Shared) (v : Value), BindsTo s fd ⟨[v], []⟩ [("script", v)]) ∧ ∀ base : Heap, K.In base → base.Ns mainGlobals mg → FnG l.prog w K mg base 54 fa fd ["script"] (spLaw K) := by
  have e := hfa.symm.trans (PySem.W.mg_of X G a22)
  cases e
  have F0 := fun_mk (st := sparts_of) l0 c0 k0
  have b0 := F0.binds (ps := ["formula"]) fun _ _ _ _ _ _ us hl => match us, hl with | [_], _ => rfl
  have Cparts_of : Callee K mg "parts_of" f0 _ ["formula"] := ⟨PySem.W.mg_of X G a0, k0, b0⟩
  have F1 := fun_mk (st := sfree_names) l1 c1 k1
  have b1 := F1.binds (ps := ["formula"]) fun _ _ _ _ _ _ us hl => match us, hl with | [_], _ => rfl
  have Cfree_names : Callee K mg "free_names" f1 _ ["formula"] := ⟨PySem.W.mg_of X G a1, k1, b1⟩
  have F2 := fun_mk (st := swith_name) l2 c2 k2
  have b2 := F2.binds (ps := ["masks", "size", "name"]) fun _ _ _ _ _ _ us hl => match us, hl with | [_, _, _], _ => rfl
  have Cwith_name : Callee K mg "with_name" f2 _ ["masks", "size", "name"] := ⟨PySem.W.mg_of X G a2, k2, b2⟩
  have F3 := fun_mk (st := sin_all) l3 c3 k3
  have b3 := F3.binds (ps := ["found", "size"]) fun _ _ _ _ _ _ us hl => match us, hl with | [_, _], _ => rfl
  have Cin_all : Callee K mg "in_all" f3 _ ["found", "size"] := ⟨PySem.W.mg_of X G a3, k3, b3⟩
  have F4 := fun_mk (st := sin_some) l4 c4 k4
  have b4 := F4.binds (ps := ["found"]) fun _ _ _ _ _ _ us hl => match us, hl with | [_], _ => rfl
  have Cin_some : Callee K mg "in_some" f4 _ ["found"] := ⟨PySem.W.mg_of X G a4, k4, b4⟩
  have F5 := fun_mk (st := swhere_holding) l5 c5 k5
  have b5 := F5.binds (ps := ["formula", "masks", "size"]) fun _ _ _ _ _ _ us hl => match us, hl with | [_, _, _], _ => rfl
  have Cwhere_holding : Callee K mg "where_holding" f5 _ ["formula", "masks", "size"] := ⟨PySem.W.mg_of X G a5, k5, b5⟩
  have F6 := fun_mk (st := swhere_quantified) l6 c6 k6
  have b6 := F6.binds (ps := ["formula", "masks", "size"]) fun _ _ _ _ _ _ us hl => match us, hl with | [_, _, _], _ => rfl
  have Cwhere_quantified : Callee K mg "where_quantified" f6 _ ["formula", "masks", "size"] := ⟨PySem.W.mg_of X G a6, k6, b6⟩
  have F7 := fun_mk (st := sworlds_of) l7 c7 k7
  have b7 := F7.binds (ps := ["names"]) fun _ _ _ _ _ _ us hl => match us, hl with | [_], _ => rfl
  have Cworlds_of : Callee K mg "worlds_of" f7 _ ["names"] := ⟨PySem.W.mg_of X G a7, k7, b7⟩
  have F8 := fun_mk (st := sparting_world) l8 c8 k8
  have b8 := F8.binds (ps := ["one", "other"]) fun _ _ _ _ _ _ us hl => match us, hl with | [_, _], _ => rfl
  have Cparting_world : Callee K mg "parting_world" f8 _ ["one", "other"] := ⟨PySem.W.mg_of X G a8, k8, b8⟩
  have F9 := fun_mk (st := s_law_bag) l9 c9 k9
  have b9 := F9.binds (ps := ["script"]) fun _ _ _ _ _ _ us hl => match us, hl with | [_], _ => rfl
  have C_law_bag : Callee K mg "_law_bag" f9 _ ["script"] := ⟨PySem.W.mg_of X G a9, k9, b9⟩
  have F10 := fun_mk (st := s_law_take) l10 c10 k10
  have b10 := F10.binds (ps := ["bag", "many"]) fun _ _ _ _ _ _ us hl => match us, hl with | [_, _], _ => rfl
  have C_law_take : Callee K mg "_law_take" f10 _ ["bag", "many"] := ⟨PySem.W.mg_of X G a10, k10, b10⟩
  have F11 := fun_mk (st := s_law_pick) l11 c11 k11
  have b11 := F11.binds (ps := ["bag", "some"]) fun _ _ _ _ _ _ us hl => match us, hl with | [_, _], _ => rfl
  have C_law_pick : Callee K mg "_law_pick" f11 _ ["bag", "some"] := ⟨PySem.W.mg_of X G a11, k11, b11⟩
  have F12 := fun_mk (st := s_law_parts_of) l12 c12 k12
  have b12 := F12.binds (ps := ["f"]) fun _ _ _ _ _ _ us hl => match us, hl with | [_], _ => rfl
  have C_law_parts_of : Callee K mg "_law_parts_of" f12 _ ["f"] := ⟨PySem.W.mg_of X G a12, k12, b12⟩
  have F13 := fun_mk (st := s_law_remade) l13 c13 k13
  have b13 := F13.binds (ps := ["f", "parts"]) fun _ _ _ _ _ _ us hl => match us, hl with | [_, _], _ => rfl
  have C_law_remade : Callee K mg "_law_remade" f13 _ ["f", "parts"] := ⟨PySem.W.mg_of X G a13, k13, b13⟩
  have F14 := fun_mk (st := s_law_formula) l14 c14 k14
  have b14 := F14.binds (ps := ["bag", "names", "size", "more"]) fun _ _ _ _ _ _ us hl => match us, hl with | [_, _, _, _], _ => rfl
  have C_law_formula : Callee K mg "_law_formula" f14 _ ["bag", "names", "size", "more"] := ⟨PySem.W.mg_of X G a14, k14, b14⟩
  have F15 := fun_mk (st := s_law_truth) l15 c15 k15
  have b15 := F15.binds (ps := ["f", "world"]) fun _ _ _ _ _ _ us hl => match us, hl with | [_, _], _ => rfl
  have C_law_truth : Callee K mg "_law_truth" f15 _ ["f", "world"] := ⟨PySem.W.mg_of X G a15, k15, b15⟩
  have F16 := fun_mk (st := s_law_free) l16 c16 k16
  have b16 := F16.binds (ps := ["f", "bound"]) fun _ _ _ _ _ _ us hl => match us, hl with | [_, _], _ => rfl
  have C_law_free : Callee K mg "_law_free" f16 _ ["f", "bound"] := ⟨PySem.W.mg_of X G a16, k16, b16⟩
  have F17 := fun_mk (st := s_law_worlds) l17 c17 k17
  have b17 := F17.binds (ps := ["names"]) fun _ _ _ _ _ _ us hl => match us, hl with | [_], _ => rfl
  have C_law_worlds : Callee K mg "_law_worlds" f17 _ ["names"] := ⟨PySem.W.mg_of X G a17, k17, b17⟩
  have F18 := fun_mk (st := s_law_due_world) l18 c18 k18
  have b18 := F18.binds (ps := ["one", "other"]) fun _ _ _ _ _ _ us hl => match us, hl with | [_, _], _ => rfl
  have C_law_due_world : Callee K mg "_law_due_world" f18 _ ["one", "other"] := ⟨PySem.W.mg_of X G a18, k18, b18⟩
  have F19 := fun_mk (st := s_law_is_told) l19 c19 k19
  have b19 := F19.binds (ps := ["one", "other", "is_named"]) fun _ _ _ _ _ _ us hl => match us, hl with | [_, _, _], _ => rfl
  have C_law_is_told : Callee K mg "_law_is_told" f19 _ ["one", "other", "is_named"] := ⟨PySem.W.mg_of X G a19, k19, b19⟩
  have F20 := fun_mk (st := s_law_near) l20 c20 k20
  have b20 := F20.binds (ps := ["bag", "f"]) fun _ _ _ _ _ _ us hl => match us, hl with | [_, _], _ => rfl
  have C_law_near : Callee K mg "_law_near" f20 _ ["bag", "f"] := ⟨PySem.W.mg_of X G a20, k20, b20⟩
  have F21 := fun_mk (st := s_law_lone) l21 c21 k21
  have b21 := F21.binds (ps := ["bag", "many"]) fun _ _ _ _ _ _ us hl => match us, hl with | [_, _], _ => rfl
  have C_law_lone : Callee K mg "_law_lone" f21 _ ["bag", "many"] := ⟨PySem.W.mg_of X G a21, k21, b21⟩
  have F22 := fun_mk (st := slaw) l22 c22 k22
  have T : Bl mg := ⟨PySem.W.mg_none_of X G z0, PySem.W.mg_none_of X G z1, PySem.W.mg_none_of X G z2, PySem.W.mg_none_of X G z3, PySem.W.mg_none_of X G z4, PySem.W.mg_none_of X G z5, PySem.W.mg_none_of X G z6, PySem.W.mg_none_of X G z7, PySem.W.mg_none_of X G z8, PySem.W.mg_none_of X G z9, PySem.W.mg_none_of X G z10, PySem.W.mg_none_of X G z11, PySem.W.mg_none_of X G z12, PySem.W.mg_none_of X G z13, PySem.W.mg_none_of X G z14, PySem.W.mg_none_of X G z15, PySem.W.mg_none_of X G z16, PySem.W.mg_none_of X G z17, PySem.W.mg_none_of X G z18, PySem.W.mg_none_of X G z19, PySem.W.mg_none_of X G z20⟩
  have tJOINING : ∀ H : Hp, SqT K H jJOINING [.str "and", .str "or"] := fun H => .inr ⟨_, itJOINING, nnJOINING, lTJOINING, rfl, rfl, sTJOINING, vTJOINING⟩
  have tNAMING : ∀ H : Hp, SqT K H jNAMING [.str "letter", .str "each", .str "some"] := fun H => .inr ⟨_, itNAMING, nnNAMING, lTNAMING, rfl, rfl, sTNAMING, vTNAMING⟩
  have tQUANTIFIERS : ∀ H : Hp, SqT K H jQUANTIFIERS [.str "each", .str "some"] := fun H => .inr ⟨_, itQUANTIFIERS, nnQUANTIFIERS, lTQUANTIFIERS, rfl, rfl, sTQUANTIFIERS, vTQUANTIFIERS⟩
  have GL : Gls K mg jJOINING jNAMING jQUANTIFIERS := ⟨PySem.W.mg_of X G aTJOINING, PySem.W.mg_of X G aTNAMING, PySem.W.mg_of X G aTQUANTIFIERS, tJOINING, tNAMING, tQUANTIFIERS⟩
  have Kparting_world : KwRev (PySem.W.fnOf "parting_world" "parting_world" (defArgs sparting_world) (defBody sparting_world) (defScope sparting_world) .none kV8 dc8 pm8 an8 cd8 ct8) ["one", "other"] := fun s ws hw => match ws, hw with | [_, _], _ => .of_eq rfl
  refine ⟨PySem.W.fnOf "law" "law" (defArgs slaw) (defBody slaw) (defScope slaw) .none kV22 dc22 pm22 an22 cd22 ct22, fun s v => .of_eq rfl, fun base _ _ => ?_⟩
  have Gparts_of := ok_partsof (P := l.prog) (w := w) (base := base) F0 T GL 
  have Gfree_names := ok_free (P := l.prog) (w := w) (base := base) F1 T GL Gparts_of Cparts_of Cfree_names 25
  have Gwith_name := ok_with (P := l.prog) (w := w) (base := base) F2 T  
  have Gin_all := ok_inall (P := l.prog) (w := w) (base := base) F3 T  
  have Gin_some := ok_insome (P := l.prog) (w := w) (base := base) F4 T  
  have Gwhere_holding := ok_wh (P := l.prog) (w := w) (base := base) F5 T GL F6 Gparts_of Cparts_of Gwith_name Cwith_name Gin_all Cin_all Gin_some Cin_some Cwhere_quantified Cwhere_holding 25
  have Gwhere_quantified := ok_whq1 (P := l.prog) (w := w) (base := base) F6 T (m := 25) (k := 51) (by omega) Gwith_name Cwith_name Gin_all Cin_all Gin_some Cin_some Gwhere_holding Cwhere_holding
  have Gworlds_of := ok_worlds (P := l.prog) (w := w) (base := base) F7 T  Gwith_name Cwith_name
  have Gparting_world := ok_parting (P := l.prog) (w := w) (base := base) F8 T (m := 25) (k1 := 26) (k := 51) (by decide) (by decide) Gfree_names Cfree_names Gworlds_of Cworlds_of Gwhere_holding Cwhere_holding
  have G_law_bag := ok_bag (P := l.prog) (w := w) (base := base) F9 T  
  have G_law_take := ok_take (P := l.prog) (w := w) (base := base) F10 T  
  have G_law_pick := ok_pick (P := l.prog) (w := w) (base := base) F11 T  G_law_take C_law_take
  have G_law_parts_of := ok_lparts (P := l.prog) (w := w) (base := base) F12 T  
  have G_law_remade := ok_remade (P := l.prog) (w := w) (base := base) F13 T  
  have G_law_formula := ok_fm (P := l.prog) (w := w) (base := base) F14 T  G_law_take C_law_take G_law_pick C_law_pick C_law_formula 25
  have G_law_truth := ok_truth (P := l.prog) (w := w) (base := base) F15 T  C_law_truth 25
  have G_law_free := ok_lfree (P := l.prog) (w := w) (base := base) F16 T  G_law_parts_of C_law_parts_of C_law_free 25
  have G_law_worlds := ok_lworlds (P := l.prog) (w := w) (base := base) F17 T  
  have G_law_due_world := ok_due (P := l.prog) (w := w) (base := base) F18 T (m := 25) (k := 26) (by decide) G_law_free C_law_free G_law_worlds C_law_worlds G_law_truth C_law_truth
  have G_law_is_told := ok_told (P := l.prog) (w := w) (base := base) F19 T  G_law_due_world C_law_due_world Gparting_world Cparting_world Kparting_world
  have G_law_near := ok_near (P := l.prog) (w := w) (base := base) F20 T  G_law_take C_law_take G_law_pick C_law_pick G_law_parts_of C_law_parts_of G_law_remade C_law_remade C_law_near 25
  have G_law_lone := ok_lone (P := l.prog) (w := w) (base := base) F21 T  G_law_pick C_law_pick
  exact ok_law F22 T  G_law_bag C_law_bag G_law_take C_law_take G_law_pick C_law_pick G_law_formula C_law_formula G_law_near C_law_near G_law_lone C_law_lone G_law_is_told C_law_is_told
end KA
open PySem PySem.W PyProof.Rows
set_option Elab.async false
set_option linter.all false
set_option maxRecDepth 100000
set_option maxHeartbeats 0 in
theorem PySem.Challenge.cw_eachsome_k62_whole_first_worlds_that_par_holds : PySem.Challenge.rw_eachsome_k62_whole_first_worlds_that_par.Holds := by
  w_on; o_law; k_head; (case hw => w_witness2)
  k_fill
  refine Ea.walk_G (l := PySem.Challenge.rw_eachsome_k62_whole_first_worlds_that_par) (n := 63) (k := 54) (x := "script") (sp := fun w => KA.spLaw _) rfl (by decide) rfl ⟨rfl, by decide, by decide⟩ (fun w h Y => PySem.W.kIn_of Y) ?F (fun _ _ a ns hl _ hS => ⟨a, ns, rfl, hS, hl, fun _ => rfl⟩)
  case F =>
    intro w mg fa h KX G hmg
    refine' KA.all_mk KX G hmg ?a0 ?l0 ?c0 ?k0 ?a1 ?l1 ?c1 ?k1 ?a2 ?l2 ?c2 ?k2 ?a3 ?l3 ?c3 ?k3 ?a4 ?l4 ?c4 ?k4 ?a5 ?l5 ?c5 ?k5 ?a6 ?l6 ?c6 ?k6 ?a7 ?l7 ?c7 ?k7 ?a8 ?l8 ?c8 ?k8 ?a9 ?l9 ?c9 ?k9 ?a10 ?l10 ?c10 ?k10 ?a11 ?l11 ?c11 ?k11 ?a12 ?l12 ?c12 ?k12 ?a13 ?l13 ?c13 ?k13 ?a14 ?l14 ?c14 ?k14 ?a15 ?l15 ?c15 ?k15 ?a16 ?l16 ?c16 ?k16 ?a17 ?l17 ?c17 ?k17 ?a18 ?l18 ?c18 ?k18 ?a19 ?l19 ?c19 ?k19 ?a20 ?l20 ?c20 ?k20 ?a21 ?l21 ?c21 ?k21 ?a22 ?l22 ?c22 ?k22 ?z0 ?z1 ?z2 ?z3 ?z4 ?z5 ?z6 ?z7 ?z8 ?z9 ?z10 ?z11 ?z12 ?z13 ?z14 ?z15 ?z16 ?z17 ?z18 ?z19 ?z20 ?aTJOINING ?lTJOINING ?sTJOINING ?vTJOINING ?aTNAMING ?lTNAMING ?sTNAMING ?vTNAMING ?aTQUANTIFIERS ?lTQUANTIFIERS ?sTQUANTIFIERS ?vTQUANTIFIERS
    (case a0 => k_is)
    (case l0 => k_is)
    (case c0 => k_is)
    (case k0 => k_is)
    (case a1 => k_is)
    (case l1 => k_is)
    (case c1 => k_is)
    (case k1 => k_is)
    (case a2 => k_is)
    (case l2 => k_is)
    (case c2 => k_is)
    (case k2 => k_is)
    (case a3 => k_is)
    (case l3 => k_is)
    (case c3 => k_is)
    (case k3 => k_is)
    (case a4 => k_is)
    (case l4 => k_is)
    (case c4 => k_is)
    (case k4 => k_is)
    (case a5 => k_is)
    (case l5 => k_is)
    (case c5 => k_is)
    (case k5 => k_is)
    (case a6 => k_is)
    (case l6 => k_is)
    (case c6 => k_is)
    (case k6 => k_is)
    (case a7 => k_is)
    (case l7 => k_is)
    (case c7 => k_is)
    (case k7 => k_is)
    (case a8 => k_is)
    (case l8 => k_is)
    (case c8 => k_is)
    (case k8 => k_is)
    (case a9 => k_is)
    (case l9 => k_is)
    (case c9 => k_is)
    (case k9 => k_is)
    (case a10 => k_is)
    (case l10 => k_is)
    (case c10 => k_is)
    (case k10 => k_is)
    (case a11 => k_is)
    (case l11 => k_is)
    (case c11 => k_is)
    (case k11 => k_is)
    (case a12 => k_is)
    (case l12 => k_is)
    (case c12 => k_is)
    (case k12 => k_is)
    (case a13 => k_is)
    (case l13 => k_is)
    (case c13 => k_is)
    (case k13 => k_is)
    (case a14 => k_is)
    (case l14 => k_is)
    (case c14 => k_is)
    (case k14 => k_is)
    (case a15 => k_is)
    (case l15 => k_is)
    (case c15 => k_is)
    (case k15 => k_is)
    (case a16 => k_is)
    (case l16 => k_is)
    (case c16 => k_is)
    (case k16 => k_is)
    (case a17 => k_is)
    (case l17 => k_is)
    (case c17 => k_is)
    (case k17 => k_is)
    (case a18 => k_is)
    (case l18 => k_is)
    (case c18 => k_is)
    (case k18 => k_is)
    (case a19 => k_is)
    (case l19 => k_is)
    (case c19 => k_is)
    (case k19 => k_is)
    (case a20 => k_is)
    (case l20 => k_is)
    (case c20 => k_is)
    (case k20 => k_is)
    (case a21 => k_is)
    (case l21 => k_is)
    (case c21 => k_is)
    (case k21 => k_is)
    (case a22 => k_is)
    (case l22 => k_is)
    (case c22 => k_is)
    (case k22 => k_is)
    (case z0 => k_is)
    (case z1 => k_is)
    (case z2 => k_is)
    (case z3 => k_is)
    (case z4 => k_is)
    (case z5 => k_is)
    (case z6 => k_is)
    (case z7 => k_is)
    (case z8 => k_is)
    (case z9 => k_is)
    (case z10 => k_is)
    (case z11 => k_is)
    (case z12 => k_is)
    (case z13 => k_is)
    (case z14 => k_is)
    (case z15 => k_is)
    (case z16 => k_is)
    (case z17 => k_is)
    (case z18 => k_is)
    (case z19 => k_is)
    (case z20 => k_is)
    (case aTJOINING => k_is)
    (case lTJOINING => k_is)
    (case sTJOINING => (first | decide | (show _ ≤ sizeLine; decide) | k_is))
    (case vTJOINING => (first | exact (.cons ⟨_, rfl⟩ (.cons ⟨_, rfl⟩ .nil)) | k_is))
    (case aTNAMING => k_is)
    (case lTNAMING => k_is)
    (case sTNAMING => (first | decide | (show _ ≤ sizeLine; decide) | k_is))
    (case vTNAMING => (first | exact (.cons ⟨_, rfl⟩ (.cons ⟨_, rfl⟩ (.cons ⟨_, rfl⟩ .nil))) | k_is))
    (case aTQUANTIFIERS => k_is)
    (case lTQUANTIFIERS => k_is)
    (case sTQUANTIFIERS => (first | decide | (show _ ≤ sizeLine; decide) | k_is))
    (case vTQUANTIFIERS => (first | exact (.cons ⟨_, rfl⟩ (.cons ⟨_, rfl⟩ .nil)) | k_is))
