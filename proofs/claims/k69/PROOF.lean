import PyProof.Rows.All
import Wide.All
import OpenK.AllK
import Wide.FinOn
import PyProof.Rows.NestShow
import HandS.ForMost
import HandS.Exc
import HandS.ExcOwn
import HandS.WordsExc
import HandS.Defaults
import HandS.More
import HandS.Strs
import HandS.Conv
import HandS.SetFor
import HandS.SortInts
import HandS.DictComp
import HandS.TupAny
import HandS.ExcIs
import HandS.Evl
import PySem.Challenge.RW_eachsome_k69_whole_lowered_formulas
import KE.GoesEnum
import HandS.RaiseMore
import KE.SortData
import KE.SortKeyHeap
import KE.KDictPairs
import KE.KDictList
import HandS.Style
import HandS.List
import HandS.Text
import PyProof.SliceStr2
import PyProof.Rows.StrRev
import HandS.IsInst
import HandS.Wide
import HandS.TupMul
import HandS.ExcInit
import HandS.Nested
import KE.KExcSuper
import HandS.ExcBuiltin
import KE.KExcIs
import HandS.Deep
import HandS.Codes
set_option Elab.async false
set_option linter.all false
set_option maxRecDepth 100000
set_option maxHeartbeats 4000000
/-! Own rules: repr of data where nothing is being shown, set of a tuple of ints, a text times a number, an own error made without arguments, calls by names alone; defs whose promise needs that nothing is being shown. -/
namespace Ea
open PySem PySem.Spec PyProof.Rows L2

/-! ### repr -/
def rRepr (K : PySem.W.Frag) : List V → Hp → VK → Prop := fun xs H Q =>
  ∃ (x : V) (d : PyData), xs = [x] ∧ Dp K H x d ∧ d.showable = true ∧ isDisplay d = true ∧ d.hasDict = false ∧ d.depth ≤ 40 ∧ d.shown.length ≤ sizeLine ∧ Q (.str d.shown) H
section
variable {X : Cx}
theorem cr_repr (hg : X.A.guards = some []) (hu : X.A.units + 64 < cLine) : CallR X (.builtin "repr") (rRepr X.K) := by
  intro pins s σ H xs us Q I r h
  obtain ⟨x, d, rfl, hd, h1, h2, h3, h4, h5, q⟩ := h
  obtain ⟨u, rfl, ru⟩ := vals1 r
  obtain ⟨as, rd⟩ := Dp.reads I d x u hd ru
  obtain ⟨a, rfl⟩ := isRef_of_reads rd h2
  exact repr_of_reads' rd h1 (PyData.noDict_hsm h3) hg (by omega) (fun _ _ e => e)
    (fun h' tk u hk => ⟨.str d.shown, H, I.kept hk, ⟨_, rfl⟩, q⟩) h5

/-! ### set of a tuple of ints -/
def rSetI (K : PySem.W.Frag) (w : World) : List V → Hp → VK → Prop := fun xs H Q =>
  ∃ (p : Addr) (ns : List Int), xs = [.ref p] ∧ SqT K H p (ns.map V.int) ∧ ns.length ≤ 1000 ∧
    ∀ (a : Addr) (c : Nat), H a = none → c ≤ ns.length → Q (.ref a) (upd H a (SetO w a (fun j => decide (j ∈ ns)) c))
theorem cr_setI (hc : X.calm = true) : CallR X (.type "set") (rSetI X.K X.w) := by
  intro pins s σ H xs us Q I r h
  obtain ⟨p, ns, rfl, hp, hl, q⟩ := h
  rw [Vals.ref1 r]
  obtain ⟨its, rv, pt, hz⟩ := I.tuple hp
  have hi : IntsAre its.toArray.toList ns := by simpa using rv.ints
  have hf : H s.heap.objs.size = none := I.hok.fresh (Nat.le_refl _)
  refine call_set_tupI ns (I.ok.hd hc) pt hi (by unfold scanBound; omega) fun h' tk c R1 hcn k => ?_
  exact ⟨.ref _, upd H s.heap.objs.size (SetO X.w s.heap.objs.size (fun j => decide (j ∈ ns)) c),
    I.laid (t' := tk) k (Nat.le_refl _) (setO_new R1), rfl, q _ c hf hcn⟩

/-! ### a text times a number -/
theorem folded_size (z : Array Nat) : ∀ (n : Nat) (acc : Array Nat), ((List.replicate n z).foldl (· ++ ·) acc).size = acc.size + n * z.size
  | 0, acc => by simp
  | n + 1, acc => by
    rw [List.replicate_succ, List.foldl_cons, folded_size z n, Array.size_append, Nat.succ_mul]
    omega
def repS (z : Str) (n : Int) : Str := ⟨(List.replicate n.toNat z.cps).foldl (· ++ ·) #[]⟩
def rMulS : R2 := fun x y H Q => ∃ z n, x = .str z ∧ y = .int n ∧ 0 ≤ n ∧ n ≤ 1000 ∧ z.length ≤ 1000 ∧ 1 ≤ z.length ∧ Q (.str (repS z n)) H
theorem repS_length (z : Str) (n : Int) : (repS z n).length = n.toNat * z.length := by
  have h := folded_size z.cps n.toNat #[]
  rw [Array.size_empty, Nat.zero_add] at h
  exact h
theorem repS_fits {z : Str} {n : Int} (h1 : n ≤ 1000) (h2 : z.length ≤ 1000) : (repS z n).length ≤ sizeLine := by
  rw [repS_length, sizeLine_eq]
  have : n.toNat * z.length ≤ 1000 * 1000 := Nat.mul_le_mul (by omega) h2
  omega
theorem op_mulS : OpR X (binaryOp .Mult) rMulS := by
  intro pins s σ H x y v u Q I rx ry h
  obtain ⟨z, n, rfl, rfl, h0, h1, h2, h3, q⟩ := h
  obtain ⟨t, rfl⟩ := rx
  obtain ⟨t', rfl⟩ := ry
  have hlen : z.length * n.toNat ≤ 1000 * 1000 := Nat.mul_le_mul h2 (by omega)
  have hr : (decide (n < -(2 ^ 63 : Int)) || decide (n ≥ 2 ^ 63)) = false := by
    rw [decide_eq_false (by omega), decide_eq_false (by omega)]; rfl
  refine PySem.P.mul_str hr ?_ ?_ ?_
  · intro hn _ hgt
    have e : (1000 : Int) ≤ (2 ^ 63 - 1) / n := by
      rw [Int.le_ediv_iff_mul_le (by omega)]
      omega
    omega
  · intro _ _
    unfold Builtin.Str.tooLong
    rw [decide_eq_false_iff_not, sizeLine_eq]
    omega
  · by_cases c1 : n < 1
    · rw [if_pos c1]
      have e0 : n = 0 := by omega
      subst e0
      refine ⟨by decide, .str (repS z 0), H, I.tok _, ⟨_, rfl⟩, q⟩
    · rw [if_neg c1]
      by_cases c2 : (n == 1 || z.length == 0) = true
      · rw [if_pos c2]
        have e1 : n = 1 := by
          rcases Bool.or_eq_true _ _ |>.mp c2 with h | h
          · exact eq_of_beq h
          · have := eq_of_beq h
            omega
        subst e1
        have e2 : repS z 1 = z := by
          unfold repS
          show (⟨#[] ++ z.cps⟩ : Str) = z
          rw [Array.empty_append]
        rw [e2] at q
        exact ⟨.str z, H, I, ⟨_, rfl⟩, q⟩
      · rw [if_neg c2]
        exact ⟨repS_fits h1 h2, .str (repS z n), H, I.tok _, ⟨_, rfl⟩, q⟩

/-! ### X(): an own error without arguments -/
theorem pmk_own0 {C : Addr} {bmB : List Value} {B newId initId : String} {x : Str} {p pos : Pos} (F : ExcBaseFacts B newId initId bmB)
    (q : PySem.W.excIn X.K C bmB newId = true) (gC : X.mg x = some (.ref C)) (kC : PySem.W.keepIn X.K (.ref C) = true)
    (r : Raises X (.ref C)) (hg : Gl X x) (hdb : (x == ("__debug__" : Str)) = false := by decide) :
    PMk X (.Call (.Name x p) [] [] pos) (fun _ H Q => Q (.ref C) none H) := by
  intro pins s σ H Q I h
  refine wpAny_Call_Name_kw (ld_glob I hg gC (PySem.W.callWith_K0 I.kIn kC ?_) hdb)
  obtain ⟨bm, N, nm, qn, bs, hdct, sn, sub, ab, col, dd, k0, k1, k2, k3, k5, mN, hC, hN, hni, T⟩ := exc_obj I.kIn q
  exact wpAny_call_exc_subT F T hC hN hni (fun h' e hm => mk_of I hm r h (I.hok.gone hm.new)) (Nat.zero_le _)

/-! ### f(k = v, ..) by names alone; what it lets out is wished at the slots -/
def tKw (m : Nat) (sp : Sp) (gV : List V → List V) (E : L2.St → XK) (tk : TA) : TE := fun σ H Q =>
  tk σ H fun zs H2 => zs.length = m ∧ sp (gV zs) H2 Q (E σ)
theorem pe_kw {CX : CXT} {k : Nat} {f : Addr} {fd : FuncData} {ps ks : List Str} {sp : Sp} {E : L2.St → XK} {x : Str} {p pos : Pos} {kws : List Keyword} {tk : TA}
    {g : List Value → List Value} {gV : List V → List V} (F : FnOk X.prog X.w X.K X.mg X.base CX k f fd ps sp) (hr : Room k X.A) (hg : Gl X x)
    (hm : X.mg x = some (.ref f)) (hk : PySem.W.keepIn X.K (.ref f) = true)
    (hto : ∀ (s : Shared) (ws : List Value), ws.length = ks.length → BindsTo s fd ⟨[], ks.zip ws⟩ (ps.zip (g ws)))
    (hrel : ∀ {zs : List V} {ws : List Value}, zs.length = ks.length → Vals zs ws → Vals (gV zs) (g ws))
    (hx : ∀ σ, PassesAt CX X σ (E σ)) (hkw : PK X kws tk)
    (hall : (backToKw pos (keywordEach kws X.env)).all (·.1.isSome) = true := by rfl)
    (hks : (backToKw pos (keywordEach kws X.env)).filterMap (·.1) = ks := by rfl)
    (hdb : (x == ("__debug__" : Str)) = false := by decide)
    (hpl : ((backTo pos (starEach [] X.env)).any (·.1) || (backToKw pos (keywordEach kws X.env)).any (·.1.isNone)) = false := by rfl) :
    PE X (.Call (.Name x p) [] kws pos) (tKw ks.length sp gV E tk) := by
  refine ⟨fun pins s σ H Q I h => ?_⟩
  refine wpAny_Call_Name_kw (ld_glob I hg hm (PySem.W.callWith_KW0 (h₀ := X.base) I.ok.mod.kin hk hall ?_ hpl) hdb)
  refine thn (hkw.run pos pins s σ H _ I h) fun ws s2 ⟨zs, H2, I2, rz, l2, q2⟩ => ⟨I2.kIn, ?_⟩
  rw [hks]
  have hl : (g ws).length = ps.length := by
    rw [← (hrel l2 rz).length]
    exact F.len _ _ _ _ q2
  refine wpAny_call (codeAny_mono (F.run X.A X.stack s2 H2 ⟨[], ks.zip ws⟩ (g ws) (gV zs) Q (E σ) hr I2.env0
    (hto s2 ws (rz.length.symm.trans l2)) (hrel l2 rz) q2) fun r s' hq => ?_)
  match r, hq with
  | .error e, hq => exact hx σ pins H2 s2 e s' I2 hq
  | .ok (.ret u), hq => exact I2.after hq

/-! ### where nothing is being shown -/
structure FnG (P : Program) (w : World) (K : PySem.W.Frag) (mg : Str → Option Value) (base : Heap) (k : Nat) (f : Addr) (fd : FuncData)
    (ps : List Str) (sp : Sp) : Prop where
  len : ∀ vs H Q E, sp vs H Q E → vs.length = ps.length
  run : ∀ (A : Around) (outer : List Env) (s : Shared) (H : Hp) (args : Args) (us : List Value) (vs : List V) (Q : VK) (E : XK),
    Room k A → A.guards = some [] → Env0 P w K mg base A outer s H → BindsTo s fd args (ps.zip us) → Vals vs us → sp vs H Q E →
    codeAny (model P w) A (.call (.ref f) args) (CR CX0 outer P w H s Q E) s
theorem FnG.mono {P : Program} {w : World} {K : PySem.W.Frag} {mg : Str → Option Value} {base : Heap} {j k : Nat} {f : Addr} {fd : FuncData}
    {ps : List Str} {sp : Sp} (F : FnG P w K mg base j f fd ps sp) (h : j ≤ k) : FnG P w K mg base k f fd ps sp :=
  ⟨F.len, fun A outer s H args us vs Q E hr => F.run A outer s H args us vs Q E (hr.mono h)⟩
theorem pe_callG {k : Nat} {f : Addr} {fd : FuncData} {ps : List Str} {sp : Sp} {x : Str} {p pos : Pos} {e : Expr} {es : List Expr} {t : TA}
    (F : FnG X.prog X.w X.K X.mg X.base k f fd ps sp) (hr : Room k X.A) (h0 : X.A.guards = some []) (hg : Gl X x)
    (hm : X.mg x = some (.ref f)) (hk : PySem.W.keepIn X.K (.ref f) = true) (hb : Binds X.K fd ps []) (ha : PA X (e :: es) t)
    (hdb : (x == ("__debug__" : Str)) = false := by decide)
    (he : starEach (e :: es) X.env = (false, eval e X.env) :: starEach es X.env := by rfl)
    (hpl : (backTo pos (starEach es X.env)).any (·.1) = false := by rfl) :
    PE X (.Call (.Name x p) (e :: es) [] pos) (tCall sp [] E0 t) := by
  refine ⟨fun pins s σ H Q I h => ?_⟩
  refine wpAny_Call_Name_kw (ld_glob I hg hm (PySem.W.callWith_K (h₀ := X.base) I.ok.mod.kin hk
    (thn (ha.run pos pins s σ H _ I h) fun us s1 hu => ?_) he hpl) hdb)
  obtain ⟨vs, H1, I1, r, q⟩ := hu
  rw [List.append_nil] at q
  refine ⟨I1.kIn, wpAny_call ?_⟩
  have hl : us.length = ps.length := by
    rw [← r.length]
    exact F.len _ _ _ _ q
  have b := hb s1 us I1.kIn (by rw [List.append_nil]; exact hl)
  rw [List.append_nil] at b
  refine codeAny_mono (F.run X.A X.stack s1 H1 ⟨us, []⟩ us vs Q E0 hr h0 I1.env0 b r q) fun r s' hq => ?_
  match r, hq with
  | .error e, hq => exact False.elim hq
  | .ok (.ret u), hq => exact I1.after hq
end
section
variable {P : Program} {w : World} {K : PySem.W.Frag} {mg : Str → Option Value} {base : Heap}
theorem okG {x qual : Str} {st : Stmt} {f : Addr} {fd : FuncData} {N ps : List Str} {k : Nat} {sp : Sp} (F : Fun K x qual st f fd)
    (S : FnScope N ps (defScope st)) (len : ∀ vs H Q E, sp vs H Q E → vs.length = ps.length)
    (hbody : ∀ (cdv : Value) (A : Around) (outer : List Env) (s : Shared) (H : Hp) (vs : List V) (Q : VK) (E : XK),
      Room k (A.deeper (envOfC qual (defScope st) s.heap.objs.size f cdv)) → A.guards = some [] → sp vs H Q E →
      ∃ t, PSs (cxOf CX0 P w K mg base N qual (defScope st) f cdv A outer s H E).nox (defBody st) t ∧
        t { nx := fun _ H' => Q .non H', rt := Q } (start N vs) H) : FnG P w K mg base (k + 1) f fd ps sp := by
  obtain ⟨oc, od, kV, doc, pm, an, cdv, ct, osl, rfl, lk, hcd⟩ := F.ex
  refine ⟨len, fun A outer s H args us vs Q E hr h0 e0 hb r hsp => ?_⟩
  have KX : K.In s.heap := e0.mod.kin.keeps fun b o e => (e0.bs b o e).1
  have lim : s.heap.NoLimit := e0.mod.nolimit.keeps fun b o e => (e0.bs b o e).1
  refine codeAny_call_function hr.depth (KX _ _ lk) rfl S.co S.gen rfl (PySem.W.codeRec_of KX hcd) (hb _ _ _ _
    (wpAny_newFunctionEnv_cells S.kind (fun y hy => ?_) fun env he s1 y => ?_))
  · obtain ⟨n, v⟩ := y
    exact (S.par n (List.of_mem_zip hy).1).imp id fun z => ⟨z, PySem.W.cellsFrom_some _ _ _ (.inl z)⟩
  · subst he
    refine ⟨lim.keeps y.toInCall.keep, codeAny_func ?_⟩
    obtain ⟨t, ht, hq⟩ := hbody cdv A outer s H vs Q E (hr.deeper _) h0 hsp
    have I : Inv (cxOf CX0 P w K mg base N qual (defScope st) f cdv A outer s H E) [] (start N vs) H s1 :=
      inv_start S hr.hd e0 (len _ _ _ _ hsp) r y
    refine wpAny_mono (ht.nox.run [] s1 (start N vs) H _ I hq) (fun fl s' hs => ?_) fun e s' hs => hs
    match fl, hs with
    | .ret u, ⟨v, σ', H', J, rv, q⟩ => exact ⟨v, H', J.os, J.bare, J.base, J.hok, rv, q⟩
    | .next, ⟨σ', H', J, q⟩ => exact ⟨V.non, H', J.os, J.bare, J.base, J.hok, rfl, q⟩
    | .brk, ⟨_, _, _, q⟩ => exact False.elim q
    | .cont, ⟨_, _, _, q⟩ => exact False.elim q
end
end Ea
set_option Elab.async false
set_option linter.all false
set_option maxRecDepth 100000
set_option maxHeartbeats 4000000
/-! The law's own call, from a promise that needs that nothing is being shown. -/
namespace Ea
open PySem PySem.Spec PyProof.Rows L2

section
variable {P : Program} {w : World} {K : PySem.W.Frag} {mg mb : Str → Option Value} {k : Nat} {fa a : Addr} {fd : FuncData} {x : Str} {sp : Sp}
  {s₁ : Shared} {vs : List Value} {ns : List Int}
/-- what the call is to end with -/
abbrev Fine (s₁ : Shared) : Result → Shared → Prop := fun r s' => r = .ok (.ret (.bool true)) ∧ OldK s₁.heap s'.heap ∧ s'.os = s₁.os ∧ AllBare s'.gens

theorem call_from (KX : K.In s₁.heap) (hns : s₁.heap.Ns mainGlobals mg) (hb : s₁.heap.Ns builtinsNs mb)
    (hbb : ∀ x : Str, x ≠ "__name__" → mb x = bootBuiltins x) (hlim : s₁.heap.NoLimit) (hg : s₁.gens = #[])
    (ha : s₁.heap.get? a = some { cls := .type "list", data := .seq vs.toArray }) (hr : Room k callerA)
    (F : ∀ base : Heap, K.In base → base.Ns mainGlobals mg → FnG P w K mg base k fa fd [x] sp)
    (hbind : ∀ (s : Shared) (u : Value), BindsTo s fd ⟨[u], []⟩ [(x, u)])
    {H : Hp} (hO : Only H) (hok : HOk P w H s₁.heap) (hA : ∀ b, H b ≠ none → b = a) (hK : H a ≠ none → K.lookup a = none)
    (h : sp [.ref a] H (fun v _ => v = .bl true) fun _ _ _ => False) :
    codeAny (model P w) callerA (.call (.ref fa) ⟨[.ref a], []⟩) (Fine s₁) s₁ := by
  have out : ∀ {b : Addr}, (∃ u, H b = some u) → b = a := fun {b} ⟨u, e⟩ => hA b (by rw [e]; exact nofun)
  have free : ∀ {b : Addr} {o : Obj} {es : Array DictEntry} {ep : Nat}, s₁.heap.get? b = some o → o.data = .dict es ep → H b = none := by
    intro b o es ep e d
    cases q : H b with
    | none => rfl
    | some u =>
      obtain rfl := out ⟨u, q⟩
      rw [ha] at e
      cases e
      cases d
  have nsK : ∀ {b : Addr} {m : Str → Option Value}, s₁.heap.Ns b m → (hidT s₁.heap H).Ns b m :=
    fun {b m} ⟨o, es, ep, e, d, r⟩ => ⟨o, es, ep, hidT_get e (free e d), d, r⟩
  have hKb : K.In (hidT s₁.heap H) := by
    intro b o e
    refine hidT_get (KX b o e) ?_
    cases q : H b with
    | none => rfl
    | some u =>
      obtain rfl := out ⟨u, q⟩
      rw [hK (by rw [q]; exact nofun)] at e
      cases e
  have lim : (hidT s₁.heap H).NoLimit := by
    obtain ⟨mc, h1, h2⟩ := hlim
    exact ⟨mc, nsK h1, h2⟩
  have e0 : Env0 P w K mg (hidT s₁.heap H) callerA [] s₁ H :=
    ⟨rfl, ⟨hKb, nsK hns, ⟨mb, nsK hb, hbb⟩, lim⟩, fun b o e => of_hidT e, Nat.le_of_eq (hidT_size _ _), trivial, nofun, hok, .of_eq hg⟩
  have run := (F _ hKb (nsK hns)).run callerA [] s₁ H ⟨[.ref a], []⟩ [.ref a] [.ref a] (fun v _ => v = .bl true) (fun _ _ _ => False) hr rfl e0
    (hbind s₁ (.ref a)) (.cons rfl .nil) h
  refine codeAny_mono run fun r s' hq => ?_
  match r, hq with
  | .error e, hq => exact False.elim hq
  | .ok (.ret u), ⟨v, H', os, bare, un, hok', r', (q' : v = .bl true)⟩ =>
    subst q'
    obtain rfl : u = Value.bool true := r'
    refine ⟨rfl, OldK.of_keep fun b o e => ?_, os, bare⟩
    cases q : H b with
    | none => exact un.keep b o e q nofun nofun
    | some u =>
      rcases hO b with z | ⟨ob, xs, z⟩
      · rw [q] at z
        cases z
      · obtain ⟨e1, _⟩ := hok b _ z
        obtain ⟨e2, _⟩ := hok' b _ (un.frzs b ob _ z)
        rw [e] at e1
        cases e1
        exact e2

theorem call_law (KX : K.In s₁.heap) (hns : s₁.heap.Ns mainGlobals mg) (hb : s₁.heap.Ns builtinsNs mb)
    (hbb : ∀ x : Str, x ≠ "__name__" → mb x = bootBuiltins x) (hlim : s₁.heap.NoLimit) (hg : s₁.gens = #[])
    (ha : s₁.heap.get? a = some { cls := .type "list", data := .seq vs.toArray }) (hi : IntsAre vs ns) (hl : ns.length ≤ sizeLine) (hr : Room k callerA)
    (F : ∀ base : Heap, K.In base → base.Ns mainGlobals mg → FnG P w K mg base k fa fd [x] sp)
    (hbind : ∀ (s : Shared) (u : Value), BindsTo s fd ⟨[u], []⟩ [(x, u)])
    (hsp : ∀ H : Hp, Only H → SqL K H a (ns.map V.int) → sp [.ref a] H (fun v _ => v = .bl true) fun _ _ _ => False) :
    codeAny (model P w) callerA (.call (.ref fa) ⟨[.ref a], []⟩) (Fine s₁) s₁ := by
  have rv := vals_ints hi
  cases hk : K.lookup a with
  | some o =>
    have e := KX a o hk
    rw [ha] at e
    cases e
    have hS : SqL K (fun _ => none) a (ns.map V.int) :=
      .inr ⟨_, vs.toArray, _, hk, rfl, rfl, rfl, by rw [List.size_toArray, hi.length]; exact hl, by simpa using rv⟩
    exact call_from KX hns hb hbb hlim hg ha hr F hbind (H := fun _ => none) (fun _ => .inl rfl) nofun (fun b z => absurd rfl z) (fun z => absurd rfl z) (hsp _ (fun _ => .inl rfl) hS)
  | none =>
    let one : HO := .frz { cls := .type "list", data := .seq vs.toArray } (.lst (ns.map V.int))
    let H : Hp := fun b => if b = a then some one else none
    have at_ : H a = some one := if_pos rfl
    have off : ∀ {b : Addr}, b ≠ a → H b = none := fun h => if_neg h
    have hO : Only H := fun b => by
      by_cases e : b = a
      · subst e
        exact .inr ⟨_, _, at_⟩
      · exact .inl (off e)
    have hS : SqL K H a (ns.map V.int) := .inl (.inr ⟨_, at_⟩)
    refine call_from KX hns hb hbb hlim hg ha hr F hbind hO (fun b u z => ?_) (fun b z => ?_) (fun _ => hk) (hsp H hO hS)
    · by_cases e : b = a
      · subst e
        rw [at_] at z
        cases z
        exact ⟨ha, by rw [List.length_map]; exact hl, vs, _, rv, ha⟩
      · rw [off e] at z
        cases z
    · by_cases e : b = a
      · exact e
      · exact absurd (off e) z
end
theorem walk_G {l : PySem.W.OpenLaw} {n k : Nat} {q : Program} {loose : List Str} {XP : (Str → Option Value) → Heap → Prop} {YP : World → Heap → Prop}
    {d : DefRec} {K : Params → PySem.W.Frag} {sp : World → Sp} {x : Str}
    (hn : l.most = some n) (hn2 : n ≤ sizeLine) (hdf : d.params.defaults = []) (hr : Room k callerA)
    (hY : ∀ (w : World) (h : Heap), YP w h → (K w.params).In h)
    (F : ∀ (w : World) (mg : Str → Option Value) (fa : Addr) (h : Heap), (K w.params).In h → h.Ns mainGlobals mg → mg d.name = some (.ref fa) →
      ∃ fd : FuncData, (∀ (s : Shared) (u : Value), BindsTo s fd ⟨[u], []⟩ [(x, u)]) ∧
        ∀ base : Heap, (K w.params).In base → base.Ns mainGlobals mg → FnG l.prog w (K w.params) mg base k fa fd [x] (sp w))
    (hsp : ∀ (w : World) (H : Hp) (a : Addr) (ns : List Int), ns.length ≤ n → Only H → SqL (K w.params) H a (ns.map V.int) →
      sp w [.ref a] H (fun v _ => v = .bl true) fun _ _ _ => False) :
    PySem.W.WalkO q loose XP YP l.row.toRowW d [] (fun f vs => PySem.call f vs) := by
  refine Att.attach_call hn hdf fun w s₀ s₁ mg mb fa o pm cd doc a vs ns G Y ho hd hcd hmg hobj hints hlen hg => ?_
  obtain ⟨fd, hb, hF⟩ := F w mg fa _ (hY w _ Y) G.T.g hmg
  exact call_law (hY w _ Y) G.T.g G.T.b G.T.builtins G.T.nolimit hg hobj hints (Nat.le_trans hlen hn2) hr hF hb fun H hO hS => hsp w H a ns hlen hO hS
end Ea
set_option Elab.async false
set_option linter.all false
set_option maxRecDepth 100000
set_option maxHeartbeats 4000000
/-! Readings gone through from the left: one lemma for each shape; a deck of draws (a dict). -/
namespace Ea
open PySem PySem.Spec PyProof.Rows L2

/-! ### built-ins by names of their own -/
def rInt : List V → Hp → VK → Prop := fun xs H Q => (∃ i, xs = [.int i] ∧ Q (.int i) H) ∨ ∃ k, xs = [.bl k] ∧ Q (.int (if k then 1 else 0)) H
def rAbs : List V → Hp → VK → Prop := fun xs H Q => ∃ i, xs = [.int i] ∧ Q (.int (if i < 0 then -i else i)) H
def rMin2 : List V → Hp → VK → Prop := fun xs H Q => ∃ i j, xs = [.int i, .int j] ∧ Q (.int (if j < i then j else i)) H
def rMax2 : List V → Hp → VK → Prop := fun xs H Q => ∃ i j, xs = [.int i, .int j] ∧ Q (.int (if j > i then j else i)) H
def rLenQ (K : PySem.W.Frag) : List V → Hp → VK → Prop := fun xs H Q => ∃ p ys, xs = [.ref p] ∧ (SqL K H p ys ∨ SqT K H p ys) ∧ Q (.int ys.length) H
def rLenS : List V → Hp → VK → Prop := fun xs H Q => ∃ z, xs = [.str z] ∧ z.length ≤ sizeLine ∧ Q (.int z.length) H
def rTupOf (K : PySem.W.Frag) : List V → Hp → VK → Prop := fun xs H Q => ∃ p ys, xs = [.ref p] ∧ ((SqL K H p ys ∧ ∀ l, H l = none → Q (.ref l) (upd H l (.tup ys))) ∨ (SqT K H p ys ∧ Q (.ref p) H))
def rListOf (K : PySem.W.Frag) : List V → Hp → VK → Prop := fun xs H Q => ∃ p ys, xs = [.ref p] ∧ (SqL K H p ys ∨ SqT K H p ys) ∧ ∀ l, H l = none → Q (.ref l) (upd H l (.lst ys))
section
variable {X : Cx}
theorem c_int : CallR X (.type "int") rInt := call_int1
theorem c_abs : CallR X (.builtin "abs") rAbs := call_abs
theorem c_min2 (hc : X.calm = true) : CallR X (.builtin "min") rMin2 := call_min2 hc
theorem c_max2 (hc : X.calm = true) : CallR X (.builtin "max") rMax2 := call_max2 hc
theorem c_len {K : PySem.W.Frag} (h : X.K = K) : CallR X (.builtin "len") (rLenQ K) := h ▸ call_len_seq
theorem c_lenS : CallR X (.builtin "len") rLenS := call_len_str
theorem c_tuple {K : PySem.W.Frag} (h : X.K = K) : CallR X (.type "tuple") (rTupOf K) := h ▸ call_tuple_of
theorem c_list {K : PySem.W.Frag} (h : X.K = K) : CallR X (.type "list") (rListOf K) := h ▸ call_list_of
theorem c_sum {K : PySem.W.Frag} (h : X.K = K) (hc : X.calm = true) : CallR X (.builtin "sum") (rSum K) := h ▸ cr_sum hc
theorem c_max {K : PySem.W.Frag} (h : X.K = K) (hc : X.calm = true) : CallR X (.builtin "max") (rMax K) := h ▸ cr_max hc
theorem c_min {K : PySem.W.Frag} (h : X.K = K) (hc : X.calm = true) : CallR X (.builtin "min") (rMin K) := h ▸ cr_min hc
theorem c_sorted {K : PySem.W.Frag} (h : X.K = K) : CallR X (.builtin "sorted") (rSortedI K) := h ▸ cr_sortedI
theorem c_repr {K : PySem.W.Frag} (h : X.K = K) (hg : X.A.guards = some []) (hu : X.A.units + 64 < cLine) : CallR X (.builtin "repr") (rRepr K) := h ▸ cr_repr hg hu
theorem c_set {K : PySem.W.Frag} {w : World} (h : X.K = K) (h2 : X.w = w) (hc : X.calm = true) : CallR X (.type "set") (rSetI K w) := h ▸ h2 ▸ cr_setI hc
theorem ik_list {K : PySem.W.Frag} (h : X.K = K) : IxR X (rIxL K) := h ▸ ix_list
theorem ik_tup {K : PySem.W.Frag} (h : X.K = K) : IxR X (rIxT K) := h ▸ ix_tup
theorem ik_dict {K : PySem.W.Frag} {w : World} (h : X.K = K) (h2 : X.w = w) : IxR X (rIxD K w) := h ▸ h2 ▸ ix_kdict
theorem sk_list {K : PySem.W.Frag} (h : X.K = K) : SlR X (rSlL K) := h ▸ sl_list
theorem sk_tup {K : PySem.W.Frag} (h : X.K = K) : SlR X (rSlA K) := h ▸ sl_tupA
theorem ok_in {K : PySem.W.Frag} (h : X.K = K) : OpR X (compareOp .In) (rIn K false) := h ▸ op_in_seq
theorem ok_notIn {K : PySem.W.Frag} (h : X.K = K) : OpR X (compareOp .NotIn) (rIn K true) := h ▸ op_notIn_seq
theorem ok_eqD {K : PySem.W.Frag} (h : X.K = K) (hu : X.A.units + 64 < cLine) : OpR X (compareOp .Eq) (rEqD K) := h ▸ op_eqD hu
theorem ok_neD {K : PySem.W.Frag} (h : X.K = K) (hu : X.A.units + 64 < cLine) : OpR X (compareOp .NotEq) (rNeD K) := h ▸ op_neD hu
theorem ok_catT {K : PySem.W.Frag} (h : X.K = K) : OpR X (binaryOp .Add) (rCatA K) := h ▸ op_catA
theorem ok_sin {w : World} (h : X.w = w) : OpR X (compareOp .In) (rSIn w) := h ▸ or_sin
theorem ok_snotin {w : World} (h : X.w = w) : OpR X (compareOp .NotIn) (rSNotIn w) := h ▸ or_snotin
theorem ik_tupI {K : PySem.W.Frag} (h : X.K = K) {tg l : Expr} {tl : TE} (hl : PE X l tl) : PI X tg l (iTup K tl) := h ▸ pi_tup hl
theorem ik_listI {K : PySem.W.Frag} (h : X.K = K) {tg l : Expr} {tl : TE} (hl : PE X l tl) : PI X tg l (iList K tl) := h ▸ pi_list hl
def tTruK (K : PySem.W.Frag) (ta : TE) : TT := fun σ H Q => ta σ H fun x H' => ∃ k, TruV K x H' k ∧ Q k H'
theorem pk_truth {K : PySem.W.Frag} (h : X.K = K) {a : Expr} {ta : TE} (ha : PE X a ta)
    (he : ∀ whole, isTrue a X.env whole = (do let v ← whole; standAt a.pos; holding [v] (truthy v))) : PT X a (tTruK K ta) := h ▸ pt_truth ha he
end
section
variable {K : PySem.W.Frag} {σ σ' : L2.St} {H : Hp} {Q : VK} {QB : Bool → Hp → Prop} {QA : List V → Hp → Prop} {D : Ends} {i j : Nat} {x y v w : V}
  {ta tb te td ty : TE} {tt tu : TT} {r : R2} {a b : Int} {ts tz : TS} {g : Int → Int → V} {gi : Int → V} {C : Int → Int → Prop} {tr : TA} {tl th : TO}
theorem rd_start {t : TS} (e : σ = σ') (h : t D σ' H) : t D σ H := by
  subst e
  exact h
theorem rd_seq (h : ts { D with nx := tz D } σ H) : tSeq ts tz D σ H := h
theorem rd_if (h : tt σ H fun c H1 => if c = true then ts D σ H1 else tz D σ H1) : tIfS tt ts tz D σ H := h
theorem rd_next (h : D.nx σ H) : tNext D σ H := h
theorem rd_ret (h : te σ H D.rt) : tRet te D σ H := h
theorem rd_drop (h : te σ H fun _ H1 => D.nx σ H1) : tDrop te D σ H := h
theorem rd_asg {tg : TG} (h : te σ H fun x H1 => tg x σ H1 D.nx) : tAsg te tg D σ H := h
theorem rd_name {N : L2.St → Hp → Prop} (hs : σ.set i (some v) = σ') (h : N σ' H) : gName i v σ H N := by
  subst hs
  exact h
theorem rd_var (hv : σ[i]? = some (some v)) (h : Q v H) : tVar i σ H Q := ⟨v, hv, h⟩
theorem rd_c (h : Q v H) : tC v σ H Q := h
theorem rd_op (h : ta σ H fun x H1 => tb σ H1 fun y H2 => r x y H2 Q) : tOp r ta tb σ H Q := h
theorem rd_un {ru : V → Hp → VK → Prop} (h : ta σ H fun x H1 => ru x H1 Q) : tUn ru ta σ H Q := h
theorem rd_I0 (h : Q (g a b) H) : rI0 g (.int a) (.int b) H Q := ⟨a, b, rfl, rfl, h⟩
theorem rd_I (hc : C a b) (h : Q (g a b) H) : rI C g (.int a) (.int b) H Q := ⟨a, b, rfl, rfl, hc, h⟩
theorem rd_U (h : Q (gi a) H) : rU gi (.int a) H Q := ⟨a, rfl, h⟩
theorem rd_eq (hs : scal x y = true) (h : Q (.bl (decide (x = y))) H) : rEq x y H Q := ⟨hs, h⟩
theorem rd_ne (hs : scal x y = true) (h : Q (.bl (!decide (x = y))) H) : rNe x y H Q := ⟨hs, h⟩
theorem rd_test (h : te σ H fun x H' => ∃ k, x = .bl k ∧ QB k H') : tTest te σ H QB := h
theorem rd_B (h : te σ H fun x H' => ∃ k, x = .bl k ∧ QB k H') : tB te σ H QB := h
theorem rd_not (h : tt σ H fun c H1 => QB (!c) H1) : tNot tt σ H QB := h
theorem rd_and (h : tt σ H fun c H1 => if c = true then tu σ H1 QB else QB false H1) : tAnd tt tu σ H QB := h
theorem rd_or (h : tt σ H fun c H1 => if c = true then QB true H1 else tu σ H1 QB) : tOr tt tu σ H QB := h
theorem rd_k {b : Bool} {P : Bool → Prop} (h : P b) : ∃ k, V.bl b = V.bl k ∧ P k := ⟨b, rfl, h⟩
theorem rd_ite {p : Prop} {_ : Decidable p} {A B : Prop} (h1 : p → A) (h2 : ¬ p → B) : if decide p = true then A else B := by
  by_cases h : p
  · rw [if_pos (decide_eq_true h)]
    exact h1 h
  · rw [if_neg (by rw [decide_eq_true_eq]; exact h)]
    exact h2 h
theorem rd_iten {p : Prop} {_ : Decidable p} {A B : Prop} (h1 : ¬ p → A) (h2 : p → B) : if (!decide p) = true then A else B := by
  by_cases h : p
  · rw [decide_eq_true h]
    exact h2 h
  · rw [decide_eq_false h]
    exact h1 h
theorem rd_iteb {b : Bool} {A B : Prop} (h1 : b = true → A) (h2 : b = false → B) : if b = true then A else B := by
  cases b with
  | true => exact h1 rfl
  | false => exact h2 rfl
theorem rd_ifE (h : tt σ H fun c H1 => if c = true then ta σ H1 Q else tb σ H1 Q) : tIf tt ta tb σ H Q := h
theorem rd_nil (h : QA [] H) : tNil σ H QA := h
theorem rd_cons (h : te σ H fun x H1 => tr σ H1 fun xs H2 => QA (x :: xs) H2) : tCons te tr σ H QA := h
theorem rd_call {sp : Sp} {ds : List V} {E : XK} (h : tr σ H fun vs H1 => sp (vs ++ ds) H1 Q E) : tCall sp ds E tr σ H Q := h
theorem rd_cb {rc : List V → Hp → VK → Prop} (h : tr σ H fun vs H1 => rc vs H1 Q) : tCB rc tr σ H Q := h
theorem rd_tup (h : tr σ H fun xs H1 => xs.length ≤ sizeLine ∧ ∀ p, H1 p = none → Q (.ref p) (upd H1 p (.tup xs))) : tTup tr σ H Q := h
theorem rd_lst (h : tr σ H fun xs H1 => xs.length ≤ sizeLine ∧ ∀ p, H1 p = none → Q (.ref p) (upd H1 p (.lst xs))) : tLst tr σ H Q := h
theorem rd_dget (h : td σ H fun x H1 => ty σ H1 fun y H2 => ∃ a v, x = .ref a ∧ DGet H2 a y (some v) ∧ Q v H2) : tDGet td ty σ H Q := h
theorem rd_sl {rs : V → Option Int → Option Int → Hp → VK → Prop} (h : te σ H fun x H1 => tl σ H1 fun l H2 => th σ H2 fun u H3 => rs x l u H3 Q) : tSl rs te tl th σ H Q := h
theorem rd_nopart {QO : Option Int → Hp → Prop} (h : QO none H) : tNoPart σ H QO := h
theorem rd_part {QO : Option Int → Hp → Prop} (h : te σ H fun x H1 => ∃ i, x = .int i ∧ QO (some i) H1) : tPart te σ H QO := h
theorem rd_parti {P : Int → Prop} (h : P a) : ∃ i, V.int a = .int i ∧ P i := ⟨a, rfl, h⟩
theorem rd_bm {T : String} {rm : V → List V → Hp → VK → Prop} (h : te σ H fun x H1 => tyV K T x H1 ∧ tr σ H1 fun xs H2 => rm x xs H2 Q) : tBM K T rm te tr σ H Q := h
theorem rd_bm0 {T : String} {rm : V → List V → Hp → VK → Prop} (h : te σ H fun x H1 => tyV K T x H1 ∧ rm x [] H1 Q) : tBM0 K T rm te σ H Q := h
theorem rd_dput (h : te σ H fun v H1 => td σ H1 fun x H2 => ty σ H2 fun y H3 => ∃ a H4, x = .ref a ∧ DPut H3 a y v H4 ∧ D.nx σ H4) : sDPut td ty te D σ H := h
theorem rd_par {t : TA} (h : t σ H fun vs H1 => ∃ v w, vs = [v, w] ∧ D.nx ((σ.set i (some v)).set j (some w)) H1) : tPar i j t D σ H := h
theorem rd_par2 {N : L2.St → Hp → Prop} (hs : (σ.set i (some v)).set j (some w) = σ') (h : N σ' H) :
    ∃ v' w', ([v, w] : List V) = [v', w'] ∧ N ((σ.set i (some v')).set j (some w')) H := by
  subst hs
  exact ⟨v, w, rfl, h⟩
/-- while, by a word that falls -/
theorem rd_while (W : Nat → L2.St → Hp → Prop) (m : Nat) (h0 : W m σ H)
    (hs : ∀ m σ1 H1, W m σ1 H1 → tt σ1 H1 fun b H2 => if b = true then
      ts { D with nx := fun σ' H' => ∃ m', m' < m ∧ W m' σ' H', ct := fun σ' H' => ∃ m', m' < m ∧ W m' σ' H', bk := D.nx } σ1 H2 else D.nx σ1 H2)
    (mono : ∀ σ H Q Q', (∀ b H1, Q b H1 → Q' b H1) → tt σ H Q → tt σ H Q') : tWhile tt ts D σ H :=
  ⟨W, ⟨m, h0⟩, fun m σ1 H1 w => mono _ _ _ _ (fun b H2 h => by
    cases b with
    | true => exact ⟨_, fun _ _ z => z, h⟩
    | false => exact h) (hs m σ1 H1 w)⟩
theorem rd_whileE (h : ∃ W : Nat → L2.St → Hp → Prop, (∃ m, W m σ H) ∧ ∀ m σ H, W m σ H → tt σ H fun b H1 => if b = true then ∃ N : L2.St → Hp → Prop,
    (∀ σ' H', N σ' H' → ∃ m', m' < m ∧ W m' σ' H') ∧ ts { D with nx := N, ct := N, bk := D.nx } σ H1 else D.nx σ H1) : tWhile tt ts D σ H := h
theorem rd_tru (h : ta σ H fun x H' => ∃ k, TruV K x H' k ∧ QB k H') : tTruK K ta σ H QB := h
theorem rd_truI {P : Bool → Prop} (h : P (a != 0)) : ∃ k, TruV K (.int a) H k ∧ P k := ⟨_, rfl, h⟩
theorem rd_int1 (h : Q (.int a) H) : (∃ i, ([.int a] : List V) = [.int i] ∧ Q (.int i) H) ∨ ∃ k, ([.int a] : List V) = [.bl k] ∧ Q (.int (if k then 1 else 0)) H := .inl ⟨a, rfl, h⟩
end

section
variable {K : PySem.W.Frag} {H : Hp} {Q : VK} {a b : Int} {k : Bool} {p : Addr} {ys : List V} {z : Str}
theorem rd_int (h : Q (.int a) H) : rInt [.int a] H Q := .inl ⟨a, rfl, h⟩
theorem rd_intb (h : Q (.int (if k then 1 else 0)) H) : rInt [.bl k] H Q := .inr ⟨k, rfl, h⟩
theorem rd_abs (h : Q (.int (a.natAbs : Int)) H) : rAbs [.int a] H Q := ⟨a, rfl, by
  rw [show (if a < 0 then -a else a) = (a.natAbs : Int) by split <;> omega]
  exact h⟩
theorem rd_min2 (h : Q (.int (if b < a then b else a)) H) : rMin2 [.int a, .int b] H Q := ⟨a, b, rfl, h⟩
theorem rd_max2 (h : Q (.int (if b > a then b else a)) H) : rMax2 [.int a, .int b] H Q := ⟨a, b, rfl, h⟩
theorem rd_lenL (s : SqL K H p ys) (h : Q (.int ys.length) H) : rLenQ K [.ref p] H Q := ⟨p, ys, rfl, .inl s, h⟩
theorem rd_lenT (s : SqT K H p ys) (h : Q (.int ys.length) H) : rLenQ K [.ref p] H Q := ⟨p, ys, rfl, .inr s, h⟩
theorem rd_lenS (s : z.length ≤ sizeLine) (h : Q (.int z.length) H) : rLenS [.str z] H Q := ⟨z, rfl, s, h⟩
theorem rd_tupL (s : SqL K H p ys) (h : ∀ l, H l = none → Q (.ref l) (upd H l (.tup ys))) : rTupOf K [.ref p] H Q := ⟨p, ys, rfl, .inl ⟨s, h⟩⟩
theorem rd_tupT (s : SqT K H p ys) (h : Q (.ref p) H) : rTupOf K [.ref p] H Q := ⟨p, ys, rfl, .inr ⟨s, h⟩⟩
theorem rd_listL (s : SqL K H p ys) (h : ∀ l, H l = none → Q (.ref l) (upd H l (.lst ys))) : rListOf K [.ref p] H Q := ⟨p, ys, rfl, .inl s, h⟩
theorem rd_listT (s : SqT K H p ys) (h : ∀ l, H l = none → Q (.ref l) (upd H l (.lst ys))) : rListOf K [.ref p] H Q := ⟨p, ys, rfl, .inr s, h⟩
theorem rd_ixL {x : V} {i : Int} (s : SqL K H p ys) (e : atI ys i = some x) (h : Q x H) : rIxL K (.ref p) (.int i) H Q := ⟨p, ys, i, x, rfl, rfl, s, e, h⟩
theorem rd_ixT {x : V} {i : Int} (s : SqT K H p ys) (e : atI ys i = some x) (h : Q x H) : rIxT K (.ref p) (.int i) H Q := ⟨p, ys, i, x, rfl, rfl, s, e, h⟩
theorem rd_ixS {c : Nat} {i : Int} (s : z.length ≤ sizeLine) (e : atI z.cps.toList i = some c) (h : Q (.str ⟨#[c]⟩) H) : rIxS (.str z) (.int i) H Q := ⟨z, i, c, rfl, rfl, s, e, h⟩
end

/-! ### a deck of draws, a dict -/
def DeckB (d l : Addr) (H : Hp) : Prop := ∃ (ns : List Int) (s : Int),
  H d = some (.dK [(.inr "deep", .ref l), (.inr "state", .int s)]) ∧ H l = some (.lst (ns.map V.int)) ∧ ns.length ≤ 63 ∧ (∀ n ∈ ns, 0 ≤ n) ∧ 0 ≤ s ∧ s < 2305843009213693951
/-- what is left as it was by draws: all but the deck -/
structure Go (d l : Addr) (H H' : Hp) : Prop where
  dk : DeckB d l H'
  kp : ∀ a o, a ≠ d → a ≠ l → H a = some o → H' a = some o
section
variable {d l : Addr} {H H1 H2 : Hp}
theorem DeckB.ne (h : DeckB d l H) : d ≠ l := by
  obtain ⟨ns, s, e1, e2, _⟩ := h
  exact ne_of e1 e2 nofun
theorem Go.refl (h : DeckB d l H) : Go d l H H := ⟨h, fun _ _ _ _ e => e⟩
theorem Go.trans (a : Go d l H H1) (b : Go d l H1 H2) : Go d l H H2 := ⟨b.dk, fun p o n1 n2 e => b.kp p o n1 n2 (a.kp p o n1 n2 e)⟩
theorem DeckB.off (h : DeckB d l H) {p : Addr} (e : H p = none) : p ≠ d ∧ p ≠ l := by
  obtain ⟨ns, s, e1, e2, _⟩ := h
  exact ⟨fun z => (by rw [z, e1] at e; cases e), fun z => (by rw [z, e2] at e; cases e)⟩
theorem DeckB.upd (h : DeckB d l H) {p : Addr} {o : HO} (n1 : p ≠ d) (n2 : p ≠ l) : DeckB d l (upd H p o) := by
  obtain ⟨ns, s, e1, e2, r⟩ := h
  exact ⟨ns, s, by rw [upd_ne n1.symm]; exact e1, by rw [upd_ne n2.symm]; exact e2, r⟩
theorem Go.new (h : DeckB d l H) {p : Addr} {o : HO} (e : H p = none) : Go d l H (upd H p o) := by
  obtain ⟨n1, n2⟩ := h.off e
  exact ⟨h.upd n1 n2, fun q u _ _ eq => by rw [upd_ne (ne_of_none eq e)]; exact eq⟩
/-- an object that H does not know may change -/
theorem Go.mut (g : Go d l H H1) (h : DeckB d l H) {p : Addr} {o : HO} (e : H p = none) : Go d l H (upd H1 p o) := by
  obtain ⟨n1, n2⟩ := h.off e
  exact ⟨g.dk.upd n1 n2, fun q u m1 m2 eq => by rw [upd_ne (ne_of_none eq e)]; exact g.kp q u m1 m2 eq⟩
theorem Go.back (g : Go d l H H1) (h : DeckB d l H) {p : Addr} (e : H1 p = none) : H p = none := by
  obtain ⟨n1, n2⟩ := g.dk.off e
  cases q : H p with
  | none => rfl
  | some o =>
    rw [g.kp p o n1 n2 q] at e
    cases e
/-- a tuple stays -/
theorem Go.tup {K : PySem.W.Frag} (g : Go d l H H1) (h : DeckB d l H) {a : Addr} {xs : List V} (t : SqT K H a xs) : SqT K H1 a xs := by
  obtain ⟨ns, s, e1, e2, _⟩ := h
  have hn : ∀ {o : HO}, H a = some o → (∀ kv, o ≠ .dK kv) → (∀ ys, o ≠ .lst ys) → H1 a = some o := fun e c1 c2 =>
    g.kp a _ (fun z => (by rw [z, e1] at e; cases e; exact c1 _ rfl)) (fun z => (by rw [z, e2] at e; cases e; exact c2 _ rfl)) e
  rcases t with (t | ⟨o, t⟩) | t
  · exact .inl (.inl (hn t nofun nofun))
  · exact .inl (.inr ⟨o, hn t nofun nofun⟩)
  · exact .inr t
end
end Ea
set_option Elab.async false
set_option linter.all false
set_option maxRecDepth 100000
set_option maxHeartbeats 4000000
/-! Data that can be shown, compared: how great they are. -/
namespace Ea
open PySem PySem.Spec PyProof.Rows L2

structure Nice (n k : Nat) (d : PyData) : Prop where
  bulk : d.bulk ≤ n
  depth : d.depth ≤ k
  lay : d.canLay0 = true
  show_ : d.showable = true
  short : d.leavesShort 13 = true
  dict : d.hasDict = false
structure NiceAll (n k : Nat) (ds : List PyData) : Prop where
  bulk : PyData.bulkAll ds ≤ n
  depth : PyData.depthAll ds ≤ k
  lay : PyData.canLayAll0 ds = true
  show_ : PyData.showableAll ds = true
  short : PyData.leavesShortAll 13 ds = true
  dict : PyData.hasDictAll ds = false
theorem Nice.mono {n k m j : Nat} {d : PyData} (h : Nice n k d) (a : n ≤ m) (b : k ≤ j) : Nice m j d := ⟨Nat.le_trans h.bulk a, Nat.le_trans h.depth b, h.lay, h.show_, h.short, h.dict⟩
theorem NiceAll.mono {n k m j : Nat} {d : List PyData} (h : NiceAll n k d) (a : n ≤ m) (b : k ≤ j) : NiceAll m j d := ⟨Nat.le_trans h.bulk a, Nat.le_trans h.depth b, h.lay, h.show_, h.short, h.dict⟩
theorem Nice.non : Nice 0 0 .none := ⟨Nat.le_refl _, Nat.le_refl _, rfl, rfl, rfl, rfl⟩
theorem Nice.bool (b : Bool) : Nice 0 0 (.bool b) := ⟨Nat.le_refl _, Nat.le_refl _, rfl, rfl, rfl, rfl⟩
theorem log2_small {n : Nat} (h : n < 10 ^ 12) : n.log2 < 1920 := by
  by_cases h0 : n = 0
  · subst h0
    decide
  · rw [Nat.log2_lt h0]
    exact Nat.lt_trans h (by decide +kernel)
theorem Nice.int {i : Int} (h : i.natAbs < 10 ^ 12) : Nice 0 0 (.int i) :=
  ⟨Nat.le_refl _, Nat.le_refl _, rfl, decide_eq_true (log2_small h), decide_eq_true (PyData.shown_int_le h), rfl⟩
theorem Nice.str {x : Str} {n : Nat} (h : x.cps.size ≤ n) (hs : ∀ c ∈ x.cps.toList, c < 1114112) (ho : PyData.canLay0 (.str x) = true) : Nice n 0 (.str x) :=
  ⟨h, Nat.le_refl _, ho, rfl, by
    show (x.cps.toList.all fun c => decide (c < 16 ^ 8)) = true
    rw [List.all_eq_true]
    exact fun c hc => decide_eq_true (Nat.lt_of_lt_of_le (hs c hc) (by decide)), rfl⟩
theorem NiceAll.nil {k : Nat} : NiceAll 0 k [] := ⟨Nat.le_refl _, Nat.zero_le _, rfl, rfl, rfl, rfl⟩
theorem NiceAll.cons {n m k : Nat} {d : PyData} {ds : List PyData} (h : Nice n k d) (hs : NiceAll m k ds) : NiceAll (n + 1 + m) k (d :: ds) := by
  refine ⟨?_, ?_, ?_, ?_, ?_, ?_⟩
  · show d.bulk + 1 + PyData.bulkAll ds ≤ _
    have := h.bulk
    have := hs.bulk
    omega
  · show max d.depth (PyData.depthAll ds) ≤ _
    have := h.depth
    have := hs.depth
    omega
  · show (d.canLay0 && PyData.canLayAll0 ds) = true
    rw [h.lay, hs.lay] <;> rfl
  · show (d.showable && PyData.showableAll ds) = true
    rw [h.show_, hs.show_] <;> rfl
  · show (d.leavesShort 13 && PyData.leavesShortAll 13 ds) = true
    rw [h.short, hs.short] <;> rfl
  · show (d.hasDict || PyData.hasDictAll ds) = false
    rw [h.dict, hs.dict] <;> rfl
theorem Nice.cons2 {n m k : Nat} {d e : PyData} (h : Nice n k d) (h2 : Nice m k e) : NiceAll (n + 1 + (m + 1 + 0)) k [d, e] := NiceAll.cons h (NiceAll.cons h2 NiceAll.nil)
theorem Nice.cons3 {n m o k : Nat} {d e f : PyData} (h : Nice n k d) (h2 : Nice m k e) (h3 : Nice o k f) : NiceAll (n + 1 + (m + 1 + (o + 1 + 0))) k [d, e, f] := NiceAll.cons h (NiceAll.cons h2 (NiceAll.cons h3 NiceAll.nil))
theorem Nice.cons1 {n k : Nat} {d : PyData} (h : Nice n k d) : NiceAll (n + 1 + 0) k [d] := NiceAll.cons h NiceAll.nil
theorem Nice.tup {n k : Nat} {ds : List PyData} (h : NiceAll n k ds) : Nice n (k + 1) (.tuple ds) := ⟨h.bulk, Nat.succ_le_succ h.depth, h.lay, h.show_, h.short, h.dict⟩
theorem Nice.lst {n k : Nat} {ds : List PyData} (h : NiceAll n k ds) : Nice n (k + 1) (.list ds) := ⟨h.bulk, Nat.succ_le_succ h.depth, h.lay, h.show_, h.short, h.dict⟩
def dI (ns : List Int) : List PyData := ns.map PyData.int
theorem NiceAll.ints : ∀ {ns : List Int}, (∀ n ∈ ns, n.natAbs < 10 ^ 12) → NiceAll ns.length 0 (dI ns)
  | [], _ => NiceAll.nil
  | n :: r, h => by
    have z := NiceAll.cons (Nice.int (h n List.mem_cons_self)) (NiceAll.ints (ns := r) fun m hm => h m (List.mem_cons_of_mem _ hm))
    exact z.mono (by rw [List.length_cons]; omega) (Nat.le_refl _)
theorem dp_ints {K : PySem.W.Frag} {H : Hp} : ∀ (ns : List Int), DpAll K H (ns.map V.int) (dI ns)
  | [] => .nil
  | n :: r => .cons (.int n) (dp_ints r)
theorem dp_T {K : PySem.W.Frag} {H : Hp} {a : Addr} {ns : List Int} (h : SqT K H a (ns.map V.int)) : Dp K H (.ref a) (.tuple (dI ns)) := .tup h (dp_ints ns)
theorem dp_L {K : PySem.W.Frag} {H : Hp} {a : Addr} {ns : List Int} (h : SqL K H a (ns.map V.int)) : Dp K H (.ref a) (.list (dI ns)) := .lst h (dp_ints ns)
theorem Nice.shaped {n k : Nat} {d : PyData} (h : Nice n k d) (hk : k ≤ 64) : SeqAt.shaped d = true := by
  show (d.canLay0 && decide (d.depth ≤ 64)) = true
  rw [h.lay, decide_eq_true (Nat.le_trans h.depth hk)] <;> rfl

theorem lay_ints : ∀ ns : List Int, PyData.canLayAll0 (dI ns) = true ∧ PyData.depthAll (dI ns) = 0
  | [] => ⟨rfl, rfl⟩
  | n :: r => by
    obtain ⟨h1, h2⟩ := lay_ints r
    refine ⟨?_, ?_⟩
    · show (true && PyData.canLayAll0 (dI r)) = true
      rw [h1] <;> rfl
    · show max 0 (PyData.depthAll (dI r)) = 0
      rw [h2] <;> rfl
theorem shaped_ints (ns : List Int) : SeqAt.shaped (.list (dI ns)) = true := by
  obtain ⟨h1, h2⟩ := lay_ints ns
  show (PyData.canLayAll0 (dI ns) && decide (PyData.depthAll (dI ns) + 1 ≤ 64)) = true
  rw [h1, h2] <;> rfl
section
variable {K : PySem.W.Frag} {H : Hp} {Q : VK} {x y : V} {d e : PyData} {n k m j : Nat}
theorem rd_repr (hx : Dp K H x d) (h : Nice n k d) (hn : n ≤ 2 ^ 20) (hk : k ≤ 40) (hd : isDisplay d = true) (q : Q (.str d.shown) H) : rRepr K [x] H Q :=
  ⟨x, d, rfl, hx, h.show_, hd, h.dict, Nat.le_trans h.depth hk, PyData.shown_fits_bulk (by decide) (by decide) h.short (Nat.le_trans h.bulk hn), q⟩
theorem rd_eqD (hx : Dp K H x d) (hy : Dp K H y e) (h1 : Nice n k d) (h2 : Nice m j e) (hk : k ≤ 64) (hj : j ≤ 64) (q : Q (.bl (PyData.eqv d e)) H) : rEqD K x y H Q :=
  ⟨d, e, hx, hy, h1.shaped hk, h2.shaped hj, q⟩
theorem rd_neD (hx : Dp K H x d) (hy : Dp K H y e) (h1 : Nice n k d) (h2 : Nice m j e) (hk : k ≤ 64) (hj : j ≤ 64) (q : Q (.bl (!PyData.eqv d e)) H) : rNeD K x y H Q :=
  ⟨d, e, hx, hy, h1.shaped hk, h2.shaped hj, q⟩
/-- xs != [] -/
theorem rd_full {p : Addr} {a : Addr} {vs : List V} {ds : List PyData} (hx : SqL K H a vs) (hv : DpAll K H vs ds) (h : SeqAt.shaped (.list ds) = true) (hp : SqL K H p [])
    (q : Q (.bl (!vs.isEmpty)) H) : rNeD K (.ref a) (.ref p) H Q := by
  refine ⟨.list ds, .list [], .lst hx hv, .lst hp .nil, h, rfl, ?_⟩
  cases hv with
  | nil => exact q
  | cons a b => exact q
end
section
variable {K : PySem.W.Frag} {H : Hp} {Q : VK} {l : Addr} {xs : List V} {y : V} {A : Prop}
theorem rd_tyL (h : H l = some (.lst xs)) (q : A) : tyV K "list" (.ref l) H ∧ A := ⟨.inl ⟨rfl, _, SqL.of h⟩, q⟩
theorem rd_append (h : H l = some (.lst xs)) (hz : xs.length < 100000) (q : Q .non (upd H l (.lst (xs ++ [y])))) : rAppend (.ref l) [y] H Q :=
  ⟨l, xs, y, rfl, rfl, h, Evl.sz_lt hz, q⟩
theorem rd_pop (h : H l = some (.lst (xs ++ [y]))) (q : Q y (upd H l (.lst xs))) : rPop (.ref l) [] H Q :=
  ⟨l, xs ++ [y], y, rfl, rfl, h, by rw [List.length_append, List.length_singleton, Nat.add_sub_cancel, List.getElem?_append_right (Nat.le_refl _), Nat.sub_self] <;> rfl, by
    rw [List.dropLast_concat]
    exact q⟩
theorem rd_popAt {k : Nat} {i : Int} (h : H l = some (.lst xs)) (e : i = (k : Int)) (hk : xs[k]? = some y) (hz : xs.length ≤ 100000) (q : Q y (upd H l (.lst (xs.eraseIdx k)))) : rPopAt (.ref l) [.int i] H Q := by
  have hk' : k < xs.length := (List.getElem?_eq_some_iff.mp hk).1
  refine ⟨l, xs, i, k, y, rfl, rfl, h, by omega, by omega, ?_, hk, q⟩
  subst e
  have z := seqIndex_of (k := (k : Int)) (n := xs.length) (Int.natCast_nonneg k) (by exact_mod_cast hk')
  simpa using z
theorem at_nat {ys : List V} {i : Int} {k : Nat} (e : i = (k : Int)) (h : ys[k]? = some y) : atI ys i = some y := by
  rw [e]
  exact atI_nat h
end
/-! ### the draws' deck read -/
theorem kv_text {x : Str} : kV (Sum.inr x) = V.str x := rfl
theorem deck_deep {d l : Addr} {s : Int} {H : Hp} (h : H d = some (.dK [(.inr "deep", .ref l), (.inr "state", .int s)])) : DGet H d (.str "deep") (some (.ref l)) :=
  DGet.k (k := Sum.inr "deep") h
theorem deck_state {d l : Addr} {s : Int} {H : Hp} (h : H d = some (.dK [(.inr "deep", .ref l), (.inr "state", .int s)])) : DGet H d (.str "state") (some (.int s)) :=
  DGet.k (k := Sum.inr "state") h
theorem deck_put {d l : Addr} {s t : Int} {H : Hp} (h : H d = some (.dK [(.inr "deep", .ref l), (.inr "state", .int s)])) :
    DPut H d (.str "state") (.int t) (upd H d (.dK [(.inr "deep", .ref l), (.inr "state", .int t)])) :=
  DPut.k (k := Sum.inr "state") (v := .int t) h (by show 2 < sizeLine; rw [sizeLine_eq]; omega)
end Ea
set_option Elab.async false
set_option linter.all false
set_option maxRecDepth 100000
set_option maxHeartbeats 4000000
/-! Comprehensions and loops among draws; texts of owners. -/
namespace Ea
open PySem PySem.Spec PyProof.Rows L2

/-- what a comprehension's walk asks, by its iterator -/
def LcR (g : TG) (tt : TT) (te : TE) (vs : List Nat) (σ : L2.St) (Q : VK) (J : It) (H1 : Hp) : Prop :=
  ∀ D, H1 D = none → ∃ W : Nat → Nat → Hp → Prop, (∃ m, W 0 m (upd H1 D (.lst []))) ∧ ∀ i m H, W i m H →
    (J.stop i H ∧ Q (.ref D) H) ∨
    (J.go i H ∧ ∃ Nx : Hp → Prop, (∀ H', Nx H' → ∃ m', m' < m ∧ W (i + 1) m' H') ∧
      ∀ x H', J.yld i H x H' → g x (wipe σ vs) H' fun σ2 H2 => wipe σ2 vs = wipe σ vs ∧ tt σ2 H2 fun b H3 =>
        if b = true then te σ2 H3 fun y H4 => ∃ acc, H4 D = some (.lst acc) ∧ acc.length < sizeLine ∧ Nx (upd H4 D (.lst (acc ++ [y]))) else Nx H3)
section
variable {K : PySem.W.Frag} {σ : L2.St} {H : Hp} {Q : VK} {QB : Bool → Hp → Prop} {g : TG} {tt : TT} {te tl : TE} {ta : TA} {vs : List Nat} {wi : TI} {R : It → Hp → Prop} {a b : Int}
theorem rd_lc (h : wi σ H (LcR g tt te vs σ Q)) : tLc wi g tt te vs σ H Q := h
theorem rd_iTup (h : tl σ H fun x H1 => ∃ a, x = .ref a ∧ (∃ xs, SqT K H1 a xs) ∧ R (Itt K a) H1) : iTup K tl σ H R := h
theorem rd_iList (h : tl σ H fun x H1 => ∃ a, x = .ref a ∧ (∃ xs, SqL K H1 a xs) ∧ R (Itl K a) H1) : iList K tl σ H R := h
theorem rd_iRng1 (h : ta σ H fun vs H1 => ∃ j : Int, vs = [.int j] ∧ -(2 ^ 62) ≤ j ∧ j < 2 ^ 62 ∧ R (Itr 0 j.toNat) H1) : iRng1 ta σ H R := h
theorem rd_rng1 (h1 : -(2 ^ 62) ≤ a) (h2 : a < 2 ^ 62) (h : R (Itr 0 a.toNat) H) : ∃ j : Int, ([.int a] : List V) = [.int j] ∧ -(2 ^ 62) ≤ j ∧ j < 2 ^ 62 ∧ R (Itr 0 j.toNat) H := ⟨a, rfl, h1, h2, h⟩
theorem rd_ref {p : Addr} {xs : List V} {P : Addr → Prop} (s : SqT K H p xs) (h : P p) : ∃ a, V.ref p = .ref a ∧ (∃ xs, SqT K H a xs) ∧ P a := ⟨p, rfl, ⟨xs, s⟩, h⟩
theorem rd_refL {p : Addr} {xs : List V} {P : Addr → Prop} (s : SqL K H p xs) (h : P p) : ∃ a, V.ref p = .ref a ∧ (∃ xs, SqL K H a xs) ∧ P a := ⟨p, rfl, ⟨xs, s⟩, h⟩
theorem rd_yes (h : QB true H) : tYes σ H QB := h
theorem rd_true {A B : Prop} (h : A) : if true = true then A else B := by
  rw [if_pos rfl]
  exact h
theorem rd_false {A B : Prop} (h : B) : if false = true then A else B := h
end

section
variable {d l : Addr} {K : PySem.W.Frag} {σ : L2.St} {H : Hp} {Q : VK} {tt : TT} {te : TE} {vs : List Nat} {j : Nat} {σx : V → L2.St} {a : Addr} {xs : List V}
/-- a turn of a comprehension among draws -/
abbrev Turn (d l : Addr) (H : Hp) (tt : TT) (te : TE) (σx : V → L2.St) (Pv : Nat → List V → Prop) (i : Nat) (x : V) : Prop :=
  ∀ (acc : List V) (H' : Hp) (N : VK) (S : Hp → Prop), Go d l H H' → Pv i acc →
    (∀ y H3, Go d l H' H3 → Pv (i + 1) (acc ++ [y]) → N y H3) → (∀ H3, Go d l H' H3 → Pv (i + 1) acc → S H3) →
    tt (σx x) H' fun b H2 => if b = true then te (σx x) H2 N else S H2
def Cg (d l : Addr) (H : Hp) (Pv : Nat → List V → Prop) (D : Addr) (i : Nat) (H' : Hp) : Prop :=
  ∃ acc, H D = none ∧ Go d l H H' ∧ H' D = some (.lst acc) ∧ acc.length ≤ i ∧ Pv i acc
theorem cg_start {Pv : Nat → List V → Prop} (hD : DeckB d l H) (h0 : Pv 0 []) {D : Addr} (e : H D = none) : Cg d l H Pv D 0 (upd H D (.lst [])) :=
  ⟨[], e, Go.new hD e, upd_same, Nat.le_refl _, h0⟩
theorem cg_turn {Pv : Nat → List V → Prop} {D : Addr} {i : Nat} {x : V} {H' : Hp} (hD : DeckB d l H) (hi : i < 100000) (ht : Turn d l H tt te σx Pv i x) (p : Cg d l H Pv D i H') :
    tt (σx x) H' fun b H3 => if b = true then te (σx x) H3 fun y H4 => ∃ acc, H4 D = some (.lst acc) ∧ acc.length < sizeLine ∧ Cg d l H Pv D (i + 1) (upd H4 D (.lst (acc ++ [y]))) else Cg d l H Pv D (i + 1) H3 := by
  obtain ⟨acc, e, g, ea, hl, hp⟩ := p
  obtain ⟨n1, n2⟩ := hD.off e
  refine ht acc H' _ _ g hp (fun y H3 g3 hp3 => ?_) fun H3 g3 hp3 => ?_
  · refine ⟨acc, g3.kp D _ n1 n2 ea, Evl.sz_lt (by omega), acc ++ [y], e, Go.mut (g.trans g3) hD e, upd_same, ?_, hp3⟩
    rw [List.length_append, List.length_singleton]
    omega
  · exact ⟨acc, e, g.trans g3, g3.kp D _ n1 n2 ea, by omega, hp3⟩
theorem lc_goT (Pv : Nat → List V → Prop) (hD : DeckB d l H) (hx : SqT K H a xs) (hz : xs.length ≤ 40000) (hσ : ∀ x, (wipe σ vs).set j (some x) = σx x) (hw : ∀ x, wipe (σx x) vs = wipe σ vs)
    (h0 : Pv 0 []) (hs : ∀ i x, xs[i]? = some x → Turn d l H tt te σx Pv i x)
    (hd : ∀ D acc H', Go d l H H' → H D = none → H' D = some (.lst acc) → Pv xs.length acc → Q (.ref D) H') : LcR (gName j) tt te vs σ Q (Itt K a) H := fun D hn =>
  lc_tup (xs := xs) (Cg d l H Pv D) (cg_start hD h0 hn) (fun i H' _ ⟨_, _, g, _⟩ => g.tup hD hx) (fun i x H' hi p => by
    rw [show gName j x (wipe σ vs) H' = fun N => N (σx x) H' from funext fun N => by rw [← hσ x] <;> rfl]
    refine ⟨hw x, ?_⟩
    have := (List.getElem?_eq_some_iff.mp hi).1
    exact cg_turn hD (by omega) (hs i x hi) p) fun H' p => by
    obtain ⟨acc, e, g, ea, _, hp⟩ := p
    exact hd D acc H' g e ea hp
theorem lc_goL (Pv : Nat → List V → Prop) (hD : DeckB d l H) (hx : ∀ H', Go d l H H' → SqL K H' a xs) (hz : xs.length ≤ 40000) (hσ : ∀ x, (wipe σ vs).set j (some x) = σx x) (hw : ∀ x, wipe (σx x) vs = wipe σ vs)
    (h0 : Pv 0 []) (hs : ∀ i x, xs[i]? = some x → Turn d l H tt te σx Pv i x)
    (hd : ∀ D acc H', Go d l H H' → H D = none → H' D = some (.lst acc) → Pv xs.length acc → Q (.ref D) H') : LcR (gName j) tt te vs σ Q (Itl K a) H := fun D hn =>
  lc_list (xs := xs) (Cg d l H Pv D) (cg_start hD h0 hn) (fun i H' _ ⟨_, _, g, _⟩ => hx H' g) (fun i x H' hi p => by
    rw [show gName j x (wipe σ vs) H' = fun N => N (σx x) H' from funext fun N => by rw [← hσ x] <;> rfl]
    refine ⟨hw x, ?_⟩
    have := (List.getElem?_eq_some_iff.mp hi).1
    exact cg_turn hD (by omega) (hs i x hi) p) fun H' p => by
    obtain ⟨acc, e, g, ea, _, hp⟩ := p
    exact hd D acc H' g e ea hp
theorem lc_goR {lo : Int} {n : Nat} (Pv : Nat → List V → Prop) (hD : DeckB d l H) (hz : n ≤ 40000) (hσ : ∀ x, (wipe σ vs).set j (some x) = σx x) (hw : ∀ x, wipe (σx x) vs = wipe σ vs)
    (h0 : Pv 0 []) (hs : ∀ i, i < n → Turn d l H tt te σx Pv i (.int (lo + i)))
    (hd : ∀ D acc H', Go d l H H' → H D = none → H' D = some (.lst acc) → Pv n acc → Q (.ref D) H') : LcR (gName j) tt te vs σ Q (Itr lo n) H := fun D hn =>
  lc_range (Cg d l H Pv D) (cg_start hD h0 hn) (fun i H' hi p => by
    rw [show gName j (.int (lo + i)) (wipe σ vs) H' = fun N => N (σx (.int (lo + i))) H' from funext fun N => by rw [← hσ (.int (lo + i))] <;> rfl]
    exact ⟨hw _, cg_turn hD (by omega) (hs i hi) p⟩) fun H' p => by
    obtain ⟨acc, e, g, ea, _, hp⟩ := p
    exact hd D acc H' g e ea hp
end

/-! ### texts of "e" and "s" -/
def OwnS (n : Nat) (z : Str) : Prop := z.length = n ∧ ∀ c ∈ z.cps.toList, c = 101 ∨ c = 115
theorem folded_mem (z : Array Nat) : ∀ (n : Nat) (acc : Array Nat) (c : Nat), c ∈ ((List.replicate n z).foldl (· ++ ·) acc).toList → c ∈ acc.toList ∨ c ∈ z.toList
  | 0, acc, c, h => .inl h
  | n + 1, acc, c, h => by
    rw [List.replicate_succ, List.foldl_cons] at h
    rcases folded_mem z n _ c h with h | h
    · rw [Array.toList_append] at h
      exact List.mem_append.mp h
    · exact .inr h
theorem own_rep {z : Str} {k : Nat} {n : Int} (h : OwnS k z) (h0 : 0 ≤ n) : OwnS (n.toNat * k) (repS z n) := by
  refine ⟨by rw [repS_length, h.1], fun c hc => ?_⟩
  rcases folded_mem z.cps n.toNat #[] c hc with q | q
  · simp at q
  · exact h.2 c q
theorem own_add {y z : Str} {k m : Nat} (h1 : OwnS k y) (h2 : OwnS m z) : OwnS (k + m) (y ++ z) := by
  refine ⟨by rw [Str.length_append, h1.1, h2.1], fun c hc => ?_⟩
  have e : (y ++ z).cps.toList = y.cps.toList ++ z.cps.toList := by
    rw [Str.cps_append, Array.toList_append]
  rw [e] at hc
  exact (List.mem_append.mp hc).elim (h1.2 c) (h2.2 c)
theorem own_cut {z : Str} {k n : Nat} (h : OwnS k z) (hn : n ≤ k) : OwnS n (cutS z none (some (n : Int))) := by
  have e1 : HT.sIx z.length 0 none = 0 := HT.sIx_none _ _
  have e2 : HT.sIx z.length z.length (some (n : Int)) = min n z.length := HT.sIx_nat _ _ _
  refine ⟨?_, fun c hc => h.2 c ?_⟩
  · show (cutS z none (some (n : Int))).cps.size = n
    unfold cutS
    rw [e1, e2, List.drop_zero, List.size_toArray, List.length_take, Nat.sub_zero]
    have e3 : z.cps.toList.length = k := h.1
    have e4 : z.length = k := h.1
    rw [e3, e4]
    omega
  · unfold cutS at hc
    rw [List.toList_toArray] at hc
    exact List.mem_of_mem_drop (List.mem_of_mem_take hc)
theorem own_e : OwnS 1 "e" := ⟨rfl, by decide⟩
theorem own_s : OwnS 1 "s" := ⟨rfl, by decide⟩
theorem own_fold : ∀ (ys : List Str) (acc : Array Nat) (m : Nat), (∀ y ∈ ys, OwnS 1 y) → OwnS m ⟨acc⟩ →
    OwnS (m + ys.length) ⟨ys.foldl (fun acc p => acc ++ (Str.ofString "").cps ++ p.cps) acc⟩
  | [], acc, m, _, h => h
  | y :: r, acc, m, hy, h => by
    rw [List.foldl_cons, List.length_cons, show m + (r.length + 1) = (m + 1) + r.length by omega]
    refine own_fold r _ (m + 1) (fun z hz => hy z (List.mem_cons_of_mem _ hz)) ?_
    have e : (⟨acc ++ (Str.ofString "").cps ++ y.cps⟩ : Str) = (⟨acc⟩ : Str) ++ y := by
      show (⟨acc ++ #[] ++ y.cps⟩ : Str) = _
      rw [Array.append_empty]
      rfl
    rw [e]
    exact own_add h (hy y List.mem_cons_self)
theorem own_join {ys : List Str} (h : ∀ y ∈ ys, OwnS 1 y) : OwnS ys.length (Txt.join "" ys) := by
  cases ys with
  | nil => exact ⟨rfl, by decide⟩
  | cons y r =>
    have z := own_fold r y.cps 1 (fun z hz => h z (List.mem_cons_of_mem _ hz)) (h y List.mem_cons_self)
    rw [List.length_cons, Nat.add_comm]
    exact z
theorem own_sum {ys : List Str} (h : ∀ y ∈ ys, OwnS 1 y) : (ys.map (·.length)).sum = ys.length := by
  induction ys with
  | nil => rfl
  | cons y r ih =>
    rw [List.map_cons, List.sum_cons, ih fun z hz => h z (List.mem_cons_of_mem _ hz), (h y List.mem_cons_self).1, List.length_cons]
    omega
/-! ### + of texts, in -/
def rAddSt : R2 := fun x y H Q => ∃ i j, x = .str i ∧ y = .str j ∧ i.length + j.length ≤ sizeLine ∧ Q (.str (i ++ j)) H
theorem op_addSt {X : Cx} : OpR X (binaryOp .Add) rAddSt := op_add_str
section
variable {K : PySem.W.Frag} {H : Hp} {Q : VK} {a : Int} {p : Addr} {ns : List Int} {y z : Str}
theorem rd_addSt (hz : y.length + z.length ≤ sizeLine) (h : Q (.str (y ++ z)) H) : rAddSt (.str y) (.str z) H Q := ⟨y, z, rfl, rfl, hz, h⟩
theorem flat_ints : ∀ ns : List Int, (ns.map V.int).all flatV = true
  | [] => rfl
  | _ :: r => flat_ints r
theorem inV_ints (a : Int) : ∀ ns : List Int, inV (.int a) (ns.map V.int) = decide (a ∈ ns)
  | [] => rfl
  | n :: r => by
    show ((n == a) || inV (.int a) (r.map V.int)) = _
    rw [inV_ints a r]
    by_cases h : n = a
    · subst h
      simp
    · have h' : ¬ a = n := fun e => h e.symm
      have e1 : (n == a) = false := beq_eq_false_iff_ne.mpr h
      rw [e1, Bool.false_or]
      simp [h']
theorem rd_inT (s : SqT K H p (ns.map V.int)) (h : Q (.bl (decide (a ∈ ns))) H) : rIn K false (.int a) (.ref p) H Q :=
  ⟨p, ns.map V.int, rfl, .inr s, rfl, flat_ints ns, by rw [inV_ints]; exact h⟩
theorem rd_inL (s : SqL K H p (ns.map V.int)) (h : Q (.bl (decide (a ∈ ns))) H) : rIn K false (.int a) (.ref p) H Q :=
  ⟨p, ns.map V.int, rfl, .inl s, rfl, flat_ints ns, by rw [inV_ints]; exact h⟩
theorem rd_notInT (s : SqT K H p (ns.map V.int)) (h : Q (.bl (!decide (a ∈ ns))) H) : rIn K true (.int a) (.ref p) H Q :=
  ⟨p, ns.map V.int, rfl, .inr s, rfl, flat_ints ns, by rw [inV_ints]; exact h⟩
theorem rd_notInL (s : SqL K H p (ns.map V.int)) (h : Q (.bl (!decide (a ∈ ns))) H) : rIn K true (.int a) (.ref p) H Q :=
  ⟨p, ns.map V.int, rfl, .inl s, rfl, flat_ints ns, by rw [inV_ints]; exact h⟩
end
/-! ### join -/
def rJoin (K : PySem.W.Frag) : V → List V → Hp → VK → Prop := fun x xs H Q =>
  ∃ (a : Str) (p : Addr) (ys : List Str), x = .str a ∧ xs = [.ref p] ∧ (SqL K H p (ys.map V.str) ∨ SqT K H p (ys.map V.str)) ∧
    (ys.map (·.length)).sum + ys.length * a.length ≤ 16777216 ∧ Q (.str (Txt.join a ys)) H
section
variable {X : Cx} {o e : Expr} {to te : TE} {apos pos : Pos}
theorem pe_joinN (ho : PE X o to) (he : PE X e te) (hs : starEach [e] X.env = [(false, eval e X.env)] := by rfl)
    (hbase : attributeBase o "join" X.env (eval o X.env) = eval o X.env := by rfl) (hline : (apos.endLine == pos.line) = true := by rfl) :
    PE X (.Call (.Attribute o "join" apos) [e] [] pos) (tM1 (rJoin X.K) to te) := pe_join ho he hs hbase hline
end
section
variable {K : PySem.W.Frag} {σ : L2.St} {H : Hp} {Q : VK} {to te : TE} {r : V → List V → Hp → VK → Prop} {z : Str} {P : Prop}
theorem rd_m1 (h : to σ H fun x H1 => (∃ a, x = .str a) ∧ te σ H1 fun y H2 => r x [y] H2 Q) : tM1 r to te σ H Q := h
theorem rd_isS (h : P) : (∃ a, V.str z = .str a) ∧ P := ⟨⟨z, rfl⟩, h⟩
theorem rd_join {p : Addr} {ys : List Str} (s : SqL K H p (ys.map V.str)) (hz : (ys.map (·.length)).sum + ys.length * z.length ≤ 16777216) (h : Q (.str (Txt.join z ys)) H) : rJoin K (.str z) [.ref p] H Q :=
  ⟨z, p, ys, rfl, rfl, .inl s, hz, h⟩
theorem rd_mulS {n : Int} (h0 : 0 ≤ n) (h1 : n ≤ 1000) (h2 : z.length ≤ 1000) (h3 : 1 ≤ z.length) (h : Q (.str (repS z n)) H) : rMulS (.str z) (.int n) H Q := ⟨z, n, rfl, rfl, h0, h1, h2, h3, h⟩
theorem rd_addS {y : Str} (hz : y.length + z.length ≤ sizeLine) (h : Q (.str (y ++ z)) H) : (∃ i j, V.str y = .str i ∧ V.str z = .str j ∧ i.length + j.length ≤ sizeLine ∧ Q (.str (i ++ j)) H) := ⟨y, z, rfl, rfl, hz, h⟩
theorem rd_slS {lo hi : Option Int} (hz : z.length ≤ sizeLine) (h : Q (.str (cutS z lo hi)) H) : rSlS (.str z) lo hi H Q := ⟨z, rfl, hz, h⟩
end
end Ea
set_option Elab.async false
set_option linter.all false
set_option maxRecDepth 100000
set_option maxHeartbeats 4000000
/-! Slices, sums of tuples, sorted lists of ints, ranges as lists; rows of literals. -/
namespace Ea
open PySem PySem.Spec PyProof.Rows L2

/-! ### slices -/
theorem take_min {α : Type} (xs : List α) (k : Nat) : xs.take (min k xs.length) = xs.take k := by
  by_cases h : k ≤ xs.length
  · rw [Nat.min_eq_left h]
  · rw [Nat.min_eq_right (by omega), List.take_of_length_le (Nat.le_refl _), List.take_of_length_le (by omega)]
theorem drop_min {α : Type} (xs : List α) (k : Nat) : xs.drop (min k xs.length) = xs.drop k := by
  by_cases h : k ≤ xs.length
  · rw [Nat.min_eq_left h]
  · rw [Nat.min_eq_right (by omega), List.drop_of_length_le (Nat.le_refl _), List.drop_of_length_le (by omega)]
section
variable {ns : List Int} {xs : List V} {a b : Int}
theorem sIx_int (n e : Nat) (h : 0 ≤ a) : HT.sIx n e (some a) = min a.toNat n := by
  have z := HT.sIx_nat n e a.toNat
  rw [Int.toNat_of_nonneg h] at z
  exact z
theorem cut_take (h : 0 ≤ b) : cutV xs none (some b) = xs.take b.toNat := by
  unfold cutV
  rw [HT.sIx_none, sIx_int _ _ h, List.drop_zero, Nat.sub_zero, take_min]
theorem cut_drop (h : 0 ≤ a) : cutV xs (some a) none = xs.drop a.toNat := by
  unfold cutV
  rw [HT.sIx_none, sIx_int _ _ h, drop_min]
  exact List.take_of_length_le (by rw [List.length_drop]; omega)
theorem cut_mid (h : 0 ≤ a) (h2 : 0 ≤ b) : cutV xs (some a) (some b) = (xs.drop a.toNat).take (b.toNat - a.toNat) := by
  unfold cutV
  rw [sIx_int _ _ h, sIx_int _ _ h2, drop_min]
  by_cases c : b.toNat ≤ xs.length
  · rw [Nat.min_eq_left c]
    by_cases c2 : a.toNat ≤ xs.length
    · rw [Nat.min_eq_left c2]
    · rw [List.drop_of_length_le (by omega), List.take_nil, List.take_nil]
  · rw [Nat.min_eq_right (by omega)]
    by_cases c2 : a.toNat ≤ xs.length
    · rw [Nat.min_eq_left c2, List.take_of_length_le (by rw [List.length_drop]; omega), List.take_of_length_le (by rw [List.length_drop]; omega)]
    · rw [List.drop_of_length_le (by omega), List.take_nil, List.take_nil]
theorem cut_whole {lo hi : Option Int} (h : HT.sIx xs.length 0 lo = 0 ∧ HT.sIx xs.length xs.length hi = xs.length) : cutV xs lo hi = xs := by
  unfold cutV
  rw [h.1, h.2, List.drop_zero, Nat.sub_zero]
  exact List.take_of_length_le (Nat.le_refl _)
end
section
variable {d l : Addr} {K : PySem.W.Frag} {σ : L2.St} {H H' : Hp} {Q : VK} {p p2 : Addr} {xs ys : List V} {lo hi : Option Int} {ns : List Int} {a b : Int}
theorem Go.ex (e : Evl.Ex H H') (h : DeckB d l H) : Go d l H H' := by
  obtain ⟨ns, s, e1, e2, r⟩ := h
  exact ⟨⟨ns, s, e _ _ e1, e _ _ e2, r⟩, fun a o _ _ q => e a o q⟩
theorem rd_slT (s : SqT K H p xs) (h : ∀ (q : Addr) (H' : Hp), Evl.Ex H H' → SqT K H' q (cutV xs lo hi) → Q (.ref q) H') : rSlA K (.ref p) lo hi H Q :=
  ⟨p, xs, rfl, s, fun e => h p H (Evl.Ex.refl H) (by rw [cut_whole e]; exact s), fun _ q hq => h q _ (Evl.Ex.new hq) (SqT.of upd_same)⟩
theorem rd_slL (s : SqL K H p xs) (h : ∀ q, H q = none → Q (.ref q) (upd H q (.lst (cutV xs lo hi)))) : rSlL K (.ref p) lo hi H Q := ⟨p, xs, rfl, s, h⟩
theorem rd_catT (s : SqT K H p xs) (s2 : SqT K H p2 ys) (hz : xs.length + ys.length ≤ sizeLine)
    (h : ∀ (q : Addr) (H' : Hp), Evl.Ex H H' → SqT K H' q (xs ++ ys) → Q (.ref q) H') : rCatA K (.ref p) (.ref p2) H Q := by
  refine ⟨p, p2, xs, ys, rfl, rfl, s, s2, hz, fun e => ?_, fun _ e => ?_, fun _ _ q hq => h q _ (Evl.Ex.new hq) (SqT.of upd_same)⟩
  · subst e
    exact h p2 H (Evl.Ex.refl H) s2
  · subst e
    exact h p H (Evl.Ex.refl H) (by rw [List.append_nil]; exact s)
theorem rd_catL (s : H p = some (.lst xs)) (s2 : H p2 = some (.lst ys)) (hz : xs.length + ys.length ≤ sizeLine) (h : ∀ q, H q = none → Q (.ref q) (upd H q (.lst (xs ++ ys)))) : rCat (.ref p) (.ref p2) H Q :=
  ⟨p, p2, xs, ys, rfl, rfl, s, s2, hz, h⟩
theorem rd_sorted (s : SqL K H p (ns.map V.int)) (h : ∀ (ms : List Int) (q : Addr), ms.Perm ns → ms.Pairwise (· ≤ ·) → H q = none → Q (.ref q) (upd H q (.lst (ms.map V.int)))) : rSortedI K [.ref p] H Q :=
  ⟨p, ns, rfl, s, h⟩
def rgI (a b : Int) : List Int := (List.range (b - a).toNat).map fun i => a + (i : Nat)
theorem rgV_ints (a b : Int) : rgV a b = (rgI a b).map V.int := by
  unfold rgV rgI
  rw [List.map_map]
  rfl
theorem rd_listRg {te : L2.St → Hp → (Int → Int → Hp → Prop) → Prop} (h : te σ H fun a b H1 => RgOk a b ∧ ∀ q, H1 q = none → Q (.ref q) (upd H1 q (.lst (rgV a b)))) : tLstRg te σ H Q := h
theorem rd_rg2 {ta tb : TE} {R : Int → Int → Hp → Prop} (h : ta σ H fun x H1 => tb σ H1 fun y H2 => ∃ i j, x = .int i ∧ y = .int j ∧ R i j H2) : tRg2 ta tb σ H R := h
theorem rd_rgk {R : Int → Int → Prop} (h : R a b) : ∃ i j, V.int a = .int i ∧ V.int b = .int j ∧ R i j := ⟨a, b, rfl, rfl, h⟩
theorem rgI_mem {a b x : Int} : x ∈ rgI a b ↔ a ≤ x ∧ x < b := by
  unfold rgI
  rw [List.mem_map]
  constructor
  · rintro ⟨i, hi, rfl⟩
    have := List.mem_range.mp hi
    omega
  · rintro ⟨h1, h2⟩
    exact ⟨(x - a).toNat, List.mem_range.mpr (by omega), by omega⟩
theorem rgI_lt (a b : Int) : (rgI a b).Pairwise (· < ·) := by
  unfold rgI
  rw [List.pairwise_map]
  exact List.pairwise_lt_range.imp fun {i j} h => by omega
theorem rgI_length (a b : Int) : (rgI a b).length = (b - a).toNat := by
  unfold rgI
  rw [List.length_map, List.length_range]
end
theorem nodup_of_lt {ns : List Int} (h : ns.Pairwise (· < ·)) : ns.Nodup := h.imp fun {a b} q => by omega
theorem lt_of_sorted {ns : List Int} (h : ns.Pairwise (· ≤ ·)) (hn : ns.Nodup) : ns.Pairwise (· < ·) := by
  refine (h.and hn).imp fun {a b} q => ?_
  obtain ⟨q1, q2⟩ := q
  have q2 : a ≠ b := q2
  omega

/-! ### rows -/
/-- a clause of n letters -/
def Row (n : Nat) (ns : List Int) : Prop := ns.Pairwise (fun x y => x.natAbs < y.natAbs) ∧ ∀ x ∈ ns, 1 ≤ x.natAbs ∧ x.natAbs ≤ n
theorem Row.nil {n : Nat} : Row n [] := ⟨List.Pairwise.nil, nofun⟩
theorem Row.sub {n : Nat} {xs ys : List Int} (h : Row n ys) (s : xs.Sublist ys) : Row n xs := ⟨h.1.sublist s, fun x hx => h.2 x (s.subset hx)⟩
theorem Row.abs {n : Nat} {xs ys : List Int} (h : Row n ys) (e : xs.map Int.natAbs = ys.map Int.natAbs) : Row n xs := by
  have h1 : (ys.map Int.natAbs).Pairwise (· < ·) := by
    rw [List.pairwise_map]
    exact h.1
  rw [← e, List.pairwise_map] at h1
  refine ⟨h1, fun x hx => ?_⟩
  have : x.natAbs ∈ ys.map Int.natAbs := by
    rw [← e]
    exact List.mem_map_of_mem hx
  obtain ⟨y, hy, e2⟩ := List.mem_map.mp this
  rw [← e2]
  exact h.2 y hy
theorem Row.of_letters {n : Nat} {ns : List Int} (h : ns.Pairwise (· < ·)) (hm : ∀ x ∈ ns, 1 ≤ x ∧ x ≤ (n : Int)) : Row n ns := by
  refine ⟨?_, fun x hx => ?_⟩
  · refine List.Pairwise.imp_of_mem (fun {a b} ha hb q => ?_) h
    have := hm a ha
    have := hm b hb
    omega
  · have := hm x hx
    omega
theorem Row.length {n : Nat} : ∀ {ns : List Int}, Row n ns → ns.length ≤ n := by
  have key : ∀ (ns : List Int) (k : Nat), ns.Pairwise (fun x y => x.natAbs < y.natAbs) → (∀ x ∈ ns, k < x.natAbs ∧ x.natAbs ≤ n) → k ≤ n → ns.length + k ≤ n := by
    intro ns
    induction ns with
    | nil => intro k _ _ h; simpa using h
    | cons x r ih =>
      intro k hp hm hk
      obtain ⟨h1, h2⟩ := List.pairwise_cons.mp hp
      have hx := hm x List.mem_cons_self
      have z := ih x.natAbs h2 (fun y hy => ⟨h1 y hy, (hm y (List.mem_cons_of_mem _ hy)).2⟩) hx.2
      rw [List.length_cons]
      omega
  intro ns h
  have z := key ns 0 h.1 (fun x hx => ⟨by have := (h.2 x hx).1; omega, (h.2 x hx).2⟩) (Nat.zero_le _)
  omega
end Ea
set_option Elab.async false
set_option linter.all false
set_option maxHeartbeats 4000000
/-! Rows dropped, clashing and met: plain lists. -/
namespace Ea
/-- without what holds at the end -/
def dropTail (f : Int → Bool) (ns : List Int) : List Int := (ns.reverse.dropWhile f).reverse
theorem dropTail_nil (f : Int → Bool) : dropTail f [] = [] := rfl
theorem dropTail_snoc_pos {f : Int → Bool} {ns : List Int} {x : Int} (h : f x = true) : dropTail f (ns ++ [x]) = dropTail f ns := by
  unfold dropTail
  rw [List.reverse_append, List.reverse_singleton, List.singleton_append, List.dropWhile_cons, if_pos h]
theorem dropTail_snoc_neg {f : Int → Bool} {ns : List Int} {x : Int} (h : f x = false) : dropTail f (ns ++ [x]) = ns ++ [x] := by
  unfold dropTail
  rw [List.reverse_append, List.reverse_singleton, List.singleton_append, List.dropWhile_cons, if_neg (by rw [h]; decide), List.reverse_cons, List.reverse_reverse]
theorem take_snoc {ns : List Int} {k : Nat} (h : k < ns.length) : ns.take (k + 1) = ns.take k ++ [ns[k]] := by
  rw [List.take_add_one, List.getElem?_eq_getElem h]
  rfl
theorem dropTail_idem (f : Int → Bool) (ns : List Int) : dropTail f (dropTail f ns) = dropTail f ns := by
  rcases List.eq_nil_or_concat (dropTail f ns) with e | ⟨m, z, e⟩
  · rw [e]
    rfl
  · have e : dropTail f ns = m ++ [z] := by simpa using e
    rw [e]
    refine dropTail_snoc_neg ?_
    have h : ns.reverse.dropWhile f = z :: m.reverse := by
      have h2 := congrArg List.reverse e
      unfold dropTail at h2
      rw [List.reverse_reverse, List.reverse_append] at h2
      simpa using h2
    have h3 := List.head?_dropWhile_not f ns.reverse
    rw [h] at h3
    simpa using h3
theorem dropTail_sub (f : Int → Bool) (ns : List Int) : (dropTail f ns).Sublist ns := by
  have h : (ns.reverse.dropWhile f).Sublist ns.reverse := List.dropWhile_sublist f
  have h2 := h.reverse
  rw [List.reverse_reverse] at h2
  exact h2
/-- the greatest letter of the other party's -/
def lastOf (f : Int → Bool) (ns : List Int) : List Int := (ns.filter fun x => !f x).map fun x => (x.natAbs : Int)
theorem short_eq {n : Nat} {f : Int → Bool} {m : Int} : ∀ {ns : List Int}, Row n ns → (m ∈ lastOf f ns ++ [0]) → (∀ y ∈ lastOf f ns ++ [0], y ≤ m) →
    (ns.filter fun x => !f x || decide ((x.natAbs : Int) < m)) = dropTail f ns := by
  intro ns
  generalize hk : ns.length = k
  induction k generalizing ns with
  | zero =>
    intro _ _ _
    rw [List.length_eq_zero_iff.mp hk]
    rfl
  | succ k ih =>
    intro hr hm hb
    obtain ⟨r, x, e⟩ : ∃ r x, ns = r ++ [x] := by
      rcases List.eq_nil_or_concat ns with e | ⟨r, x, e⟩
      · rw [e] at hk
        cases hk
      · exact ⟨r, x, by simpa using e⟩
    subst e
    have hlt : ∀ y ∈ r, y.natAbs < x.natAbs := fun y hy => (List.pairwise_append.mp hr.1).2.2 y hy x List.mem_cons_self
    have hx1 := (hr.2 x (List.mem_append_right _ List.mem_cons_self)).1
    have hr' : Row n r := hr.sub (List.sublist_append_left _ _)
    rw [List.filter_append]
    cases hf : f x with
    | false =>
      rw [dropTail_snoc_neg hf]
      have e2 : ([x].filter fun x => !f x || decide ((x.natAbs : Int) < m)) = [x] := by simp [hf]
      rw [e2]
      have hxm : (x.natAbs : Int) ≤ m := hb _ (List.mem_append_left _ (by
        unfold lastOf
        exact List.mem_map.mpr ⟨x, List.mem_filter.mpr ⟨List.mem_append_right _ List.mem_cons_self, by rw [hf]; rfl⟩, rfl⟩))
      congr 1
      refine List.filter_eq_self.mpr fun y hy => ?_
      have := hlt y hy
      rw [Bool.or_eq_true]
      exact .inr (decide_eq_true (by omega))
    | true =>
      rw [dropTail_snoc_pos hf]
      have el : lastOf f (r ++ [x]) = lastOf f r := by
        unfold lastOf
        rw [List.filter_append]
        have : ([x].filter fun x => !f x) = [] := by simp [hf]
        rw [this, List.append_nil]
      rw [el] at hm hb
      have hxm : ¬ (x.natAbs : Int) < m := by
        rcases List.mem_append.mp hm with h | h
        · obtain ⟨y, hy, e⟩ := List.mem_map.mp h
          have := hlt y (List.mem_filter.mp hy).1
          omega
        · rw [List.mem_singleton.mp h]
          omega
      have e2 : ([x].filter fun x => !f x || decide ((x.natAbs : Int) < m)) = [] := by simp [hf, hxm]
      rw [e2, List.append_nil]
      refine ih (ns := r) ?_ hr' hm hb
      rw [List.length_append, List.length_singleton] at hk
      omega

/-! ### letters in which rows clash -/
def against (one other : List Int) : List Int := (one.filter fun x => decide (-x ∈ other)).map fun x => (x.natAbs : Int)
theorem against_mem {one other : List Int} {k : Int} : k ∈ against one other ↔ ∃ x ∈ one, -x ∈ other ∧ (x.natAbs : Int) = k := by
  unfold against
  rw [List.mem_map]
  constructor
  · rintro ⟨x, hx, e⟩
    have h := List.mem_filter.mp hx
    exact ⟨x, h.1, of_decide_eq_true h.2, e⟩
  · rintro ⟨x, hx, h, e⟩
    exact ⟨x, List.mem_filter.mpr ⟨hx, decide_eq_true h⟩, e⟩
theorem against_lt {n : Nat} {one other : List Int} (h : Row n one) : (against one other).Pairwise (· < ·) := by
  unfold against
  rw [List.pairwise_map]
  exact (h.1.sublist List.filter_sublist).imp fun {a b} q => by omega
theorem eq_of_lt : ∀ {xs ys : List Int}, xs.Pairwise (· < ·) → ys.Pairwise (· < ·) → (∀ x, x ∈ xs ↔ x ∈ ys) → xs = ys
  | [], [], _, _, _ => rfl
  | [], y :: r, _, _, h => absurd ((h y).mpr List.mem_cons_self) nofun
  | x :: r, [], _, _, h => absurd ((h x).mp List.mem_cons_self) nofun
  | x :: r, y :: t, h1, h2, h => by
    obtain ⟨a1, a2⟩ := List.pairwise_cons.mp h1
    obtain ⟨b1, b2⟩ := List.pairwise_cons.mp h2
    have e : x = y := by
      rcases List.mem_cons.mp ((h x).mp List.mem_cons_self) with e | e
      · exact e
      · rcases List.mem_cons.mp ((h y).mpr List.mem_cons_self) with e2 | e2
        · exact e2.symm
        · have := a1 y e2
          have := b1 x e
          omega
    subst e
    congr 1
    refine eq_of_lt a2 b2 fun z => ⟨fun hz => ?_, fun hz => ?_⟩
    · rcases List.mem_cons.mp ((h z).mp (List.mem_cons_of_mem _ hz)) with e | e
      · have := a1 z hz
        omega
      · exact e
    · rcases List.mem_cons.mp ((h z).mpr (List.mem_cons_of_mem _ hz)) with e | e
      · have := b1 z hz
        omega
      · exact e
theorem against_comm {n m : Nat} {one other : List Int} (h1 : Row n one) (h2 : Row m other) : against other one = against one other := by
  refine eq_of_lt (against_lt h2) (against_lt h1) fun k => ?_
  rw [against_mem, against_mem]
  constructor
  · rintro ⟨x, hx, hn, e⟩
    exact ⟨-x, hn, by rw [Int.neg_neg]; exact hx, by omega⟩
  · rintro ⟨x, hx, hn, e⟩
    exact ⟨-x, hn, by rw [Int.neg_neg]; exact hx, by omega⟩
theorem against_pos {n : Nat} {one other : List Int} (h : Row n one) {k : Int} (hk : k ∈ against one other) : 1 ≤ k ∧ k ≤ n := by
  obtain ⟨x, hx, _, e⟩ := against_mem.mp hk
  have := h.2 x hx
  omega

/-! ### rows that meet -/
def IsJoin (one other r : List Int) : Prop := r.Pairwise (fun x y => x.natAbs < y.natAbs) ∧ ∀ x, x ∈ r ↔ (x ∈ one ∨ x ∈ other) ∧ (x.natAbs : Int) ∉ against one other
theorem eq_of_asc : ∀ {xs ys : List Int}, xs.Pairwise (fun x y => x.natAbs < y.natAbs) → ys.Pairwise (fun x y => x.natAbs < y.natAbs) → (∀ x, x ∈ xs ↔ x ∈ ys) → xs = ys
  | [], [], _, _, _ => rfl
  | [], y :: r, _, _, h => absurd ((h y).mpr List.mem_cons_self) nofun
  | x :: r, [], _, _, h => absurd ((h x).mp List.mem_cons_self) nofun
  | x :: r, y :: t, h1, h2, h => by
    obtain ⟨a1, a2⟩ := List.pairwise_cons.mp h1
    obtain ⟨b1, b2⟩ := List.pairwise_cons.mp h2
    have e : x = y := by
      rcases List.mem_cons.mp ((h x).mp List.mem_cons_self) with e | e
      · exact e
      · rcases List.mem_cons.mp ((h y).mpr List.mem_cons_self) with e2 | e2
        · exact e2.symm
        · have := a1 y e2
          have := b1 x e
          omega
    subst e
    congr 1
    refine eq_of_asc a2 b2 fun z => ⟨fun hz => ?_, fun hz => ?_⟩
    · rcases List.mem_cons.mp ((h z).mp (List.mem_cons_of_mem _ hz)) with e | e
      · have := a1 z hz
        rw [e] at this
        omega
      · exact e
    · rcases List.mem_cons.mp ((h z).mpr (List.mem_cons_of_mem _ hz)) with e | e
      · have := b1 z hz
        rw [e] at this
        omega
      · exact e
theorem IsJoin.eq {one other r t : List Int} (h1 : IsJoin one other r) (h2 : IsJoin one other t) : r = t :=
  eq_of_asc h1.1 h2.1 fun x => (h1.2 x).trans (h2.2 x).symm
theorem IsJoin.comm {n m : Nat} {one other r : List Int} (a : Row n one) (b : Row m other) (h : IsJoin other one r) : IsJoin one other r :=
  ⟨h.1, fun x => by rw [h.2 x, against_comm a b, or_comm]⟩
theorem IsJoin.row {n : Nat} {one other r : List Int} (a : Row n one) (b : Row n other) (h : IsJoin one other r) : Row n r :=
  ⟨h.1, fun x hx => ((h.2 x).mp hx).1.elim (a.2 x) (b.2 x)⟩
/-- literals of one letter in both are the same, where they do not clash in it -/
theorem same_of {n : Nat} {one other : List Int} (a : Row n one) (b : Row n other) {x y : Int} (hx : x ∈ one ∨ x ∈ other) (hy : y ∈ one ∨ y ∈ other) (e : x.natAbs = y.natAbs)
    (hn : (x.natAbs : Int) ∉ against one other) : x = y := by
  have key : ∀ {xs : List Int}, Row n xs → x ∈ xs → y ∈ xs → x = y := fun {xs} h h1 h2 => by
    obtain ⟨i, hi, e1⟩ := List.mem_iff_getElem.mp h1
    obtain ⟨j, hj, e2⟩ := List.mem_iff_getElem.mp h2
    have hp := List.pairwise_iff_getElem.mp h.1
    rcases Nat.lt_trichotomy i j with q | q | q
    · have := hp i j hi hj q
      rw [e1, e2] at this
      omega
    · subst q
      rw [← e1, ← e2]
    · have := hp j i hj hi q
      rw [e1, e2] at this
      omega
  have opp : x = y ∨ y = -x := by omega
  rcases opp with q | q
  · exact q
  · subst q
    rcases hx with hx | hx <;> rcases hy with hy | hy
    · exact key a hx hy
    · exact absurd (against_mem.mpr ⟨x, hx, hy, rfl⟩) hn
    · exact absurd (against_mem.mpr ⟨-x, hy, by rw [Int.neg_neg]; exact hx, by omega⟩) hn
    · exact key b hx hy
end Ea
set_option Elab.async false
set_option linter.all false
set_option maxRecDepth 100000
set_option maxHeartbeats 4000000
/-! Comprehensions over ints where nothing is changed; greatest, texts' places. -/
namespace Ea
open PySem PySem.Spec PyProof.Rows L2
section
variable {K : PySem.W.Frag} {σ : L2.St} {H : Hp} {Q : VK} {tt : TT} {te : TE} {vs : List Nat} {j : Nat} {σx : V → L2.St} {a : Addr} {ns : List Int} {f : Int → Bool} {g : Int → V}
/-- a turn: f tells whether x gives, g what -/
abbrev TurnF (H : Hp) (tt : TT) (te : TE) (σx : V → L2.St) (f : Int → Bool) (g : Int → V) (x : Int) : Prop :=
  ∀ (H' : Hp) (N : VK) (S : Hp → Prop), Evl.Ex H H' → (f x = true → ∀ H3, Evl.Ex H' H3 → N (g x) H3) → (f x = false → ∀ H3, Evl.Ex H' H3 → S H3) →
    tt (σx (.int x)) H' fun b H2 => if b = true then te (σx (.int x)) H2 N else S H2
def Cf (H : Hp) (ns : List Int) (f : Int → Bool) (g : Int → V) (D : Addr) (i : Nat) (H' : Hp) : Prop :=
  H D = none ∧ Evl.Ex H H' ∧ H' D = some (.lst (((ns.take i).filter f).map g))
theorem cf_turn {D : Addr} {i : Nat} {x : Int} {H' : Hp} (hi : ns[i]? = some x) (hz : ns.length ≤ 40000) (ht : TurnF H tt te σx f g x) (p : Cf H ns f g D i H') :
    tt (σx (.int x)) H' fun b H3 => if b = true then te (σx (.int x)) H3 fun y H4 => ∃ acc, H4 D = some (.lst acc) ∧ acc.length < sizeLine ∧ Cf H ns f g D (i + 1) (upd H4 D (.lst (acc ++ [y]))) else Cf H ns f g D (i + 1) H3 := by
  obtain ⟨e, ex, ea⟩ := p
  have hl : ((((ns.take i).filter f).map g)).length < 100000 := by
    rw [List.length_map]
    have h1 := List.length_filter_le f (ns.take i)
    have h2 := List.length_take_le i ns
    have h3 := List.length_take (i := i) (l := ns)
    omega
  refine ht H' _ _ ex (fun hf H3 e3 => ?_) fun hf H3 e3 => ?_
  · refine ⟨_, e3 D _ ea, Evl.sz_lt hl, e, Evl.Ex.mut (ex.trans e3) e, ?_⟩
    rw [upd_same, List.take_add_one, hi, List.filter_append, List.map_append]
    have : ((some x).toList.filter f) = [x] := by simp [hf]
    rw [this] <;> rfl
  · refine ⟨e, ex.trans e3, ?_⟩
    rw [List.take_add_one, hi, List.filter_append]
    have : ((some x).toList.filter f) = [] := by simp [hf]
    rw [this, List.append_nil]
    exact e3 D _ ea
theorem lc_fmT (f : Int → Bool) (g : Int → V) (hx : SqT K H a (ns.map V.int)) (hz : ns.length ≤ 40000) (hσ : ∀ x, (wipe σ vs).set j (some x) = σx x) (hw : ∀ x, wipe (σx x) vs = wipe σ vs)
    (hs : ∀ x ∈ ns, TurnF H tt te σx f g x)
    (hd : ∀ D H', Evl.Ex H H' → H D = none → H' D = some (.lst ((ns.filter f).map g)) → Q (.ref D) H') : LcR (gName j) tt te vs σ Q (Itt K a) H := fun D hn =>
  lc_tup (xs := ns.map V.int) (Cf H ns f g D) ⟨hn, Evl.Ex.new hn, upd_same⟩ (fun i H' _ ⟨_, ex, _⟩ => Evl.ex_t ex hx) (fun i x H' hi p => by
    rw [List.getElem?_map] at hi
    obtain ⟨y, hy, rfl⟩ := Option.map_eq_some_iff.mp hi
    rw [show gName j (.int y) (wipe σ vs) H' = fun N => N (σx (.int y)) H' from funext fun N => by rw [← hσ (.int y)] <;> rfl]
    exact ⟨hw _, cf_turn hy hz (hs y (List.mem_of_getElem? hy)) p⟩) fun H' p => by
    obtain ⟨e, ex, ea⟩ := p
    rw [List.length_map, List.take_of_length_le (Nat.le_refl _)] at ea
    exact hd D H' ex e ea
theorem lc_fmL (f : Int → Bool) (g : Int → V) (hx : SqL K H a (ns.map V.int)) (hz : ns.length ≤ 40000) (hσ : ∀ x, (wipe σ vs).set j (some x) = σx x) (hw : ∀ x, wipe (σx x) vs = wipe σ vs)
    (hs : ∀ x ∈ ns, TurnF H tt te σx f g x)
    (hd : ∀ D H', Evl.Ex H H' → H D = none → H' D = some (.lst ((ns.filter f).map g)) → Q (.ref D) H') : LcR (gName j) tt te vs σ Q (Itl K a) H := fun D hn =>
  lc_list (xs := ns.map V.int) (Cf H ns f g D) ⟨hn, Evl.Ex.new hn, upd_same⟩ (fun i H' _ ⟨_, ex, _⟩ => Evl.ex_l ex hx) (fun i x H' hi p => by
    rw [List.getElem?_map] at hi
    obtain ⟨y, hy, rfl⟩ := Option.map_eq_some_iff.mp hi
    rw [show gName j (.int y) (wipe σ vs) H' = fun N => N (σx (.int y)) H' from funext fun N => by rw [← hσ (.int y)] <;> rfl]
    exact ⟨hw _, cf_turn hy hz (hs y (List.mem_of_getElem? hy)) p⟩) fun H' p => by
    obtain ⟨e, ex, ea⟩ := p
    rw [List.length_map, List.take_of_length_le (Nat.le_refl _)] at ea
    exact hd D H' ex e ea
theorem rd_maxL {m : List Int} (s : SqL K H a (m.map V.int)) (h0 : 0 < m.length) (h : ∀ x, x ∈ m → (∀ y, y ∈ m → y ≤ x) → Q (.int x) H) : rMax K [.ref a] H Q := ⟨a, m, rfl, s, h0, h⟩
end
theorem rd_iteC {p : Prop} {_ : Decidable p} {σ : L2.St} {H : Hp} {Q : VK} {u v x : V} (e1 : p → u = x) (e2 : ¬ p → v = x) (h : Q x H) : if decide p = true then tC u σ H Q else tC v σ H Q := by
  by_cases c : p
  · rw [if_pos (decide_eq_true c), e1 c]
    exact h
  · rw [if_neg (by rw [decide_eq_true_eq]; exact c), e2 c]
    exact h
theorem bor_l {a b : Bool} (h : a = true) : (a || b) = true := by rw [h, Bool.true_or]
theorem bor_r {a b : Bool} (h : b = true) : (a || b) = true := by rw [h, Bool.or_true]
theorem bor_f {a b : Bool} (h : a = false) (h2 : b = false) : (a || b) = false := by rw [h, h2, Bool.or_false]
/-- the sign of a literal's letter -/
def sgn (z : Str) (x : Int) : Nat := z.cps.toList.getD (x.natAbs - 1) 0
def heldBy (z h : Str) (x : Int) : Bool := decide (V.str ⟨#[sgn z x]⟩ = V.str h)
theorem at_sgn {n : Nat} {z : Str} {x : Int} (h : OwnS n z) (h1 : 1 ≤ x.natAbs) (h2 : x.natAbs ≤ n) : atI z.cps.toList ((x.natAbs : Int) - 1) = some (sgn z x) := by
  have e : (x.natAbs : Int) - 1 = ((x.natAbs - 1 : Nat) : Int) := by omega
  have hl : x.natAbs - 1 < z.cps.toList.length := by
    have : z.cps.toList.length = n := h.1
    omega
  rw [e]
  refine atI_nat ?_
  unfold sgn
  rw [List.getElem?_eq_getElem hl, List.getD_eq_getElem?_getD, List.getElem?_eq_getElem hl]
  rfl
end Ea
set_option Elab.async false
set_option linter.all false
set_option maxRecDepth 100000
set_option maxHeartbeats 4000000
/-! Loops over tuples; dicts of literals by their letters. -/
namespace Ea
open PySem PySem.Spec PyProof.Rows L2

/-! ### a for, by its iterator -/
def ForR (g : TG) (tb : TS) (D : Ends) (σ : L2.St) (J : It) (H1 : Hp) : Prop :=
  ∃ W : Nat → Nat → L2.St → Hp → Prop, (∃ m, W 0 m σ H1) ∧ ∀ i m σ H, W i m σ H →
    (J.stop i H ∧ D.nx σ H) ∨
    (J.go i H ∧ ∃ N : L2.St → Hp → Prop, (∀ σ' H', N σ' H' → ∃ m', m' < m ∧ W (i + 1) m' σ' H') ∧
      ∀ x H', J.yld i H x H' → g x σ H' fun σ2 H2 => tb { D with nx := N, ct := N, bk := D.nx } σ2 H2)
section
variable {K : PySem.W.Frag} {σ : L2.St} {H : Hp} {g : TG} {tb : TS} {D : Ends} {wi : TI} {a : Addr} {xs : List V} {j : Nat}
theorem rd_for (h : wi σ H (ForR g tb D σ)) : tFor wi g tb D σ H := h
theorem fr_tup (Pv : Nat → L2.St → Hp → Prop) (h0 : Pv 0 σ H) (hl : ∀ i σ H, i ≤ xs.length → Pv i σ H → SqT K H a xs)
    (hs : ∀ i x σ H, xs[i]? = some x → Pv i σ H → tb { D with nx := Pv (i + 1), ct := Pv (i + 1), bk := D.nx } (σ.set j (some x)) H) (hd : ∀ σ H, Pv xs.length σ H → D.nx σ H) :
    ForR (gName j) tb D σ (Itt K a) H := for_tup Pv h0 hl (fun i x σ H hi p => hs i x σ H hi p) hd
theorem fr_list (Pv : Nat → L2.St → Hp → Prop) (h0 : Pv 0 σ H) (hl : ∀ i σ H, i ≤ xs.length → Pv i σ H → SqL K H a xs)
    (hs : ∀ i x σ H, xs[i]? = some x → Pv i σ H → tb { D with nx := Pv (i + 1), ct := Pv (i + 1), bk := D.nx } (σ.set j (some x)) H) (hd : ∀ σ H, Pv xs.length σ H → D.nx σ H) :
    ForR (gName j) tb D σ (Itl K a) H := for_list Pv h0 hl (fun i x σ H hi p => hs i x σ H hi p) hd
theorem fr_range {lo : Int} {n : Nat} (Pv : Nat → L2.St → Hp → Prop) (h0 : Pv 0 σ H)
    (hs : ∀ i σ H, i < n → Pv i σ H → tb { D with nx := Pv (i + 1), ct := Pv (i + 1), bk := D.nx } (σ.set j (some (.int (lo + i)))) H) (hd : ∀ σ H, Pv n σ H → D.nx σ H) :
    ForR (gName j) tb D σ (Itr lo n) H := for_range Pv h0 (fun i σ H hi p => hs i σ H hi p) hd
end

theorem rd_dnew {σ : L2.St} {H : Hp} {Q : VK} (h : ∀ p, H p = none → Q (.ref p) (upd H p (.dK []))) : tDNewK σ H Q := h
theorem rd_gtup2 {K : PySem.W.Frag} {σ σ' : L2.St} {H : Hp} {p : Addr} {x y : V} {n i j : Nat} {N : L2.St → Hp → Prop} (s : SqT K H p [x, y]) (hn : n = 2) (hs : (σ.set i (some x)).set j (some y) = σ') (h : N σ' H) :
    gTup K n (gCons (gName i) (gCons (gName j) gNil)) (.ref p) σ H N := ⟨p, [x, y], rfl, s, hn.symm, x, [y], rfl, y, [], rfl, rfl, by subst hs; exact h⟩
/-! ### sorted of a dict by its keys -/
def rSortD : List V → Hp → VK → Prop := fun xs H Q => ∃ (a : Addr) (kvs : List (Key × V)) (ks : List Int), xs = [.ref a] ∧ Rd H a (.dK kvs) ∧ kvs.map (·.1) = ks.map Sum.inl ∧ ks.length < 64 ∧
  ∀ (ys : List Int) (p : Addr), ys.Perm ks → ys.Pairwise (· ≤ ·) → H p = none → Q (.ref p) (upd H p (.lst (ys.map V.int)))
theorem c_sortedD {X : Cx} (h : X.calm = true) : CallR X (.builtin "sorted") rSortD := call_sortedDI h
theorem rd_sortD {H : Hp} {Q : VK} {a : Addr} {kvs : List (Key × V)} {ks : List Int} (h : H a = some (.dK kvs)) (e : kvs.map (·.1) = ks.map Sum.inl) (hl : ks.length < 64)
    (q : ∀ (ys : List Int) (p : Addr), ys.Perm ks → ys.Pairwise (· ≤ ·) → H p = none → Q (.ref p) (upd H p (.lst (ys.map V.int)))) : rSortD [.ref a] H Q := ⟨a, kvs, ks, rfl, .inl h, e, hl, q⟩

/-! ### a dict of literals by letters -/
abbrev lk (x : Int) : Key := Sum.inl (x.natAbs : Int)
structure Dic (ws : List Int) (kvs : List (Key × V)) : Prop where
  ks : ∃ ks : List Int, kvs.map (·.1) = ks.map Sum.inl ∧ ks.Nodup ∧ ∀ k, k ∈ ks ↔ ∃ x ∈ ws, (x.natAbs : Int) = k
  val : ∀ k : Int, (∃ x ∈ ws, (x.natAbs : Int) = k) → ∃ x ∈ ws, (x.natAbs : Int) = k ∧ valV kvs (.inl k) = some (.int x)
  len : kvs.length ≤ ws.length
theorem Dic.nil : Dic [] [] := by
  refine ⟨⟨[], rfl, List.nodup_nil, fun k => ⟨fun h => (nomatch h), ?_⟩⟩, ?_, Nat.le_refl _⟩
  · rintro ⟨x, h, _⟩
    cases h
  · rintro k ⟨x, h, _⟩
    cases h
theorem keys_put {kvs : List (Key × V)} {k : Key} {v : V} : (putK kvs k v).map (·.1) = if (kvs.any fun kv => decide (kv.1 = k)) = true then kvs.map (·.1) else kvs.map (·.1) ++ [k] := by
  unfold putK
  split
  · rw [List.map_map]
    refine List.map_congr_left fun p _ => ?_
    show (if p.1 = k then (p.1, v) else p).1 = p.1
    split <;> rfl
  · rw [List.map_append]
    rfl
theorem any_key {kvs : List (Key × V)} {k : Key} : (kvs.any fun kv => decide (kv.1 = k)) = true ↔ k ∈ kvs.map (·.1) := by
  rw [List.any_eq_true, List.mem_map]
  constructor
  · rintro ⟨p, hp, e⟩
    exact ⟨p, hp, of_decide_eq_true e⟩
  · rintro ⟨p, hp, e⟩
    exact ⟨p, hp, decide_eq_true e⟩
theorem Dic.put {ws : List Int} {kvs : List (Key × V)} (h : Dic ws kvs) (x : Int) : Dic (ws ++ [x]) (putK kvs (lk x) (.int x)) := by
  obtain ⟨⟨ks, e, nd, hm⟩, hv, hl⟩ := h
  refine ⟨?_, fun k hk => ?_, ?_⟩
  · rw [keys_put]
    by_cases c : (kvs.any fun kv => decide (kv.1 = lk x)) = true
    · rw [if_pos c]
      have hx : (x.natAbs : Int) ∈ ks := by
        have z := any_key.mp c
        rw [e] at z
        obtain ⟨k, hk, e2⟩ := List.mem_map.mp z
        cases e2
        exact hk
      refine ⟨ks, e, nd, fun k => ⟨fun hk => ?_, fun ⟨y, hy, e2⟩ => ?_⟩⟩
      · obtain ⟨y, hy, e2⟩ := (hm k).mp hk
        exact ⟨y, List.mem_append_left _ hy, e2⟩
      · rcases List.mem_append.mp hy with hy | hy
        · exact (hm k).mpr ⟨y, hy, e2⟩
        · rw [List.mem_singleton.mp hy] at e2
          rw [← e2]
          exact hx
    · rw [if_neg c]
      have hx : (x.natAbs : Int) ∉ ks := fun hx => c (any_key.mpr (by rw [e]; exact List.mem_map_of_mem hx))
      refine ⟨ks ++ [(x.natAbs : Int)], by rw [e, List.map_append] <;> rfl, ?_, fun k => ⟨fun hk => ?_, fun ⟨y, hy, e2⟩ => ?_⟩⟩
      · rw [List.nodup_append]
        exact ⟨nd, by simp, fun a ha b hb => by rw [List.mem_singleton.mp hb]; exact fun q => hx (q ▸ ha)⟩
      · rcases List.mem_append.mp hk with hk | hk
        · obtain ⟨y, hy, e2⟩ := (hm k).mp hk
          exact ⟨y, List.mem_append_left _ hy, e2⟩
        · exact ⟨x, List.mem_append_right _ List.mem_cons_self, (List.mem_singleton.mp hk).symm⟩
      · rcases List.mem_append.mp hy with hy | hy
        · exact List.mem_append_left _ ((hm k).mpr ⟨y, hy, e2⟩)
        · rw [List.mem_singleton.mp hy] at e2
          exact List.mem_append_right _ (by rw [← e2]; exact List.mem_cons_self)
  · rw [valV_put]
    by_cases c : (Sum.inl k : Key) = lk x
    · rw [if_pos c]
      have c2 : k = (x.natAbs : Int) := Sum.inl.inj c
      exact ⟨x, List.mem_append_right _ List.mem_cons_self, c2.symm, rfl⟩
    · rw [if_neg c]
      obtain ⟨y, hy, e2⟩ := hk
      have hy' : y ∈ ws := by
        rcases List.mem_append.mp hy with hy | hy
        · exact hy
        · rw [List.mem_singleton.mp hy] at e2
          exact absurd (congrArg Sum.inl e2.symm) c
      obtain ⟨z, hz, e3, e4⟩ := hv k ⟨y, hy', e2⟩
      exact ⟨z, List.mem_append_left _ hz, e3, e4⟩
  · have h1 := congrArg List.length (keys_put (kvs := kvs) (k := lk x) (v := .int x))
    rw [List.length_map] at h1
    rw [h1, List.length_append, List.length_singleton]
    split
    · rw [List.length_map]
      omega
    · rw [List.length_append, List.length_map, List.length_singleton]
      omega
/-- the literal that a dict has for a letter -/
def litOf (kvs : List (Key × V)) (k : Int) : Int := match valV kvs (.inl k) with
  | some (.int x) => x
  | _ => 0
theorem Dic.lit {ws : List Int} {kvs : List (Key × V)} (h : Dic ws kvs) {k : Int} (hk : ∃ x ∈ ws, (x.natAbs : Int) = k) :
    valV kvs (.inl k) = some (.int (litOf kvs k)) ∧ litOf kvs k ∈ ws ∧ ((litOf kvs k).natAbs : Int) = k := by
  obtain ⟨x, hx, e, hv⟩ := h.val k hk
  have : litOf kvs k = x := by
    unfold litOf
    rw [hv]
  rw [this]
  exact ⟨hv, hx, e⟩
theorem Dic.join {n : Nat} {one other : List Int} {kvs : List (Key × V)} (h : Dic (one ++ other) kvs) (a : Row n one) (b : Row n other) {ys : List Int} (so : ys.Pairwise (· < ·))
    (hy : ∀ k, k ∈ ys ↔ (∃ x ∈ one ++ other, (x.natAbs : Int) = k) ∧ k ∉ against one other) : IsJoin one other (ys.map (litOf kvs)) := by
  have hl : ∀ k ∈ ys, litOf kvs k ∈ one ++ other ∧ ((litOf kvs k).natAbs : Int) = k := fun k hk => (h.lit ((hy k).mp hk).1).2
  refine ⟨?_, fun x => ⟨fun hx => ?_, fun ⟨hx, hn⟩ => ?_⟩⟩
  · rw [List.pairwise_map]
    refine List.Pairwise.imp_of_mem (fun {p q} hp hq hlt => ?_) so
    have h1 := (hl p hp).2
    have h2 := (hl q hq).2
    omega
  · obtain ⟨k, hk, rfl⟩ := List.mem_map.mp hx
    obtain ⟨h1, h2⟩ := hl k hk
    exact ⟨List.mem_append.mp h1, by rw [h2]; exact ((hy k).mp hk).2⟩
  · have hk : (x.natAbs : Int) ∈ ys := (hy _).mpr ⟨⟨x, List.mem_append.mpr hx, rfl⟩, hn⟩
    obtain ⟨h1, h2⟩ := hl _ hk
    refine List.mem_map.mpr ⟨_, hk, ?_⟩
    exact (same_of a b hx (List.mem_append.mp h1) (by omega) hn).symm
theorem valV_drop {kvs : List (Key × V)} {k j : Key} (h : j ≠ k) : valV (dropK kvs k) j = valV kvs j := by
  induction kvs with
  | nil => rfl
  | cons p r ih =>
    by_cases e : p.1 = k
    · rw [dropK_pos e, ih, valV_neg (fun z => h (z.symm.trans e))]
    · rw [dropK_neg e]
      by_cases e2 : p.1 = j
      · rw [valV_pos e2, valV_pos e2]
      · rw [valV_neg e2, valV_neg e2, ih]
theorem keys_drop {kvs : List (Key × V)} {ks : List Int} {c : Int} (h : kvs.map (·.1) = ks.map Sum.inl) : (dropK kvs (.inl c)).map (·.1) = (ks.filter fun k => decide (k ≠ c)).map Sum.inl := by
  induction kvs generalizing ks with
  | nil =>
    cases ks with
    | nil => rfl
    | cons k r => cases h
  | cons p r ih =>
    cases ks with
    | nil => cases h
    | cons k t =>
      have h1 : p.1 = Sum.inl k := (List.cons.inj h).1
      have h2 := ih (List.cons.inj h).2
      by_cases e : k = c
      · subst e
        rw [dropK_pos h1, h2]
        simp
      · have e1 : ¬ p.1 = Sum.inl c := fun z => e (Sum.inl.inj (h1.symm.trans z))
        rw [dropK_neg e1, List.map_cons, h2, h1]
        simp [e]
theorem dK_not {kvs : List (Key × V)} : ∀ zs : List V, HO.dK kvs ≠ .tup zs ∧ ∀ f, HO.dK kvs ≠ .frz f (.tup zs) := fun zs => ⟨fun h => (by cases h), fun f h => (by cases h)⟩
theorem lst_not {ys : List V} : ∀ zs : List V, HO.lst ys ≠ .tup zs ∧ ∀ f, HO.lst ys ≠ .frz f (.tup zs) := fun zs => ⟨fun h => (by cases h), fun f h => (by cases h)⟩
theorem tup_upd {K : PySem.W.Frag} {H : Hp} {p a : Addr} {o u : HO} {xs : List V} (h : H p = some o) (hn : ∀ zs, o ≠ .tup zs ∧ ∀ f, o ≠ .frz f (.tup zs)) (s : SqT K H a xs) : SqT K (upd H p u) a xs := by
  rcases s with (s | ⟨f, s⟩) | s
  · refine .inl (.inl ?_)
    rw [upd_ne (ne_of s h fun e => (hn xs).1 e.symm)]
    exact s
  · refine .inl (.inr ⟨f, ?_⟩)
    rw [upd_ne (ne_of s h fun e => (hn xs).2 f e.symm)]
    exact s
  · exact .inr s
theorem nodup_le : ∀ {n : Nat} {ks : List Int}, ks.Nodup → (∀ k ∈ ks, 1 ≤ k ∧ k ≤ (n : Int)) → ks.length ≤ n
  | 0, ks, _, hm => by
    cases ks with
    | nil => exact Nat.le_refl _
    | cons k r =>
      have := hm k List.mem_cons_self
      omega
  | n + 1, ks, h, hm => by
    have h1 : (ks.erase ((n + 1 : Nat) : Int)).length ≤ n := nodup_le (h.erase _) fun k hk => by
      obtain ⟨a, b⟩ := (List.Nodup.mem_erase_iff h).mp hk
      have := hm k b
      omega
    have h2 := List.length_erase (a := ((n + 1 : Nat) : Int)) (l := ks)
    split at h2 <;> omega
section
variable {X : Cx} {st : List Stmt} {t : TS} {p : Prop}
theorem pss_guard (h : p → PSs X st t) : PSs X st (fun D σ H => p ∧ t D σ H) := ⟨fun pins s σ H D I hq => (h hq.1).run pins s σ H D I hq.2⟩
end
end Ea
set_option Elab.async false
set_option linter.all false
set_option maxRecDepth 100000
set_option maxHeartbeats 400000
/-! Dict comprehensions of literals; own errors' facts; data that stays. -/
namespace Ea
open PySem PySem.Spec PyProof.Rows L2

def DcR (g : TG) (tt : TT) (tk tv : TE) (vs : List Nat) (σ : L2.St) (Q : VK) (J : It) (H1 : Hp) : Prop :=
  ∀ D, H1 D = none → ∃ W : Nat → Nat → Hp → Prop, (∃ m, W 0 m (upd H1 D (.dK []))) ∧ ∀ i m H, W i m H →
    (J.stop i H ∧ Q (.ref D) H) ∨
    (J.go i H ∧ ∃ Nx : Hp → Prop, (∀ H', Nx H' → ∃ m', m' < m ∧ W (i + 1) m' H') ∧
      ∀ x H', J.yld i H x H' → g x (wipe σ vs) H' fun σ2 H2 => wipe σ2 vs = wipe σ vs ∧ tt σ2 H2 fun b H3 =>
        if b = true then tk σ2 H3 fun y H4 => tv σ2 H4 fun z H5 => ∃ kvs k, y = kV k ∧ H5 D = some (.dK kvs) ∧ kvs.length < sizeLine ∧ Nx (upd H5 D (.dK (putK kvs k z))) else Nx H3)
section
variable {K : PySem.W.Frag} {σ : L2.St} {H : Hp} {Q : VK} {g : TG} {tt : TT} {tk tv : TE} {vs : List Nat} {wi : TI} {j : Nat} {σx : V → L2.St} {a : Addr} {ws : List Int}
theorem rd_dc (h : wi σ H (DcR g tt tk tv vs σ Q)) : tDc wi g tt tk tv vs σ H Q := h
theorem dc_dicT (hx : SqT K H a (ws.map V.int)) (hz : ws.length ≤ 1000) (hσ : ∀ x, (wipe σ vs).set j (some x) = σx x) (hw : ∀ x, wipe (σx x) vs = wipe σ vs)
    (hk : ∀ (x : Int) (H' : Hp) (R : VK), R (.int (x.natAbs : Int)) H' → tk (σx (.int x)) H' R) (hv : ∀ (x : Int) (H' : Hp) (R : VK), R (.int x) H' → tv (σx (.int x)) H' R)
    (hd : ∀ D kvs H', Evl.Ex H H' → H D = none → H' D = some (.dK kvs) → Dic ws kvs → Q (.ref D) H') : DcR (gName j) tYes tk tv vs σ Q (Itt K a) H := fun D hn =>
  dc_tup (xs := ws.map V.int) (fun i H' => Evl.Ex H H' ∧ ∃ kvs, H' D = some (.dK kvs) ∧ Dic (ws.take i) kvs) ⟨Evl.Ex.new hn, [], upd_same, Dic.nil⟩ (fun i H' _ p => Evl.ex_t p.1 hx) (fun i x H' hi p => by
    rw [List.getElem?_map] at hi
    obtain ⟨y, hy, rfl⟩ := Option.map_eq_some_iff.mp hi
    rw [show gName j (.int y) (wipe σ vs) H' = fun N => N (σx (.int y)) H' from funext fun N => by rw [← hσ (.int y)] <;> rfl]
    refine ⟨hw _, rd_yes (rd_true (hk y H' _ (hv y H' _ ?_)))⟩
    obtain ⟨ex, kvs, e, dd⟩ := p
    have hl := dd.len
    rw [List.length_take] at hl
    refine ⟨kvs, lk y, rfl, e, by rw [sizeLine_eq]; omega, Evl.Ex.mut ex hn, _, upd_same, ?_⟩
    rw [List.take_add_one, hy]
    exact dd.put y) fun H' p => by
    obtain ⟨ex, kvs, e, dd⟩ := p
    rw [List.length_map, List.take_of_length_le (Nat.le_refl _)] at dd
    exact hd D kvs H' ex hn e dd
end
theorem rd_ddel {td ty : TE} {D : Ends} {σ : L2.St} {H : Hp} (h : td σ H fun x H1 => ty σ H1 fun y H2 => ∃ a kvs k, x = .ref a ∧ H2 a = some (.dK kvs) ∧ y = kV k ∧ (valV kvs k).isSome = true ∧ D.nx σ (upd H2 a (.dK (dropK kvs k)))) : sDDel td ty D σ H := h
theorem rd_kw {m : Nat} {sp : Sp} {gV : List V → List V} {E : L2.St → XK} {tk : TA} {σ : L2.St} {H : Hp} {Q : VK} (h : tk σ H fun zs H2 => zs.length = m ∧ sp (gV zs) H2 Q (E σ)) : tKw m sp gV E tk σ H Q := h
theorem rd_callS {sp : Sp} {E : L2.St → XK} {t : TA} {σ : L2.St} {H : Hp} {Q : VK} (h : t σ H fun vs H1 => sp vs H1 Q (E σ)) : tCallS sp E t σ H Q := h
theorem rd_ite2 {b : Bool} {te1 te2 : TE} {σ : L2.St} {H : Hp} {Q : VK} (P : V → Hp → Prop) (h1 : ∀ Q : VK, (∀ v H', P v H' → Q v H') → te1 σ H Q) (h2 : ∀ Q : VK, (∀ v H', P v H' → Q v H') → te2 σ H Q)
    (h : ∀ v H', P v H' → Q v H') : if b = true then te1 σ H Q else te2 σ H Q := by
  cases b with
  | true => exact h1 Q h
  | false => exact h2 Q h
theorem nice_row {n : Nat} {ns : List Int} (h : Row n ns) (hn : n ≤ 60) : Nice 60 1 (.tuple (dI ns)) :=
  (Nice.tup (NiceAll.ints fun x hx => by
    have := h.2 x hx
    have : (10 : Nat) ^ 12 = 1000000000000 := by decide
    omega)).mono (by have := h.length; omega) (Nat.le_refl _)
theorem rel_rev : ∀ {zs : List V} {ws : List Value}, Vals zs ws → Vals zs.reverse ws.reverse
  | _, _, .nil => .nil
  | _, _, .cons h t => by
    rw [List.reverse_cons, List.reverse_cons]
    exact (rel_rev t).append (.cons h .nil)
/-- what stands behind a body of the text -/
theorem passAt0 {X : Cx} {σ : L2.St} {E : XK} : PassesAt CX0 X σ E := fun _ _ _ _ _ _ h => h.elim
/-- what stands of an own error class behind the top -/
structure ExcF (K : PySem.W.Frag) (mg : Str → Option Value) (x : Str) (C : Addr) : Prop where
  g : mg x = some (.ref C)
  x : PySem.W.excIn K C [.type "ValueError", .type "Exception", .type "BaseException", .type "object"] "ValueError.__new__" = true
  k : PySem.W.keepIn K (.ref C) = true
  b : PySem.W.subIn K (.ref C) (.type "BaseException") = some true
  t : PySem.W.typeIn K (.ref C) = some (.type "type")
mutual
theorem dp_ex {K : PySem.W.Frag} {H H' : Hp} (e : Evl.Ex H H') : ∀ (d : PyData) (v : V), Dp K H v d → Dp K H' v d
  | .none, _, h => by cases h; exact .non
  | .bool b, _, h => by cases h; exact .bl b
  | .int i, _, h => by cases h; exact .int i
  | .str x, _, h => by cases h; exact .str x
  | .list ds, _, h => by
    cases h with
    | lst hs ha => exact .lst (Evl.ex_l e hs) (dpAll_ex e ds _ ha)
  | .tuple ds, _, h => by
    cases h with
    | tup hs ha => exact .tup (Evl.ex_t e hs) (dpAll_ex e ds _ ha)
  | .dict _, _, h => by cases h
theorem dpAll_ex {K : PySem.W.Frag} {H H' : Hp} (e : Evl.Ex H H') : ∀ (ds : List PyData) (vs : List V), DpAll K H vs ds → DpAll K H' vs ds
  | [], _, h => by cases h; exact .nil
  | d :: ds, _, h => by
    cases h with
    | cons h1 h2 => exact .cons (dp_ex e d _ h1) (dpAll_ex e ds _ h2)
end
end Ea
set_option Elab.async false
set_option linter.all false
set_option maxRecDepth 100000
set_option maxHeartbeats 400000
/-! sorted of a tuple of ints. -/
namespace Ea
open PySem PySem.Spec PyProof.Rows L2
def rSortedT (K : PySem.W.Frag) : List V → Hp → VK → Prop := fun xs H Q => ∃ (a : Addr) (ns : List Int), xs = [.ref a] ∧ SqT K H a (ns.map V.int) ∧ ns.length < 64 ∧
  ∀ (ys : List Int) (p : Addr), ys.Perm ns → ys.Pairwise (· ≤ ·) → H p = none → Q (.ref p) (upd H p (.lst (ys.map V.int)))
theorem cr_sortedT {X : Cx} {K : PySem.W.Frag} (hK : X.K = K) : CallR X (.builtin "sorted") (rSortedT K) := by
  subst hK
  intro pins s σ H xs us Q I r q
  obtain ⟨a, ns, ex, hd, h64, q⟩ := q
  subst ex
  obtain ⟨u, eu, rx⟩ := vals1 r
  subst eu
  cases rx
  obtain ⟨its, rv, ⟨o, ho, hc, n, hds⟩, hz⟩ := I.tuple hd
  have hal : its.length = ns.length := by rw [← rv.length, List.length_map]
  have hS : IntsAre its ns := rv.ints
  refine Calls.call_function_entry PyProof.Rows.kind_sorted PyProof.Rows.plain_sorted PyProof.Rows.entry_sorted (PyProof.Rows.args_sorted1 _) ?_
  unfold Builtin.«sorted»
  refine wpAny_bind (m := checkCount "sorted" 1 1 _) (wpAny_pure ?_)
  refine wpAny_bind (wpAny_collect_seq a (.inr rfl) ho hc hds (fun h' hk => ?_) (by rw [List.size_toArray, hal, sizeLine_eq]; omega))
  have I1 : Inv X pins σ H { s with heap := h' } := I.kept hk
  refine wpAny_bind (wpAny_newList ?_ (by rw [List.toList_toArray, hal, sizeLine_eq]; omega))
  have hoL : (h'.push (seqObj "list" its.toArray.toList.toArray 0)).get? h'.objs.size = some (seqObj "list" its.toArray.toList.toArray 0) := Heap.get?_push_size _ rfl
  show wpAny _ _ _ _ _ { s with heap := h'.push (seqObj "list" its.toArray.toList.toArray 0) }
  refine wpAny_bind (wpAny_holding (wpAny_call_entry PyProof.Rows.slot_list_sort ⟨_, hoL, rfl⟩ PyProof.Rows.entry_list_sort
    (PyProof.Rows.list_sort_tree (s := { s with heap := h'.push (seqObj "list" its.toArray.toList.toArray 0) }) hoL (by rw [List.toList_toArray]; exact hS) (by rw [List.toList_toArray, hal]; exact h64) fun out ys g1 g2 g3 => ⟨_, rfl, ?_⟩) (PyProof.Rows.args_list_sort _)))
  obtain ⟨e', he'⟩ := PyProof.Rows.sortedHeap_at (vs := its.toArray.toList) (out := out) hoL
  have hlen : (ys.map V.int).length ≤ sizeLine := by
    rw [List.length_map, g2.length_eq]
    exact Nat.le_trans (Nat.le_of_lt h64) (by decide)
  refine wpAny_pure ⟨_, rfl, .ref h'.objs.size, upd H h'.objs.size (.lst (ys.map V.int)), I1.laid (t' := s.toks) (fun b u e => ?_) (Nat.le_refl _)
    (show ObjOk X.prog X.w _ _ _ (.lst (ys.map V.int)) from ⟨hlen, out.toList, e', vals_of_ints g1, by rw [Array.toArray_toList]; exact he'⟩), rfl, q ys _ g2 g3 (I1.hok.fresh (Nat.le_refl _))⟩
  have hb : b < h'.objs.size := Heap.lt_size e
  rw [PyProof.Rows.sortedHeap_old (Nat.ne_of_lt hb) (by rw [size_push']; exact Nat.lt_succ_of_lt hb)]
  exact Heap.get?_push_of_some _ e
theorem rd_sortT {K : PySem.W.Frag} {H : Hp} {Q : VK} {a : Addr} {ns : List Int} (s : SqT K H a (ns.map V.int)) (hz : ns.length < 64)
    (h : ∀ (ms : List Int) (q : Addr), ms.Perm ns → ms.Pairwise (· ≤ ·) → H q = none → Q (.ref q) (upd H q (.lst (ms.map V.int)))) : rSortedT K [.ref a] H Q :=
  ⟨a, ns, rfl, s, hz, h⟩
/-- sorted of what ascends -/
theorem sorted_same {ms ns : List Int} (p : ms.Perm ns) (s : ms.Pairwise (· ≤ ·)) (h : ns.Pairwise (· < ·)) : ms = ns := by
  refine List.Perm.eq_of_pairwise (fun a b _ _ h1 h2 => by omega) s (h.imp fun {a b} q => by omega) p
theorem rd_ite2p {p : Prop} {_ : Decidable p} {te1 te2 : TE} {σ : L2.St} {H : Hp} {Q : VK} (P : V → Hp → Prop) (h1 : p → ∀ Q : VK, (∀ v H', P v H' → Q v H') → te1 σ H Q) (h2 : ¬ p → ∀ Q : VK, (∀ v H', P v H' → Q v H') → te2 σ H Q)
    (h : ∀ v H', P v H' → Q v H') : if decide p = true then te1 σ H Q else te2 σ H Q := by
  by_cases c : p
  · rw [if_pos (decide_eq_true c)]
    exact h1 c Q h
  · rw [if_neg (by rw [decide_eq_true_eq]; exact c)]
    exact h2 c Q h
theorem rd_mulL {H : Hp} {Q : VK} {l : Addr} {k : Int} {xs : List V} (h : H l = some (.lst xs)) (h1 : 0 ≤ k ∧ k < 2 ^ 63) (hz : xs.length * k.toNat ≤ sizeLine) (q : ∀ p, H p = none → Q (.ref p) (upd H p (.lst (List.replicate k.toNat xs).flatten))) : rRep (.ref l) (.int k) H Q :=
  ⟨l, k, xs, rfl, rfl, h, by omega, h1.2, hz, q⟩
theorem rd_andV {ta tb : TE} {σ : L2.St} {H : Hp} {Q : VK} (h : ta σ H fun x H1 => ∃ c, x = .bl c ∧ if c = true then tb σ H1 Q else Q (.bl false) H1) : tAndV ta tb σ H Q := h
theorem rd_orV {ta tb : TE} {σ : L2.St} {H : Hp} {Q : VK} (h : ta σ H fun x H1 => ∃ c, x = .bl c ∧ if c = true then Q (.bl true) H1 else tb σ H1 Q) : tOrV ta tb σ H Q := h
theorem rd_notV {ta : TE} {σ : L2.St} {H : Hp} {Q : VK} (h : ta σ H fun x H1 => ∃ c, x = .bl c ∧ Q (.bl (!c)) H1) : tNotV ta σ H Q := h
theorem rd_bc {b : Bool} {P : Bool → Prop} (h : P b) : ∃ c, V.bl b = V.bl c ∧ P c := ⟨b, rfl, h⟩
/-- if, its ends brought together -/
theorem rd_meet {p : Prop} {_ : Decidable p} {t1 t2 : TS} {D : Ends} {σ : L2.St} {H : Hp} (I : L2.St → Hp → Prop) (h1 : p → ∀ N : L2.St → Hp → Prop, (∀ σ' H', I σ' H' → N σ' H') → t1 { D with nx := N } σ H)
    (h2 : ¬ p → ∀ N : L2.St → Hp → Prop, (∀ σ' H', I σ' H' → N σ' H') → t2 { D with nx := N } σ H) (h : ∀ σ' H', I σ' H' → D.nx σ' H') : if decide p = true then t1 D σ H else t2 D σ H := by
  by_cases c : p
  · rw [if_pos (decide_eq_true c)]
    exact h1 c D.nx h
  · rw [if_neg (by rw [decide_eq_true_eq]; exact c)]
    exact h2 c D.nx h
end Ea
set_option Elab.async false
set_option linter.all false
set_option maxRecDepth 100000
set_option maxHeartbeats 400000
/-! A deck of draws that is a list: what draws leave as it was; comprehensions among them. -/
namespace Ea
open PySem PySem.Spec PyProof.Rows L2
/-- a deck: a list of what is left to be drawn, a number, how often it was drawn from that -/
def DeckL (d l : Addr) (H : Hp) : Prop := ∃ (ns : List Int) (m c : Int),
  H d = some (.lst [.ref l, .int m, .int c]) ∧ H l = some (.lst (ns.map V.int)) ∧ ns.length ≤ 63 ∧ (∀ n ∈ ns, 0 ≤ n) ∧ 0 ≤ m ∧ m < 4294967291
theorem deck_ne {l : Addr} {m c : Int} {ns : List Int} {d : Addr} {H : Hp} (e1 : H d = some (.lst [.ref l, .int m, .int c])) (e2 : H l = some (.lst (ns.map V.int))) : d ≠ l := by
  intro e
  rw [e, e2] at e1
  cases ns with
  | nil => cases e1
  | cons x r => cases e1
structure Gl (d l : Addr) (H H' : Hp) : Prop where
  dk : DeckL d l H'
  kp : ∀ a o, a ≠ d → a ≠ l → H a = some o → H' a = some o
section
variable {d l : Addr} {H H1 H2 : Hp}
theorem DeckL.ne (h : DeckL d l H) : d ≠ l := by
  obtain ⟨ns, m, c, e1, e2, _⟩ := h
  exact deck_ne e1 e2
theorem Gl.refl (h : DeckL d l H) : Gl d l H H := ⟨h, fun _ _ _ _ e => e⟩
theorem Gl.trans (a : Gl d l H H1) (b : Gl d l H1 H2) : Gl d l H H2 := ⟨b.dk, fun p o n1 n2 e => b.kp p o n1 n2 (a.kp p o n1 n2 e)⟩
theorem DeckL.off (h : DeckL d l H) {p : Addr} (e : H p = none) : p ≠ d ∧ p ≠ l := by
  obtain ⟨ns, m, c, e1, e2, _⟩ := h
  exact ⟨fun z => (by rw [z, e1] at e; cases e), fun z => (by rw [z, e2] at e; cases e)⟩
theorem DeckL.upd (h : DeckL d l H) {p : Addr} {o : HO} (n1 : p ≠ d) (n2 : p ≠ l) : DeckL d l (upd H p o) := by
  obtain ⟨ns, m, c, e1, e2, r⟩ := h
  exact ⟨ns, m, c, by rw [upd_ne n1.symm]; exact e1, by rw [upd_ne n2.symm]; exact e2, r⟩
theorem Gl.new (h : DeckL d l H) {p : Addr} {o : HO} (e : H p = none) : Gl d l H (upd H p o) := by
  obtain ⟨n1, n2⟩ := h.off e
  exact ⟨h.upd n1 n2, fun q u _ _ eq => by rw [upd_ne (ne_of_none eq e)]; exact eq⟩
/-- an object that H does not know may change -/
theorem Gl.mut (g : Gl d l H H1) (h : DeckL d l H) {p : Addr} {o : HO} (e : H p = none) : Gl d l H (upd H1 p o) := by
  obtain ⟨n1, n2⟩ := h.off e
  exact ⟨g.dk.upd n1 n2, fun q u m1 m2 eq => by rw [upd_ne (ne_of_none eq e)]; exact g.kp q u m1 m2 eq⟩
theorem Gl.back (g : Gl d l H H1) (h : DeckL d l H) {p : Addr} (e : H1 p = none) : H p = none := by
  obtain ⟨n1, n2⟩ := g.dk.off e
  cases q : H p with
  | none => rfl
  | some o =>
    rw [g.kp p o n1 n2 q] at e
    cases e
/-- a tuple stays -/
theorem Gl.tup {K : PySem.W.Frag} (g : Gl d l H H1) (h : DeckL d l H) {a : Addr} {xs : List V} (t : SqT K H a xs) : SqT K H1 a xs := by
  obtain ⟨ns, m, c, e1, e2, _⟩ := h
  have hn : ∀ {o : HO}, H a = some o → (∀ kv, o ≠ .dK kv) → (∀ ys, o ≠ .lst ys) → H1 a = some o := fun e c1 c2 =>
    g.kp a _ (fun z => (by rw [z, e1] at e; cases e; exact c2 _ rfl)) (fun z => (by rw [z, e2] at e; cases e; exact c2 _ rfl)) e
  rcases t with (t | ⟨o, t⟩) | t
  · exact .inl (.inl (hn t nofun nofun))
  · exact .inl (.inr ⟨o, hn t nofun nofun⟩)
  · exact .inr t
end
section
variable {d l : Addr} {K : PySem.W.Frag} {σ : L2.St} {H : Hp} {Q : VK} {tt : TT} {te : TE} {vs : List Nat} {j : Nat} {σx : V → L2.St} {a : Addr} {xs : List V}
/-- a turn of a comprehension among draws -/
abbrev TurnL (d l : Addr) (H : Hp) (tt : TT) (te : TE) (σx : V → L2.St) (Pv : Nat → List V → Prop) (i : Nat) (x : V) : Prop :=
  ∀ (acc : List V) (H' : Hp) (N : VK) (S : Hp → Prop), Gl d l H H' → Pv i acc →
    (∀ y H3, Gl d l H' H3 → Pv (i + 1) (acc ++ [y]) → N y H3) → (∀ H3, Gl d l H' H3 → Pv (i + 1) acc → S H3) →
    tt (σx x) H' fun b H2 => if b = true then te (σx x) H2 N else S H2
def Cl (d l : Addr) (H : Hp) (Pv : Nat → List V → Prop) (D : Addr) (i : Nat) (H' : Hp) : Prop :=
  ∃ acc, H D = none ∧ Gl d l H H' ∧ H' D = some (.lst acc) ∧ acc.length ≤ i ∧ Pv i acc
theorem cl_start {Pv : Nat → List V → Prop} (hD : DeckL d l H) (h0 : Pv 0 []) {D : Addr} (e : H D = none) : Cl d l H Pv D 0 (upd H D (.lst [])) :=
  ⟨[], e, Gl.new hD e, upd_same, Nat.le_refl _, h0⟩
theorem cl_turn {Pv : Nat → List V → Prop} {D : Addr} {i : Nat} {x : V} {H' : Hp} (hD : DeckL d l H) (hi : i < 100000) (ht : TurnL d l H tt te σx Pv i x) (p : Cl d l H Pv D i H') :
    tt (σx x) H' fun b H3 => if b = true then te (σx x) H3 fun y H4 => ∃ acc, H4 D = some (.lst acc) ∧ acc.length < sizeLine ∧ Cl d l H Pv D (i + 1) (upd H4 D (.lst (acc ++ [y]))) else Cl d l H Pv D (i + 1) H3 := by
  obtain ⟨acc, e, g, ea, hl, hp⟩ := p
  obtain ⟨n1, n2⟩ := hD.off e
  refine ht acc H' _ _ g hp (fun y H3 g3 hp3 => ?_) fun H3 g3 hp3 => ?_
  · refine ⟨acc, g3.kp D _ n1 n2 ea, Evl.sz_lt (by omega), acc ++ [y], e, Gl.mut (g.trans g3) hD e, upd_same, ?_, hp3⟩
    rw [List.length_append, List.length_singleton]
    omega
  · exact ⟨acc, e, g.trans g3, g3.kp D _ n1 n2 ea, by omega, hp3⟩
theorem lc_glT (Pv : Nat → List V → Prop) (hD : DeckL d l H) (hx : SqT K H a xs) (hz : xs.length ≤ 40000) (hσ : ∀ x, (wipe σ vs).set j (some x) = σx x) (hw : ∀ x, wipe (σx x) vs = wipe σ vs)
    (h0 : Pv 0 []) (hs : ∀ i x, xs[i]? = some x → TurnL d l H tt te σx Pv i x)
    (hd : ∀ D acc H', Gl d l H H' → H D = none → H' D = some (.lst acc) → Pv xs.length acc → Q (.ref D) H') : LcR (gName j) tt te vs σ Q (Itt K a) H := fun D hn =>
  lc_tup (xs := xs) (Cl d l H Pv D) (cl_start hD h0 hn) (fun i H' _ ⟨_, _, g, _⟩ => g.tup hD hx) (fun i x H' hi p => by
    rw [show gName j x (wipe σ vs) H' = fun N => N (σx x) H' from funext fun N => by rw [← hσ x] <;> rfl]
    refine ⟨hw x, ?_⟩
    have := (List.getElem?_eq_some_iff.mp hi).1
    exact cl_turn hD (by omega) (hs i x hi) p) fun H' p => by
    obtain ⟨acc, e, g, ea, _, hp⟩ := p
    exact hd D acc H' g e ea hp
theorem lc_glL (Pv : Nat → List V → Prop) (hD : DeckL d l H) (hx : ∀ H', Gl d l H H' → SqL K H' a xs) (hz : xs.length ≤ 40000) (hσ : ∀ x, (wipe σ vs).set j (some x) = σx x) (hw : ∀ x, wipe (σx x) vs = wipe σ vs)
    (h0 : Pv 0 []) (hs : ∀ i x, xs[i]? = some x → TurnL d l H tt te σx Pv i x)
    (hd : ∀ D acc H', Gl d l H H' → H D = none → H' D = some (.lst acc) → Pv xs.length acc → Q (.ref D) H') : LcR (gName j) tt te vs σ Q (Itl K a) H := fun D hn =>
  lc_list (xs := xs) (Cl d l H Pv D) (cl_start hD h0 hn) (fun i H' _ ⟨_, _, g, _⟩ => hx H' g) (fun i x H' hi p => by
    rw [show gName j x (wipe σ vs) H' = fun N => N (σx x) H' from funext fun N => by rw [← hσ x] <;> rfl]
    refine ⟨hw x, ?_⟩
    have := (List.getElem?_eq_some_iff.mp hi).1
    exact cl_turn hD (by omega) (hs i x hi) p) fun H' p => by
    obtain ⟨acc, e, g, ea, _, hp⟩ := p
    exact hd D acc H' g e ea hp
theorem lc_glR {lo : Int} {n : Nat} (Pv : Nat → List V → Prop) (hD : DeckL d l H) (hz : n ≤ 40000) (hσ : ∀ x, (wipe σ vs).set j (some x) = σx x) (hw : ∀ x, wipe (σx x) vs = wipe σ vs)
    (h0 : Pv 0 []) (hs : ∀ i, i < n → TurnL d l H tt te σx Pv i (.int (lo + i)))
    (hd : ∀ D acc H', Gl d l H H' → H D = none → H' D = some (.lst acc) → Pv n acc → Q (.ref D) H') : LcR (gName j) tt te vs σ Q (Itr lo n) H := fun D hn =>
  lc_range (Cl d l H Pv D) (cl_start hD h0 hn) (fun i H' hi p => by
    rw [show gName j (.int (lo + i)) (wipe σ vs) H' = fun N => N (σx (.int (lo + i))) H' from funext fun N => by rw [← hσ (.int (lo + i))] <;> rfl]
    exact ⟨hw _, cl_turn hD (by omega) (hs i hi) p⟩) fun H' p => by
    obtain ⟨acc, e, g, ea, _, hp⟩ := p
    exact hd D acc H' g e ea hp
end

section
variable {d l : Addr} {H H' : Hp}
theorem Gl.ex (e : Evl.Ex H H') (h : DeckL d l H) : Gl d l H H' := by
  obtain ⟨ns, m, c, e1, e2, r⟩ := h
  exact ⟨⟨ns, m, c, e _ _ e1, e _ _ e2, r⟩, fun a o _ _ q => e a o q⟩
end
theorem rd_gsub {to ti : TE} {t : TSet} {v : V} {σ : L2.St} {H : Hp} {N : L2.St → Hp → Prop} (h : to σ H fun o H1 => ti σ H1 fun i H2 => t o i v H2 fun H3 => N σ H3) : gSub to ti t v σ H N := h
end Ea
set_option Elab.async false
set_option linter.all false
set_option maxRecDepth 100000
set_option maxHeartbeats 400000
namespace KA
open PySem PySem.Spec PyProof.Rows L2 Ea
def topS (i : Nat) : Stmt := PySem.Challenge.pw_eachsome_k69_whole_lowered_formulas.main.body.getD i (.Pass ⟨0, 0, 0, 0⟩)
/-- the names of the built-ins that the text does not bind -/
structure Bl (mg : Str → Option Value) : Prop where
  len : mg "len" = none
  abs : mg "abs" = none
  min : mg "min" = none
  max : mg "max" = none
  sorted : mg "sorted" = none
  tuple : mg "tuple" = none
  list : mg "list" = none
  set : mg "set" = none
  int : mg "int" = none
  range : mg "range" = none
  repr : mg "repr" = none
  isinstance : mg "isinstance" = none
  enumerate : mg "enumerate" = none
  zip : mg "zip" = none
  sum : mg "sum" = none
  all : mg "all" = none
  any : mg "any" = none
  str : mg "str" = none
  bool : mg "bool" = none
/-- how a def stands among the module's names -/
structure Callee (K : PySem.W.Frag) (mg : Str → Option Value) (x : Str) (f : Addr) (fd : FuncData) (ps : List Str) : Prop where
  m : mg x = some (.ref f)
  k : PySem.W.keepIn K (.ref f) = true
  b : Binds K fd ps []
/-! ### a deck that is a dict of three: what is left, a number, how often it was drawn from -/
abbrev dk3 (l : Addr) (s c : Int) : HO := .dK [(.inr "great", .ref l), (.inr "seed", .int s), (.inr "turn", .int c)]
def DeckT (d l : Addr) (H : Hp) : Prop := ∃ (ns : List Int) (s c : Int), H d = some (dk3 l s c) ∧ H l = some (.lst (ns.map V.int)) ∧ ns.length ≤ 63 ∧ (∀ n ∈ ns, 0 ≤ n)
structure Gt (d l : Addr) (H H' : Hp) : Prop where
  dk : DeckT d l H'
  kp : ∀ a o, a ≠ d → a ≠ l → H a = some o → H' a = some o
section
variable {d l : Addr} {H H1 H2 : Hp}
theorem DeckT.ne (h : DeckT d l H) : d ≠ l := by
  obtain ⟨ns, s, c, e1, e2, _⟩ := h
  intro e
  rw [e, e2] at e1
  cases e1
theorem Gt.refl (h : DeckT d l H) : Gt d l H H := ⟨h, fun _ _ _ _ e => e⟩
theorem Gt.trans (a : Gt d l H H1) (b : Gt d l H1 H2) : Gt d l H H2 := ⟨b.dk, fun p o n1 n2 e => b.kp p o n1 n2 (a.kp p o n1 n2 e)⟩
theorem DeckT.off (h : DeckT d l H) {p : Addr} (e : H p = none) : p ≠ d ∧ p ≠ l := by
  obtain ⟨ns, m, c, e1, e2, _⟩ := h
  exact ⟨fun z => (by rw [z, e1] at e; cases e), fun z => (by rw [z, e2] at e; cases e)⟩
theorem DeckT.upd (h : DeckT d l H) {p : Addr} {o : HO} (n1 : p ≠ d) (n2 : p ≠ l) : DeckT d l (upd H p o) := by
  obtain ⟨ns, m, c, e1, e2, r⟩ := h
  exact ⟨ns, m, c, by rw [upd_ne n1.symm]; exact e1, by rw [upd_ne n2.symm]; exact e2, r⟩
theorem Gt.new (h : DeckT d l H) {p : Addr} {o : HO} (e : H p = none) : Gt d l H (upd H p o) := by
  obtain ⟨n1, n2⟩ := h.off e
  exact ⟨h.upd n1 n2, fun q u _ _ eq => by rw [upd_ne (ne_of_none eq e)]; exact eq⟩
theorem Gt.mut (g : Gt d l H H1) (h : DeckT d l H) {p : Addr} {o : HO} (e : H p = none) : Gt d l H (upd H1 p o) := by
  obtain ⟨n1, n2⟩ := h.off e
  exact ⟨g.dk.upd n1 n2, fun q u m1 m2 eq => by rw [upd_ne (ne_of_none eq e)]; exact g.kp q u m1 m2 eq⟩
theorem Gt.tup {K : PySem.W.Frag} (g : Gt d l H H1) (h : DeckT d l H) {a : Addr} {xs : List V} (t : SqT K H a xs) : SqT K H1 a xs := by
  obtain ⟨ns, m, c, e1, e2, _⟩ := h
  have hn : ∀ {o : HO}, H a = some o → (∀ kv, o ≠ .dK kv) → (∀ ys, o ≠ .lst ys) → H1 a = some o := fun e c1 c2 =>
    g.kp a _ (fun z => (by rw [z, e1] at e; cases e; exact c1 _ rfl)) (fun z => (by rw [z, e2] at e; cases e; exact c2 _ rfl)) e
  rcases t with (t | ⟨o, t⟩) | t
  · exact .inl (.inl (hn t nofun nofun))
  · exact .inl (.inr ⟨o, hn t nofun nofun⟩)
  · exact .inr t
theorem Gt.ex (e : Evl.Ex H H1) (h : DeckT d l H) : Gt d l H H1 := by
  obtain ⟨ns, m, c, e1, e2, r⟩ := h
  exact ⟨⟨ns, m, c, e _ _ e1, e _ _ e2, r⟩, fun a o _ _ q => e a o q⟩
theorem dk3_great {l : Addr} {s c : Int} (h : H d = some (dk3 l s c)) : DGet H d (.str "great") (some (.ref l)) := DGet.k (k := Sum.inr "great") h
theorem dk3_seed {l : Addr} {s c : Int} (h : H d = some (dk3 l s c)) : DGet H d (.str "seed") (some (.int s)) := DGet.k (k := Sum.inr "seed") h
theorem dk3_turn {l : Addr} {s c : Int} (h : H d = some (dk3 l s c)) : DGet H d (.str "turn") (some (.int c)) := DGet.k (k := Sum.inr "turn") h
theorem dk3_putG {l m : Addr} {s c : Int} (h : H d = some (dk3 l s c)) : DPut H d (.str "great") (.ref m) (upd H d (dk3 m s c)) := DPut.k (k := Sum.inr "great") (v := .ref m) h (by show 3 < sizeLine; rw [sizeLine_eq]; omega)
theorem dk3_putS {l : Addr} {s c t : Int} (h : H d = some (dk3 l s c)) : DPut H d (.str "seed") (.int t) (upd H d (dk3 l t c)) := DPut.k (k := Sum.inr "seed") (v := .int t) h (by show 3 < sizeLine; rw [sizeLine_eq]; omega)
theorem dk3_putT {l : Addr} {s c t : Int} (h : H d = some (dk3 l s c)) : DPut H d (.str "turn") (.int t) (upd H d (dk3 l s t)) := DPut.k (k := Sum.inr "turn") (v := .int t) h (by show 3 < sizeLine; rw [sizeLine_eq]; omega)
end
end KA
set_option Elab.async false
set_option linter.all false
set_option maxRecDepth 100000
set_option maxHeartbeats 1000000
/-! enumerate of a tuple; zip of a tuple and a list. -/
namespace Ea
open PySem PySem.Spec PyProof.Rows L2
/-- enumerate(v), v told by how its iterator begins -/
theorem meets_enum1 {v : Value} {o : Obj} {Hh : Heap → Prop} (B : Begins v o Hh) :
    Meets (Builtin.«enumerate.__new__» ⟨[.type "enumerate", v], []⟩) (fun _ R s => Hh s.heap ∧
      R (.ok (.ret (.ref (s.heap.push o).objs.size))) { s with heap := (s.heap.push o).push { cls := .type "enumerate", data := .fields #[.none, .bool false, .ref s.heap.objs.size, rawInt 0, .none, .none] } }) :=
  .of_wp fun prog w A R s h => by
    obtain ⟨hp, g, d, tk, os⟩ := s
    obtain ⟨h1, h⟩ := h
    have hsub := sub_enumerate
    have q1 : ∀ {A' : Around} {E : Value → Shared → Prop} {Q : Value → Shared → Prop}, Q (.ref hp.objs.size) ⟨hp.push o, g, d, tk, os⟩ → wpAny (model prog w) A' (pyIter v) Q E ⟨hp, g, d, tk, os⟩ :=
      fun q => B.iter prog w _ _ ⟨hp, g, d, tk, os⟩ _ h1 q
    wp_walk using q1
    refine wpAny_stack_any fun st => wpAny_pure ?_
    split
    · rename_i c _ _ _ _ _
      cases (c == Value.type "enumerate") <;> (wp_walk using q1; exact ⟨_, rfl, h⟩)
    · wp_walk using q1
      exact ⟨_, rfl, h⟩
theorem call_enum1 {prog : Program} {w : World} {A : Around} {E : Value → Shared → Prop} {s : Shared} {v : Value} {o : Obj} {Hh : Heap → Prop} {Q : Value → Shared → Prop} (B : Begins v o Hh) (h1 : Hh s.heap)
    (h : ∀ h', IsEnum h' (s.heap.objs.size + 1) s.heap.objs.size 0 .none → h'.get? s.heap.objs.size = some o → (∀ b o, s.heap.get? b = some o → h'.get? b = some o) → Q (.ref (s.heap.objs.size + 1)) { s with heap := h' }) :
    wpAny (model prog w) A (call (.type "enumerate") [v]) Q E s := by
  refine callType_new F.called_enumerate (by decide) (F.typeCall_enumerate_1 _) (F.newCall_enumerate_1 _) (fun obj => F.args_object_init_2 obj _) F.entry_enumerate_new (meets_enum1 B) ⟨h1, ?_⟩
  have hz : (s.heap.push o).objs.size = s.heap.objs.size + 1 := Heap.size_push ..
  show _ ∧ _
  rw [hz]
  have he : IsEnum ((s.heap.push o).push { cls := .type "enumerate", data := .fields #[.none, .bool false, .ref s.heap.objs.size, rawInt 0, .none, .none] }) (s.heap.objs.size + 1) s.heap.objs.size 0 .none := by
    have z := Heap.get?_push_size (s.heap.push o) (o := { cls := .type "enumerate", data := .fields #[.none, .bool false, .ref s.heap.objs.size, rawInt 0, .none, .none] }) rfl
    rw [hz] at z
    exact z
  exact ⟨⟨_, he, rfl⟩, h _ he (Heap.get?_push_of_some _ (Heap.get?_push_size _ B.free)) fun b o x => Heap.get?_push_of_some _ (Heap.get?_push_of_some _ x)⟩
/-- the tuple at a, each item in a new pair -/
def IteT (K : PySem.W.Frag) (a : Addr) : It :=
  ⟨fun i H => ∃ (xs : List V) (x : V), SqT K H a xs ∧ xs[i]? = some x, fun i H v H' => ∃ T x, v = .ref T ∧ H T = none ∧ H' = upd H T (.tup [.int (i : Nat), x]) ∧ ∀ xs, SqT K H a xs → xs[i]? = some x, fun i H => ∃ xs : List V, SqT K H a xs ∧ xs.length = i⟩
theorem apart {h : Heap} {a b : Addr} {o u : Obj} (e1 : h.get? a = some o) (e2 : h.get? b = some u) (hc : o.cls ≠ u.cls) : a ≠ b := fun e => by
  rw [e, e2] at e1
  cases e1
  exact hc rfl
theorem turn_enumT {P : Program} {w : World} {K : PySem.W.Frag} {elts : List Expr} {kk : Nat} {tpos : Pos} (a e it : Addr) :
    L2.Turn P w K (.Tuple elts kk tpos) (IteT K a) [e, it] e (fun i h => (∃ old, IsEnum h e it ((i : Nat) : Int) old) ∧ h.IsTupleIter it a i ∧ e ≠ it) where
  mem := by simp
  obj := fun i h st b hb => by
    obtain ⟨⟨old, he⟩, ⟨o, ho, hc, hd⟩, _⟩ := st
    have e' : b = e ∨ b = it := by simpa using hb
    rcases e' with rfl | rfl
    · exact ⟨_, he, fun v q => nomatch q⟩
    · exact ⟨o, ho, fun v q => by rw [hd] at q; cases q⟩
  keep := fun i h h' st k => let ⟨⟨old, he⟩, hi, hne⟩ := st; ⟨⟨old, k e (by simp) _ he⟩, hi.at fun o q => k it (by simp) o q, hne⟩
  item := by
    intro X hP hw hK hc i pins s σ H E I hf st hg
    subst hP hw hK
    obtain ⟨⟨old, he⟩, hit, hne⟩ := st
    obtain ⟨xs, x, hq, hx⟩ := hg
    obtain ⟨its, rv, p, hz⟩ := I.tuple hq
    obtain ⟨u, hu, ru⟩ := rv.get hx
    obtain ⟨oi, hoi, hci, _⟩ := id hit
    obtain ⟨ot, hot, hct, _⟩ := id p
    have hai : a ≠ it := apart hot hoi (by rw [hct, hci]; decide)
    have hea : e ≠ a := apart he hot (by rw [hct]; show Value.type "enumerate" ≠ Value.type "tuple"; decide)
    have hel : e < s.heap.objs.size := Heap.lt_size he
    have hil : it < s.heap.objs.size := Heap.lt_size hoi
    have hlt : i < its.toArray.size := by
      have := (List.getElem?_eq_some_iff.mp hu).1
      simpa using this
    refine wpAny_pyNext_enum_itemD (Draws.tuple (prog := X.prog) (w := X.w) (A := X.A.in1) (I.ok.hd hc) it a hai its.toArray) he ⟨hit, p⟩ hlt hne (by simp [hne, hea]) fun x' h' tk hP ho st' hT hsz hk => ?_
    obtain rfl : u = x' := by
      have z : its[i]? = some x' := by simpa using hP
      rw [hu] at z
      exact Option.some.inj z
    refine ⟨_, rfl, wpAny_letOwnedTupleGo_enum (s := { s with heap := h', toks := tk + 1 }) ho fun h'' he' sb => ?_⟩
    have hT2 : h''.get? s.heap.objs.size = some { cls := .type "tuple", data := .seq #[.int i tk, u] } := (sb.2 _ (Nat.ne_of_gt hel)).trans hT
    have new : ObjOk X.prog X.w (upd H s.heap.objs.size (.tup [.int (i : Nat), x])) h'' s.heap.objs.size (.tup [.int (i : Nat), x]) :=
      ⟨by show 2 ≤ sizeLine; decide, [.int i tk, u], .cons ⟨_, rfl⟩ (.cons ru .nil), ⟨_, hT2, rfl, _, rfl⟩⟩
    have I1 : Inv X pins σ (upd H s.heap.objs.size (.tup [.int (i : Nat), x])) { s with heap := h'', toks := tk + 1 } :=
      I.turnedNew (ch := [e, it]) (fun b ob hb q => (sb.2 b (fun z => hb (by simp [z]))).trans (hk b ob (fun z => hb (by simp [z])) (fun z => hb (by simp [z])) q)) hf (Nat.le_refl _) new
    refine ⟨.ref s.heap.objs.size, _, I1, rfl, ⟨_, x, rfl, I.hok.fresh (Nat.le_refl _), rfl, fun ys hy => by rw [I.tuple_inj hy hq]; exact hx⟩, ⟨⟨u, ?_⟩, st'.1.at fun o q => (sb.2 it (Ne.symm hne)).trans q, hne⟩, fun b hb => ?_⟩
    · have e1 : ((i + 1 : Nat) : Int) = (i : Int) + 1 := by omega
      rw [e1]
      exact he'
    · have hb' : b < s.heap.objs.size := by
        have e' : b = e ∨ b = it := by simpa using hb
        rcases e' with rfl | rfl
        · exact hel
        · exact hil
      rw [upd_ne (Nat.ne_of_lt hb')]
      exact (hf b hb).1
  done := by
    intro X hP hw hK hc i pins s σ H E I hf st hg
    subst hP hw hK
    obtain ⟨⟨old, he⟩, hit, hne⟩ := st
    obtain ⟨xs, hq, hx⟩ := hg
    obtain ⟨its, rv, p, hz⟩ := I.tuple hq
    obtain ⟨oi, hoi, hci, _⟩ := id hit
    obtain ⟨ot, hot, hct, _⟩ := id p
    have hai : a ≠ it := apart hot hoi (by rw [hct, hci]; decide)
    obtain ⟨f0, f1, f2, f3, f4, f5⟩ := hf it (by simp)
    have hl : i = its.toArray.size := by
      have := rv.length
      rw [List.size_toArray]
      omega
    exact wpAny_pyNext_enum_endD (Draws.tuple (prog := X.prog) (w := X.w) (A := X.A.in1) (I.ok.hd hc) it a hai its.toArray) he ⟨hl ▸ hit, p⟩ fun h' eb => ⟨rfl, I.turned (t' := s.toks) (fun b o hb q => eb b o hb q) f0 f1 f3 f4 f5⟩
  self := fun A i s Q E st h => let ⟨⟨_, he⟩, _⟩ := st; wpAny_pyIter_enum he h
def iEnumT (K : PySem.W.Frag) (ta : TA) : TI := fun σ H R => ta σ H fun vs H1 => ∃ a xs, vs = [.ref a] ∧ SqT K H1 a xs ∧ R (IteT K a) H1
theorem pi_enumT {X : Cx} {K : PySem.W.Frag} (hKK : X.K = K) {e : Expr} {ta : TA} {p pos tpos : Pos} {elts : List Expr} {kk : Nat} (hg : L2.Gl X "enumerate") (hm : X.mg "enumerate" = none) (ha : PA X [e] ta) (hs : starEach [e] X.env = [(false, eval e X.env)] := by rfl) :
    PI X (.Tuple elts kk tpos) (.Call (.Name "enumerate" p) [e] [] pos) (iEnumT K ta) := by
  subst hKK
  refine ⟨fun pins s σ H R I h => ?_⟩
  refine Call_ (ld_blt I hg hm boot_enumerate (PyProof.Rows.callWith_type1 (thn (ha.run pos pins s σ H _ I h) fun us s1 ⟨vs, H1, I1, r1, q1⟩ => ?_) hs rfl))
  obtain ⟨a, xs, ex, hq, q⟩ := q1
  subst ex
  cases r1 with
  | cons r rr =>
    cases rr
    cases r
    obtain ⟨its, rv, p', hz⟩ := I1.tuple hq
    refine call_enum1 (begins_tuple a its.toArray) (show s1.heap.IsTuple a its.toArray from p') fun h' he hit hk => wpAny_pyIter_enum he ?_
    have I2 : Inv X pins σ H1 { s1 with heap := h' } := I1.kept (t' := s1.toks) hk
    refine ⟨s1.heap.objs.size + 1, [s1.heap.objs.size + 1, s1.heap.objs.size], _, _, H1, rfl, I2, turn_enumT a (s1.heap.objs.size + 1) s1.heap.objs.size, ⟨⟨.none, he⟩, ⟨_, hit, rfl, rfl⟩, Nat.succ_ne_self _⟩, fun b hb => ?_, q⟩
    have e' : b = s1.heap.objs.size + 1 ∨ b = s1.heap.objs.size := by simpa using hb
    have hle : s1.heap.objs.size ≤ b := by
      rcases e' with rfl | rfl
      · exact Nat.le_add_right _ _
      · exact Nat.le_refl _
    exact I1.fpOk hle (I1.hok.fresh hle)
end Ea
set_option Elab.async false
set_option linter.all false
set_option maxRecDepth 100000
set_option maxHeartbeats 1000000
/-! zip of a tuple and a list. -/
namespace Ea
open PySem PySem.Spec PyProof.Rows L2
/-- the tuple at a and the list at b, the items in new pairs -/
def ItzM (K : PySem.W.Frag) (a b : Addr) : It :=
  ⟨fun i H => ∃ (xs ys : List V) (x y : V), SqT K H a xs ∧ SqL K H b ys ∧ xs[i]? = some x ∧ ys[i]? = some y,
    fun i H v H' => ∃ T x y, v = .ref T ∧ H T = none ∧ H' = upd H T (.tup [x, y]) ∧ (∀ xs, SqT K H a xs → xs[i]? = some x) ∧ ∀ ys, SqL K H b ys → ys[i]? = some y,
    fun i H => ∃ xs ys : List V, SqT K H a xs ∧ SqL K H b ys ∧ i ≤ xs.length ∧ i ≤ ys.length ∧ (i = xs.length ∨ i = ys.length)⟩
structure Cells (z TI TO i1 i2 : Addr) : Prop where
  TIz : TI ≠ z
  TOz : TO ≠ z
  TITO : TI ≠ TO
  TIi1 : TI ≠ i1
  TIi2 : TI ≠ i2
  TOi1 : TO ≠ i1
  TOi2 : TO ≠ i2
  zi1 : z ≠ i1
  zi2 : z ≠ i2
  i12 : i1 ≠ i2
theorem cells_sep {h : Heap} {z TI TO i1 i2 a b : Addr} {k1 k2 : Nat} {xs ys : Array Value} {x y : Value} (C : Cells z TI TO i1 i2) (hz : IsZip h z TI TO .none) (hTO : IsTupOf2 h TO x y)
    (h1 : h.IsTupleIter i1 a k1) (h2 : h.IsListIter i2 b k2) (ha : h.IsTuple a xs) (hb : h.IsList b ys) (hTa : TO ≠ a) : ZipSep2 z TI TO i1 i2 [i1, a] [i2, b] ∧ a ≠ i1 ∧ b ≠ i2 := by
  obtain ⟨o1, e1, c1, _⟩ := h1
  obtain ⟨o2, e2, c2, _⟩ := h2
  obtain ⟨oa, ea, ca, _⟩ := ha
  obtain ⟨ob, eb, cb, _⟩ := hb
  have nza : z ≠ a := apart hz ea (by rw [ca]; show Value.type "zip" ≠ Value.type "tuple"; decide)
  have nzb : z ≠ b := apart hz eb (by rw [cb]; show Value.type "zip" ≠ Value.type "list"; decide)
  have nTb : TO ≠ b := apart hTO eb (by rw [cb]; show Value.type "tuple" ≠ Value.type "list"; decide)
  have n1b : i1 ≠ b := apart e1 eb (by rw [c1, cb]; decide)
  have n2a : i2 ≠ a := apart e2 ea (by rw [c2, ca]; decide)
  have na1 : a ≠ i1 := apart ea e1 (by rw [ca, c1]; decide)
  have nb2 : b ≠ i2 := apart eb e2 (by rw [cb, c2]; decide)
  refine ⟨{ TIz := C.TIz, TOz := C.TOz, TITO := C.TITO, TIi1 := C.TIi1, mem1 := by simp, zf1 := ?_, Tf1 := ?_, TIi2 := C.TIi2, mem2 := by simp, zf2 := ?_, Tf2 := ?_, sep1_2 := ?_, sep2_1 := ?_ }, na1, nb2⟩
  · simp [C.zi1, nza]
  · simp [C.TOi1, hTa]
  · simp [C.zi2, nzb]
  · simp [C.TOi2, nTb]
  · simp [C.i12, n1b]
  · simp [C.i12.symm, n2a]
theorem turn_zipM {P : Program} {w : World} {K : PySem.W.Frag} {elts : List Expr} {kk : Nat} {tpos : Pos} {a b z TI TO i1 i2 : Addr} (C : Cells z TI TO i1 i2) (hTa : TO ≠ a) :
    L2.Turn P w K (.Tuple elts kk tpos) (ItzM K a b) [z, TI, TO, i1, i2] z (fun i h => IsZip h z TI TO .none ∧ IsTupOf2 h TI (.ref i1) (.ref i2) ∧ (∃ x y, IsTupOf2 h TO x y) ∧ h.IsTupleIter i1 a i ∧ h.IsListIter i2 b i) where
  mem := by simp
  obj := fun i h st c hc => by
    obtain ⟨hz, hTI, ⟨x, y, hTO⟩, ⟨o1, e1, _, d1⟩, ⟨o2, e2, _, d2⟩⟩ := st
    have e' : c = z ∨ c = TI ∨ c = TO ∨ c = i1 ∨ c = i2 := by simpa using hc
    rcases e' with rfl | rfl | rfl | rfl | rfl
    · exact ⟨_, hz, fun v q => nomatch q⟩
    · exact ⟨_, hTI, fun v q => nomatch q⟩
    · exact ⟨_, hTO, fun v q => nomatch q⟩
    · exact ⟨o1, e1, fun v q => by rw [d1] at q; cases q⟩
    · exact ⟨o2, e2, fun v q => by rw [d2] at q; cases q⟩
  keep := fun i h h' st k => by
    obtain ⟨hz, hTI, ⟨x, y, hTO⟩, h1, h2⟩ := st
    exact ⟨k z (by simp) _ hz, k TI (by simp) _ hTI, ⟨x, y, k TO (by simp) _ hTO⟩, h1.at fun o q => k i1 (by simp) o q, h2.at fun o q => k i2 (by simp) o q⟩
  item := by
    intro X hP hw hK hc i pins s σ H E I hf st hg
    subst hP hw hK
    obtain ⟨hz, hTI, ⟨x0, y0, hTO⟩, h1, h2⟩ := st
    obtain ⟨xs, ys, x, y, hqx, hqy, hx, hy⟩ := hg
    obtain ⟨its, rv, p, _⟩ := I.tuple hqx
    obtain ⟨its2, rv2, p2, _⟩ := I.list hqy
    obtain ⟨u, hu, ru⟩ := rv.get hx
    obtain ⟨u2, hu2, ru2⟩ := rv2.get hy
    have pt : s.heap.IsTuple a its.toArray := p
    obtain ⟨S, na1, nb2⟩ := cells_sep C hz hTO h1 h2 pt p2.isList hTa
    have hzl : z < s.heap.objs.size := Heap.lt_size hz
    have hlt1 : i < its.toArray.size := by
      have := (List.getElem?_eq_some_iff.mp hu).1
      simpa using this
    have hlt2 : i < its2.toArray.size := by
      have := (List.getElem?_eq_some_iff.mp hu2).1
      simpa using this
    refine wpAny_pyNext_zipD2_item S (Draws.tuple (prog := X.prog) (w := X.w) (A := X.A.in1) (I.ok.hd hc) i1 a na1 its.toArray) (Draws.list (prog := X.prog) (w := X.w) (A := X.A.in1) (I.ok.hd hc) i2 b nb2 its2.toArray) hz hTI hTO ⟨h1, pt⟩ ⟨h2, p2.isList⟩ hlt1 hlt2 fun x1 x2 h' tk hP1 hP2 z' TO' st1 st2 hT hsz hk => ?_
    obtain rfl : u = x1 := by
      have q : its[i]? = some x1 := by simpa using hP1
      rw [hu] at q
      exact Option.some.inj q
    obtain rfl : u2 = x2 := by
      have q : its2[i]? = some x2 := by simpa using hP2
      rw [hu2] at q
      exact Option.some.inj q
    refine ⟨_, rfl, wpAny_letOwnedTupleGo_zip (s := { s with heap := h', toks := tk }) z' fun h'' z'' sb => ?_⟩
    have hT2 : h''.get? s.heap.objs.size = some { cls := .type "tuple", data := .seq #[u, u2] } := (sb.2 _ (Nat.ne_of_gt hzl)).trans hT
    have new : ObjOk X.prog X.w (upd H s.heap.objs.size (.tup [x, y])) h'' s.heap.objs.size (.tup [x, y]) :=
      ⟨by show 2 ≤ sizeLine; decide, [u, u2], .cons ru (.cons ru2 .nil), ⟨_, hT2, rfl, _, rfl⟩⟩
    have I1 : Inv X pins σ (upd H s.heap.objs.size (.tup [x, y])) { s with heap := h'', toks := tk } :=
      I.turnedNew (ch := [z, TI, TO, i1, i2]) (fun c o hb q => (sb.2 c (fun q' => hb (by simp [q']))).trans (hk c o (fun q' => hb (by simp [q'])) (fun q' => hb (by simp [q'])) (fun q' => hb (by simp [q'])) (fun q' => hb (by simp [q'])) q)) hf (Nat.le_refl _) new
    refine ⟨.ref s.heap.objs.size, _, I1, rfl, ⟨_, x, y, rfl, I.hok.fresh (Nat.le_refl _), rfl, fun l hl => by rw [I.tuple_inj hl hqx]; exact hx, fun l hl => by rw [I.list_inj hl hqy]; exact hy⟩, ⟨z'', ?_, ⟨u, u2, ?_⟩, ?_, ?_⟩, fun c hcm => ?_⟩
    · exact (sb.2 _ C.TIz).trans (hk _ _ C.TIz C.TITO C.TIi1 C.TIi2 hTI)
    · exact (sb.2 _ C.TOz).trans TO'
    · exact st1.1.at fun o q => (sb.2 _ C.zi1.symm).trans q
    · exact st2.1.at fun o q => (sb.2 _ C.zi2.symm).trans q
    · have hlt : c < s.heap.objs.size := by
        have e' : c = z ∨ c = TI ∨ c = TO ∨ c = i1 ∨ c = i2 := by simpa using hcm
        rcases e' with rfl | rfl | rfl | rfl | rfl
        · exact hzl
        · exact Heap.lt_size hTI
        · exact Heap.lt_size hTO
        · obtain ⟨_, e1, _⟩ := h1
          exact Heap.lt_size e1
        · obtain ⟨_, e2, _⟩ := h2
          exact Heap.lt_size e2
      rw [upd_ne (Nat.ne_of_lt hlt)]
      exact (hf c hcm).1
  done := by
    intro X hP hw hK hc i pins s σ H E I hf st hg
    subst hP hw hK
    obtain ⟨hz, hTI, ⟨x0, y0, hTO⟩, h1, h2⟩ := st
    obtain ⟨xs, ys, hqx, hqy, l1, l2, hend⟩ := hg
    obtain ⟨its, rv, p, _⟩ := I.tuple hqx
    obtain ⟨its2, rv2, p2, _⟩ := I.list hqy
    have pt : s.heap.IsTuple a its.toArray := p
    obtain ⟨S, na1, nb2⟩ := cells_sep C hz hTO h1 h2 pt p2.isList hTa
    have k1 := rv.length
    have k2 := rv2.length
    have m1 : i ≤ its.toArray.size := by rw [List.size_toArray]; omega
    have m2 : i ≤ its2.toArray.size := by rw [List.size_toArray]; omega
    have m3 : i = its.toArray.size ∨ i = its2.toArray.size := by rw [List.size_toArray, List.size_toArray]; omega
    exact wpAny_pyNext_zipD2_end S (Draws.tuple (prog := X.prog) (w := X.w) (A := X.A.in1) (I.ok.hd hc) i1 a na1 its.toArray) (Draws.list (prog := X.prog) (w := X.w) (A := X.A.in1) (I.ok.hd hc) i2 b nb2 its2.toArray) hz hTI hTO ⟨h1, pt⟩ ⟨h2, p2.isList⟩ m1 m2 m3 fun h' tk hk => ⟨rfl, I.turnedL (t' := tk) (ch := [z, TI, TO, i1, i2]) (fun c o hb q =>
      hk c o (fun q' => hb (by simp [q'])) (fun q' => hb (by simp [q'])) (fun q' => hb (by simp [q'])) (fun q' => hb (by simp [q'])) q) hf⟩
  self := fun A i s Q E st h => wpAny_pyIter_zip st.1 h
def iZipM (K : PySem.W.Frag) (ta : TA) : TI := fun σ H R => ta σ H fun vs H1 => ∃ a b xs ys, vs = [.ref a, .ref b] ∧ SqT K H1 a xs ∧ SqL K H1 b ys ∧ R (ItzM K a b) H1
theorem pi_zipM {X : Cx} {K : PySem.W.Frag} (hKK : X.K = K) {e e2 : Expr} {ta : TA} {p pos tpos : Pos} {elts : List Expr} {kk : Nat} (hg : L2.Gl X "zip") (hm : X.mg "zip" = none) (ha : PA X [e, e2] ta)
    (hs : starEach [e, e2] X.env = (false, eval e X.env) :: starEach [e2] X.env := by rfl) (hpl : (backTo pos (starEach [e2] X.env)).any (·.1) = false := by rfl) :
    PI X (.Tuple elts kk tpos) (.Call (.Name "zip" p) [e, e2] [] pos) (iZipM K ta) := by
  subst hKK
  refine ⟨fun pins s σ H R I h => ?_⟩
  refine Call_ (ld_blt I hg hm PyProof.Rows.boot_zip (PyProof.Rows.callWith_type1 (thn (ha.run pos pins s σ H _ I h) fun us s1 ⟨vs, H1, I1, r1, q1⟩ => ?_) hs hpl))
  obtain ⟨a, b, xs, ys, ex, hqx, hqy, q⟩ := q1
  subst ex
  cases r1 with
  | cons r rr =>
    cases rr with
    | cons r' rr =>
      cases rr
      cases r
      cases r'
      obtain ⟨its, rv, p1, _⟩ := I1.tuple hqx
      obtain ⟨its2, rv2, p2, _⟩ := I1.list hqy
      obtain ⟨o1, ho1, _⟩ := id p1
      refine zip_begins2 (begins_tuple a its.toArray) (begins_list b its2.toArray) (show s1.heap.IsTuple a its.toArray from p1) p2.isList fun h' hz hTI hTO h1 h2 hsz hk => wpAny_pyIter_zip hz ?_
      have I2 : Inv X pins σ H1 { s1 with heap := h' } := I1.kept (t' := s1.toks) hk
      have C : Cells (s1.heap.objs.size + 4) (s1.heap.objs.size + 2) (s1.heap.objs.size + 3) s1.heap.objs.size (s1.heap.objs.size + 1) := by
        constructor <;> (intro e; have e : (_ : Nat) = _ := e; omega)
      have hTa : (s1.heap.objs.size + 3 : Nat) ≠ a := Nat.ne_of_gt (Nat.lt_of_lt_of_le (Heap.lt_size ho1) (Nat.le_add_right _ _))
      refine ⟨s1.heap.objs.size + 4, [s1.heap.objs.size + 4, s1.heap.objs.size + 2, s1.heap.objs.size + 3, s1.heap.objs.size, s1.heap.objs.size + 1], _, _, H1, rfl, I2, turn_zipM C hTa, ⟨hz, hTI, ⟨_, _, hTO⟩, ⟨_, h1, rfl, rfl⟩, ⟨_, h2, rfl, rfl⟩⟩, fun c hcm => ?_, q⟩
      have e' : c = s1.heap.objs.size + 4 ∨ c = s1.heap.objs.size + 2 ∨ c = s1.heap.objs.size + 3 ∨ c = s1.heap.objs.size ∨ c = s1.heap.objs.size + 1 := by simpa using hcm
      have hle : s1.heap.objs.size ≤ c := by
        rcases e' with rfl | rfl | rfl | rfl | rfl
        · exact Nat.le_add_right _ _
        · exact Nat.le_add_right _ _
        · exact Nat.le_add_right _ _
        · exact Nat.le_refl _
        · exact Nat.le_add_right _ _
      exact I1.fpOk hle (I1.hok.fresh hle)
end Ea
set_option Elab.async false
set_option linter.all false
set_option maxRecDepth 100000
set_option maxHeartbeats 400000
/-! Comprehensions over pairs, where nothing else is changed. -/
namespace Ea
open PySem PySem.Spec PyProof.Rows L2
section
variable {K : PySem.W.Frag} {σ : L2.St} {H : Hp} {Q : VK} {tt : TT} {te : TE} {vs : List Nat} {j1 j2 k : Nat} {σx : V → V → L2.St} {a b : Addr} {n : Nat} {px py : Nat → V} {f : Nat → Bool} {g : Nat → V} {J : It}
theorem range_snoc (f : Nat → Bool) (g : Nat → V) (i : Nat) : ((List.range (i + 1)).filter f).map g = ((List.range i).filter f).map g ++ (if f i = true then [g i] else []) := by
  rw [List.range_succ, List.filter_append, List.map_append]
  congr 1
  by_cases h : f i = true
  · rw [if_pos h, List.filter_cons, if_pos h] <;> rfl
  · rw [if_neg h, List.filter_cons, if_neg h] <;> rfl
abbrev TurnP (H : Hp) (tt : TT) (te : TE) (σx : V → V → L2.St) (px py : Nat → V) (f : Nat → Bool) (g : Nat → V) (i : Nat) : Prop :=
  ∀ (H' : Hp) (N : VK) (S : Hp → Prop), Evl.Ex H H' → (f i = true → ∀ H3, Evl.Ex H' H3 → N (g i) H3) → (f i = false → ∀ H3, Evl.Ex H' H3 → S H3) →
    tt (σx (px i) (py i)) H' fun b H2 => if b = true then te (σx (px i) (py i)) H2 N else S H2
theorem lc_pairs (hk : k = 2) (hz : n ≤ 40000) (go : ∀ i H', Evl.Ex H H' → i < n → J.go i H') (stop : ∀ H', Evl.Ex H H' → J.stop n H')
    (yld : ∀ i H1 x H2, Evl.Ex H H1 → i < n → J.yld i H1 x H2 → ∃ T, x = .ref T ∧ H1 T = none ∧ H2 = upd H1 T (.tup [px i, py i]))
    (hσ : ∀ x y, ((wipe σ vs).set j1 (some x)).set j2 (some y) = σx x y) (hw : ∀ x y, wipe (σx x y) vs = wipe σ vs)
    (hs : ∀ i, i < n → TurnP H tt te σx px py f g i)
    (hd : ∀ D H', Evl.Ex H H' → H D = none → H' D = some (.lst (((List.range n).filter f).map g)) → Q (.ref D) H') : LcR (gTup K k (gCons (gName j1) (gCons (gName j2) gNil))) tt te vs σ Q J H := fun D hn => by
  refine ⟨fun i m H' => i + m = n ∧ Evl.Ex H H' ∧ H' D = some (.lst (((List.range i).filter f).map g)), ⟨n, by omega, Evl.Ex.new hn, upd_same⟩, fun i m H' hW => ?_⟩
  obtain ⟨em, e, ed⟩ := hW
  have hlen : (((List.range i).filter f).map g).length < 100000 := by
    rw [List.length_map]
    have h1 := List.length_filter_le f (List.range i)
    rw [List.length_range] at h1
    omega
  by_cases hi : i < n
  · refine .inr ⟨go i H' e hi, fun H3 => Evl.Ex H H3 ∧ H3 D = some (.lst (((List.range (i + 1)).filter f).map g)), fun H3 h3 => ⟨m - 1, by omega, by omega, h3⟩, fun x H2 hy => ?_⟩
    obtain ⟨T, rfl, hT, rfl⟩ := yld i H' x H2 e hi hy
    have eT := Evl.Ex.new (o := .tup [px i, py i]) hT
    refine rd_gtup2 (x := px i) (y := py i) (SqT.of upd_same) hk (hσ _ _) ⟨hw _ _, hs i hi _ _ _ (e.trans eT) (fun hf H3 e3 => ?_) fun hf H3 e3 => ?_⟩
    · refine ⟨_, e3 D _ (eT D _ ed), Evl.sz_lt hlen, Evl.Ex.mut ((e.trans eT).trans e3) hn, ?_⟩
      rw [upd_same, range_snoc, if_pos hf]
    · refine ⟨(e.trans eT).trans e3, ?_⟩
      rw [range_snoc, if_neg (by rw [hf]; decide), List.append_nil]
      exact e3 D _ (eT D _ ed)
  · have hin : i = n := by omega
    subst hin
    exact .inl ⟨stop H' e, hd D H' e hn ed⟩
theorem lc_enumT {xs : List V} (hk : k = 2) (hx : SqT K H a xs) (hz : xs.length ≤ 40000) (hσ : ∀ x y, ((wipe σ vs).set j1 (some x)).set j2 (some y) = σx x y) (hw : ∀ x y, wipe (σx x y) vs = wipe σ vs)
    (f : Nat → Bool) (g : Nat → V) (hs : ∀ i, i < xs.length → TurnP H tt te σx (fun i => .int (i : Nat)) (fun i => xs.getD i .non) f g i)
    (hd : ∀ D H', Evl.Ex H H' → H D = none → H' D = some (.lst (((List.range xs.length).filter f).map g)) → Q (.ref D) H') : LcR (gTup K k (gCons (gName j1) (gCons (gName j2) gNil))) tt te vs σ Q (IteT K a) H :=
  lc_pairs hk hz (fun i H' e hi => ⟨xs, xs[i], Evl.ex_t e hx, List.getElem?_eq_getElem hi⟩) (fun H' e => ⟨xs, Evl.ex_t e hx, rfl⟩)
    (fun i H1 x H2 e hi hy => by
      obtain ⟨T, y, rfl, hT, rfl, h⟩ := hy
      have := h xs (Evl.ex_t e hx)
      refine ⟨T, rfl, hT, ?_⟩
      show _ = upd H1 T (.tup [.int (i : Nat), xs.getD i .non])
      rw [List.getD_eq_getElem?_getD, this] <;> rfl) hσ hw hs hd
theorem lc_enumL {xs : List V} (hk : k = 2) (hx : SqL K H a xs) (hz : xs.length ≤ 40000) (hσ : ∀ x y, ((wipe σ vs).set j1 (some x)).set j2 (some y) = σx x y) (hw : ∀ x y, wipe (σx x y) vs = wipe σ vs)
    (f : Nat → Bool) (g : Nat → V) (hs : ∀ i, i < xs.length → TurnP H tt te σx (fun i => .int (i : Nat)) (fun i => xs.getD i .non) f g i)
    (hd : ∀ D H', Evl.Ex H H' → H D = none → H' D = some (.lst (((List.range xs.length).filter f).map g)) → Q (.ref D) H') : LcR (gTup K k (gCons (gName j1) (gCons (gName j2) gNil))) tt te vs σ Q (Ite K a) H :=
  lc_pairs hk hz (fun i H' e hi => ⟨xs, xs[i], Evl.ex_l e hx, List.getElem?_eq_getElem hi⟩) (fun H' e => ⟨xs, Evl.ex_l e hx, Nat.le_refl _⟩)
    (fun i H1 x H2 e hi hy => by
      obtain ⟨T, y, rfl, hT, rfl, h⟩ := hy
      have := h xs (Evl.ex_l e hx)
      refine ⟨T, rfl, hT, ?_⟩
      show _ = upd H1 T (.tup [.int (i : Nat), xs.getD i .non])
      rw [List.getD_eq_getElem?_getD, this] <;> rfl) hσ hw hs hd
theorem lc_zipM {xs ys : List V} (hk : k = 2) (hx : SqT K H a xs) (hy : SqL K H b ys) (hl : xs.length = ys.length) (hz : xs.length ≤ 40000) (hσ : ∀ x y, ((wipe σ vs).set j1 (some x)).set j2 (some y) = σx x y) (hw : ∀ x y, wipe (σx x y) vs = wipe σ vs)
    (f : Nat → Bool) (g : Nat → V) (hs : ∀ i, i < xs.length → TurnP H tt te σx (fun i => xs.getD i .non) (fun i => ys.getD i .non) f g i)
    (hd : ∀ D H', Evl.Ex H H' → H D = none → H' D = some (.lst (((List.range xs.length).filter f).map g)) → Q (.ref D) H') : LcR (gTup K k (gCons (gName j1) (gCons (gName j2) gNil))) tt te vs σ Q (ItzM K a b) H :=
  lc_pairs hk hz (fun i H' e hi => ⟨xs, ys, xs[i], ys[i]'(hl ▸ hi), Evl.ex_t e hx, Evl.ex_l e hy, List.getElem?_eq_getElem hi, List.getElem?_eq_getElem (hl ▸ hi)⟩)
    (fun H' e => ⟨xs, ys, Evl.ex_t e hx, Evl.ex_l e hy, Nat.le_refl _, by omega, .inl rfl⟩)
    (fun i H1 x H2 e hi hq => by
      obtain ⟨T, u, v, rfl, hT, rfl, h1, h2⟩ := hq
      have q1 := h1 xs (Evl.ex_t e hx)
      have q2 := h2 ys (Evl.ex_l e hy)
      refine ⟨T, rfl, hT, ?_⟩
      show _ = upd H1 T (.tup [xs.getD i .non, ys.getD i .non])
      rw [List.getD_eq_getElem?_getD, q1, List.getD_eq_getElem?_getD, q2] <;> rfl) hσ hw hs hd
variable {R : It → Hp → Prop} {ta : TA}
theorem rd_iRng2 (h : ta σ H fun vs H1 => ∃ i j : Int, vs = [.int i, .int j] ∧ (-(2 ^ 62) ≤ i ∧ i < 2 ^ 62 ∧ -(2 ^ 62) ≤ j ∧ j < 2 ^ 62) ∧ R (Itr i (j - i).toNat) H1) : iRng2 ta σ H R := h
theorem rd_iEnumT (h : ta σ H fun vs H1 => ∃ a xs, vs = [.ref a] ∧ SqT K H1 a xs ∧ R (IteT K a) H1) : iEnumT K ta σ H R := h
theorem rd_iEnum (h : ta σ H fun vs H1 => ∃ a xs, vs = [.ref a] ∧ SqL K H1 a xs ∧ R (Ite K a) H1) : iEnum K ta σ H R := h
theorem rd_iZipM (h : ta σ H fun vs H1 => ∃ a b xs ys, vs = [.ref a, .ref b] ∧ SqT K H1 a xs ∧ SqL K H1 b ys ∧ R (ItzM K a b) H1) : iZipM K ta σ H R := h
end
section
variable {X : Cx} {K : PySem.W.Frag}
theorem pi_enumL (hKK : X.K = K) {e : Expr} {ta : TA} {p pos tpos : Pos} {elts : List Expr} {kk : Nat} (hg : L2.Gl X "enumerate") (hm : X.mg "enumerate" = none) (ha : PA X [e] ta) (hs : starEach [e] X.env = [(false, eval e X.env)] := by rfl) :
    PI X (.Tuple elts kk tpos) (.Call (.Name "enumerate" p) [e] [] pos) (iEnum K ta) := hKK ▸ pi_enum hg hm ha hs
theorem pgk_tup (hKK : X.K = K) {pos : Pos} {es : List Expr} {k : Nat} {t : TGs} {n : Nat} (hc : X.calm = true) (h : PGs X es t)
    (hn : (assignEach es X.env).length = n := by rfl) (hst : (assignEach es X.env).findIdx? (·.1) = none := by rfl) : PG X (.Tuple es k pos) (gTup K n t) := hKK ▸ pg_tup hc h hn hst
end
end Ea
set_option Elab.async false
set_option linter.all false
set_option maxRecDepth 100000
set_option maxHeartbeats 400000
/-! sorted by key=abs, a tuple whose object is known, dict of it, all, comprehensions and loops over tuples of pairs. -/
namespace Ea
open PySem PySem.Spec PyProof.Rows L2

/-! ### sorted(xs, key=abs) of a list of ints -/
def rSortAbs (K : PySem.W.Frag) : List V → Hp → VK → Prop := fun xs H Q => ∃ (a : Addr) (ns : List Int), xs = [.ref a] ∧ SqL K H a (ns.map V.int) ∧
  ∀ (ms : List Int) (p : Addr), ms.Perm ns → ms.Pairwise (fun x y => x.natAbs ≤ y.natAbs) → H p = none → Q (.ref p) (upd H p (.lst (ms.map V.int)))
theorem each_of_ints : ∀ {its : List Value} {ns : List Int}, Vals (ns.map V.int) its → PySem.W.EachIs (fun v x => ∃ t, v = Value.int x t) its ns
  | _, [], r => by
    cases r
    exact .nil
  | _, n :: ns, r => by
    rw [List.map_cons] at r
    cases r with
    | cons h t => exact .cons h (each_of_ints t)
theorem vals_of_each : ∀ {its : List Value} {ns : List Int}, PySem.W.EachIs (fun v x => ∃ t, v = Value.int x t) its ns → Vals (ns.map V.int) its
  | _, _, .nil => .nil
  | _, _, .cons h t => .cons h (vals_of_each t)
theorem sort_absK {X : Cx} {K : PySem.W.Frag} (hK : X.K = K) (hu : X.A.units + 64 < cLine) {pins : List (Addr × Obj)} {s : Shared} {σ : L2.St} {H : Hp} {xs : List V} {us : List Value} {Q : VK}
    (I : Inv X pins σ H s) (r : Vals xs us) (h : rSortAbs K xs H Q) : wpAny (model X.prog X.w) X.A (call (.builtin "sorted") us [(Str.ofString "key", .builtin "abs")]) (EP X pins σ Q) X.xe s := by
  subst hK
  obtain ⟨a, ns, rfl, hs, q⟩ := h
  rw [Vals.ref1 r]
  obtain ⟨its, rv, hl, hz⟩ := I.list hs
  have hlen : ns.length ≤ sizeLine := by
    rw [List.length_map] at hz
    exact hz
  refine PySem.W.sorted_key_data (β := Int) (R := fun v x => ∃ t, v = Value.int x t) (bs := ns) (b := false) (f := .builtin "abs") (fun n => .int (n.natAbs : Int)) hl.isList (each_of_ints rv) ?_ ?_ hlen (fun x _ => ?_)
    (PyProof.Rows.ksk_s1 _ _) (fun _ => PyProof.Rows.ksk_l1 _ _) (fun x => PyProof.Rows.ksk_t4 "abs" x) (fun v x hv hx h tk kp => ?_) fun out c h' tk kp hf hD ho he => ?_
  · intro d hd d' hd'
    obtain ⟨x, _, rfl⟩ := List.mem_map.mp hd
    obtain ⟨y, _, rfl⟩ := List.mem_map.mp hd'
    rfl
  · refine .inr fun d hd => ?_
    obtain ⟨x, _, rfl⟩ := List.mem_map.mp hd
    exact ⟨nofun, nofun⟩
  · have e : (PyData.int (x.natAbs : Int)).depth = 0 := rfl
    omega
  · obtain ⟨t, rfl⟩ := hv
    refine call_abs_int fun u tk' => ⟨h, tk', rfl, fun _ _ e => e, ?_⟩
    have e : (if x < 0 then -x else x) = (x.natAbs : Int) := by split <;> omega
    rw [e]
    exact .int _ _
  · rw [PySem.W.dataLe_int (β := Int) fun n => (n.natAbs : Int)] at he
    generalize hm : ns.mergeSort (fun a b => decide ((a.natAbs : Int) ≤ (b.natAbs : Int))) = ms at he
    have pm : ms.Perm ns := hm ▸ List.mergeSort_perm _ _
    have so : ms.Pairwise fun x y => x.natAbs ≤ y.natAbs := by
      rw [← hm]
      refine (List.pairwise_mergeSort (le := fun a b : Int => decide ((a.natAbs : Int) ≤ (b.natAbs : Int))) (fun a b c h1 h2 => ?_) (fun a b => ?_) ns).imp fun {a b} h => ?_
      · have := of_decide_eq_true h1
        have := of_decide_eq_true h2
        exact decide_eq_true (by omega)
      · rw [Bool.or_eq_true, decide_eq_true_eq, decide_eq_true_eq]
        omega
      · have := of_decide_eq_true h
        omega
    have hl2 : (ms.map V.int).length ≤ sizeLine := by
      rw [List.length_map, pm.length_eq]
      exact hlen
    exact ⟨.ref _, upd H (s.heap.objs.size + 1) (.lst (ms.map V.int)), I.laid (t' := tk) kp (Nat.le_succ _) ⟨hl2, out, c, vals_of_each he, hD⟩, rfl, q _ _ pm so (I.hok.fresh (Nat.le_succ _))⟩
theorem pe_sortAbs {X : Cx} {K : PySem.W.Frag} {e : Expr} {ta : TA} {p pos kpos apos : Pos} (hK : X.K = K) (hu : X.A.units + 64 < cLine) (hg : L2.Gl X "sorted") (hm : X.mg "sorted" = none) (hga : L2.Gl X "abs") (hma : X.mg "abs" = none) (ha : PA X [e] ta)
    (he : backTo pos (starEach [e] X.env) = (false, eval e X.env) :: backTo pos (starEach [] X.env) := by rfl) (hpl : (backTo pos (starEach [e] X.env)).any (·.1) = false := by rfl)
    (hall : (backToKw pos (keywordEach [⟨some "key", .Name "abs" apos, kpos⟩] X.env)).all (·.1.isSome) = true := by rfl) (hnone : (backToKw pos (keywordEach [⟨some "key", .Name "abs" apos, kpos⟩] X.env)).any (·.1.isNone) = false := by rfl) (hks : (backToKw pos (keywordEach [⟨some "key", .Name "abs" apos, kpos⟩] X.env)).filterMap (·.1) = [Str.ofString "key"] := by rfl) :
    PE X (.Call (.Name "sorted" p) [e] [⟨some "key", .Name "abs" apos, kpos⟩] pos) (tCB (rSortAbs K) ta) := by
  refine ⟨fun pins s σ H Q I h => ?_⟩
  refine wpAny_Call_Name_kw (ld_blt (u := .builtin "sorted") I hg hm rfl ?_)
  refine PyProof.Rows.callWith_kw (thn (ha.run pos pins s σ H _ I h) fun us s1 ⟨vs, H1, I1, r1, q1⟩ => ?_) he hpl hall hnone
  rw [hks]
  show wpAny _ _ (evalAll [do let v ← eval (.Name "abs" apos) X.env; standAt pos; pure v]) _ _ s1
  refine wpAny_evalAll_cons (wpAny_bind (ld_blt (u := .builtin "abs") I1 hga hma rfl (wpAny_bind (wpAny_standAt (wpAny_pure ?_)))))
  exact wpAny_evalAll_nil (sort_absK hK hu I1 r1 q1)
theorem rd_sortAbs {K : PySem.W.Frag} {H : Hp} {Q : VK} {a : Addr} {ns : List Int} (s : SqL K H a (ns.map V.int))
    (h : ∀ (ms : List Int) (p : Addr), ms.Perm ns → ms.Pairwise (fun x y => x.natAbs ≤ y.natAbs) → H p = none → Q (.ref p) (upd H p (.lst (ms.map V.int)))) : rSortAbs K [.ref a] H Q := ⟨a, ns, rfl, s, h⟩

/-! ### a tuple whose object is known -/
def Fz (H : Hp) (a : Addr) (xs : List V) : Prop := ∃ o, H a = some (.frz o (.tup xs)) ∧ o.dict = none
theorem Fz.sq {K : PySem.W.Frag} {H : Hp} {a : Addr} {xs : List V} (h : Fz H a xs) : SqT K H a xs := by
  obtain ⟨o, h, _⟩ := h
  exact .inl (.inr ⟨o, h⟩)
def rTupFz (K : PySem.W.Frag) : List V → Hp → VK → Prop := fun xs H Q => ∃ p ys, xs = [.ref p] ∧ SqL K H p ys ∧ ∀ (l : Addr) (o : Obj), H l = none → o.dict = none → Q (.ref l) (upd H l (.frz o (.tup ys)))
theorem c_tupFz {X : Cx} {K : PySem.W.Frag} (hK : X.K = K) : CallR X (.type "tuple") (rTupFz K) := by
  subst hK
  intro pins s σ H xs us Q I r h
  obtain ⟨p, ys, rfl, hq, q⟩ := h
  obtain ⟨u, rfl, rx⟩ := vals1 r
  cases rx
  obtain ⟨its, r', pl, hz⟩ := I.list hq
  have hlen := r'.length
  refine call_tuple_list pl.isList (fun h' kp => ?_) (by simp only [List.size_toArray] <;> omega)
  have I1 : Inv X pins σ H { s with heap := h' } := I.kept (t' := s.toks) kp
  have I2 : Inv X pins σ (upd H h'.objs.size (.frz { cls := .type "tuple", data := .seq its.toArray } (.tup ys))) { s with heap := h'.push { cls := .type "tuple", data := .seq its.toArray } } :=
    I1.laid (t' := s.toks) (fun b o e => Heap.get?_push_of_some _ e) (Nat.le_refl _) (show ObjOk X.prog X.w _ _ _ (.frz _ (.tup ys)) from ⟨Heap.get?_push_size _ rfl, hz, its, r', IsTup.new _ _⟩)
  exact ⟨.ref h'.objs.size, _, I2, rfl, q _ _ (I1.hok.fresh (Nat.le_refl _)) rfl⟩
theorem rd_tupFz {K : PySem.W.Frag} {H : Hp} {Q : VK} {p : Addr} {ys : List V} (s : SqL K H p ys) (h : ∀ (l : Addr) (o : Obj), H l = none → o.dict = none → Q (.ref l) (upd H l (.frz o (.tup ys)))) : rTupFz K [.ref p] H Q := ⟨p, ys, rfl, s, h⟩

/-! ### dict of such a tuple of pairs -/
def rDictFz (K : PySem.W.Frag) : List V → Hp → VK → Prop := fun xs H Q => ∃ (a : Addr) (ps : List Addr) (kvs : List (Key × V)), xs = [.ref a] ∧ Fz H a (ps.map V.ref) ∧ Paired (fun p kv => SqT K H p [kV kv.1, kv.2]) ps kvs ∧
    ∀ p, H p = none → Q (.ref p) (upd H p (.dK (mergeK [] kvs)))
theorem c_dictFz {X : Cx} {K : PySem.W.Frag} (hK : X.K = K) (hcalm : X.calm = true) : CallR X (.type "dict") (rDictFz K) := by
  subst hK
  intro pins s σ H xs us Q I r q
  obtain ⟨a, ps, kvs, ex, ⟨o, ho, hod⟩, hp, q⟩ := q
  subst ex
  obtain ⟨u, eu, rx⟩ := vals1 r
  subst eu
  cases rx
  obtain ⟨hoa, hz, its, rv, pl⟩ := I.hok a _ ho
  have ei := refs_at rv
  subst ei
  rw [List.length_map] at hz
  obtain ⟨prs, rel, hl, hpr⟩ := pairs_of I hp
  obtain ⟨o2, ho2, hc, n, hdat⟩ := pl
  rw [hoa] at ho2
  cases ho2
  have hps : (prs.map fun q => ((default : Value), q.2)).length = prs.length := List.length_map _
  have hun : ∀ (j : Nat) (q : Key × Value), prs[j]? = some q → ∃ (b : Addr) (u : Value), ps[j]? = some b ∧ IsTup s.heap b #[u, q.2] ∧ keyIs q.1 u = true := hpr
  -- the pairs as values
  have hex : ∃ pv : List (Value × Value), pv.length = prs.length ∧ ∀ (j : Nat) (k v : Value), pv[j]? = some (k, v) → ∃ b q, prs[j]? = some q ∧ q.2 = v ∧ ps[j]? = some b ∧ IsTup s.heap b #[k, v] ∧ keyIs q.1 k = true := by
    clear rel hps
    have key : ∀ (m : Nat), m ≤ prs.length → ∃ pv : List (Value × Value), pv.length = m ∧ ∀ (j : Nat) (k v : Value), pv[j]? = some (k, v) → ∃ b q, prs[j]? = some q ∧ q.2 = v ∧ ps[j]? = some b ∧ IsTup s.heap b #[k, v] ∧ keyIs q.1 k = true := by
      intro m
      induction m with
      | zero => exact fun _ => ⟨[], rfl, fun j k v e => by simp at e⟩
      | succ m ih =>
        intro hm
        obtain ⟨pv, e1, e2⟩ := ih (by omega)
        have hj : prs[m]? = some prs[m] := List.getElem?_eq_getElem (by omega)
        obtain ⟨b, u, h1, h2, h3⟩ := hun m _ hj
        refine ⟨pv ++ [(u, prs[m].2)], by rw [List.length_append, e1] <;> rfl, fun j k v e => ?_⟩
        by_cases c : j < m
        · rw [List.getElem?_append_left (by omega)] at e
          exact e2 j k v e
        · rw [List.getElem?_append_right (by omega), e1] at e
          have : j = m := by
            have := (List.getElem?_eq_some_iff.mp e).1
            rw [List.length_singleton] at this
            omega
          subst this
          rw [Nat.sub_self] at e
          cases Option.some.inj e
          exact ⟨b, prs[j], hj, rfl, h1, h2, h3⟩
    exact key _ (Nat.le_refl _)
  obtain ⟨pv, hpv, hpv2⟩ := hex
  have P := PySem.PairArg.tuple (prog := X.prog) (w := X.w) a (ps.map Value.ref).toArray (fun j => ps.getD j 0) pv
  refine PySem.call_dict_pairs (knd := mixKind X.prog X.w) (kvs := prs) P (I.ok.hd hcalm) ⟨⟨o, n, hoa, hc, hod, hdat⟩, ?_, ?_⟩ ⟨hpv.symm, ?_⟩ (by rw [hpv, hl]; exact hz) fun h' tk hd' k => ?_
  · rw [List.size_toArray, List.length_map, hpv, hl]
  · intro j k v e
    obtain ⟨b, q2, h1, h2, h3, h4, h5⟩ := hpv2 j k v e
    have e3 : ps.getD j 0 = b := by rw [List.getD_eq_getElem?_getD, h3] <;> rfl
    refine ⟨by show (ps.map Value.ref).toArray[j]? = some (Value.ref (ps.getD j 0)); rw [e3]; simp [h3], .inl ?_⟩
    show s.heap.IsTuple (ps.getD j 0) #[k, v]
    rw [e3]
    exact h4
  · intro j k v e
    obtain ⟨b, q2, h1, h2, h3, h4, h5⟩ := hpv2 j k v e
    exact ⟨q2.1, by rw [h1, ← h2], h5⟩
  · have hm : (s.heap.objs.size == sysModules) = false := beq_eq_false_iff_ne.mpr (Nat.ne_of_gt I.big)
    have hlen : (mergeK [] kvs).length ≤ sizeLine := by
      refine Nat.le_trans (length_mergeK kvs []) ?_
      rw [List.length_nil, Nat.zero_add, rel.length, hl]
      exact hz
    exact ⟨.ref s.heap.objs.size, upd H s.heap.objs.size (.dK (mergeK [] kvs)), I.laid (t' := tk) (fun b o e => k b o (fun h => nomatch h) e) (Nat.le_refl _) (show ObjOk X.prog X.w _ _ _ (.dK (mergeK [] kvs)) from ⟨hlen, hm, merged [] prs, KV.merge rel .nil, hd'⟩), rfl, q _ (I.hok.fresh (Nat.le_refl _))⟩
theorem rd_dictFz {K : PySem.W.Frag} {H : Hp} {Q : VK} {a : Addr} {ps : List Addr} {kvs : List (Key × V)} (s : Fz H a (ps.map V.ref)) (hp : Paired (fun p kv => SqT K H p [kV kv.1, kv.2]) ps kvs)
    (h : ∀ p, H p = none → Q (.ref p) (upd H p (.dK (mergeK [] kvs)))) : rDictFz K [.ref a] H Q := ⟨a, ps, kvs, rfl, s, hp, h⟩

/-! ### all -/
theorem c_all {X : Cx} {K : PySem.W.Frag} (h : X.K = K) (hc : X.calm = true) : CallR X (.builtin "all") (rAll K) := h ▸ cr_all hc
theorem c_any {X : Cx} {K : PySem.W.Frag} (h : X.K = K) (hc : X.calm = true) : CallR X (.builtin "any") (rAny K) := h ▸ cr_any hc
theorem rd_all {K : PySem.W.Frag} {H : Hp} {Q : VK} {a : Addr} {bs : List Bool} (s : SqL K H a (bs.map V.bl)) (h : Q (.bl (bs.all id)) H) : rAll K [.ref a] H Q := ⟨a, bs, rfl, s, h⟩
theorem rd_any {K : PySem.W.Frag} {H : Hp} {Q : VK} {a : Addr} {bs : List Bool} (s : SqL K H a (bs.map V.bl)) (h : Q (.bl (bs.any id)) H) : rAny K [.ref a] H Q := ⟨a, bs, rfl, s, h⟩

/-! ### repr of an int -/
def rReprI : List V → Hp → VK → Prop := fun xs H Q => ∃ i : Int, xs = [.int i] ∧ i.natAbs.log2 < 1920 ∧ Q (.str (toString i)) H
theorem c_reprI {X : Cx} : CallR X (.builtin "repr") rReprI := SkE.call_repr_int
theorem rd_reprI {i : Int} {H : Hp} {Q : VK} (h1 : i.natAbs < 10 ^ 12) (h : Q (.str (toString i)) H) : rReprI [.int i] H Q := ⟨i, rfl, log2_small h1, h⟩

/-! ### data without lists stay where tuples stay -/
mutual
def noL : PyData → Bool
  | .list _ => false
  | .dict _ => false
  | .tuple ds => noLs ds
  | _ => true
def noLs : List PyData → Bool
  | [] => true
  | d :: ds => noL d && noLs ds
end
mutual
theorem dp_mono {K : PySem.W.Frag} {H H' : Hp} (e : ∀ a xs, SqT K H a xs → SqT K H' a xs) : ∀ (d : PyData) (v : V), noL d = true → Dp K H v d → Dp K H' v d
  | .none, _, _, h => by cases h; exact .non
  | .bool b, _, _, h => by cases h; exact .bl b
  | .int i, _, _, h => by cases h; exact .int i
  | .str x, _, _, h => by cases h; exact .str x
  | .list _, _, c, _ => nomatch c
  | .tuple ds, _, c, h => by
    cases h with
    | tup hs ha => exact .tup (e _ _ hs) (dps_mono e ds _ c ha)
  | .dict _, _, c, _ => nomatch c
theorem dps_mono {K : PySem.W.Frag} {H H' : Hp} (e : ∀ a xs, SqT K H a xs → SqT K H' a xs) : ∀ (ds : List PyData) (vs : List V), noLs ds = true → DpAll K H vs ds → DpAll K H' vs ds
  | [], _, _, h => by cases h; exact .nil
  | d :: ds, _, c, h => by
    have c2 : noL d = true ∧ noLs ds = true := Bool.and_eq_true _ _ ▸ c
    cases h with
    | cons h1 h2 => exact .cons (dp_mono e d _ c2.1 h1) (dps_mono e ds _ c2.2 h2)
end
theorem noLs_all : ∀ {ds : List PyData}, (∀ d ∈ ds, noL d = true) → noLs ds = true
  | [], _ => rfl
  | d :: ds, h => by
    show (noL d && noLs ds) = true
    rw [h d List.mem_cons_self, noLs_all fun x hx => h x (List.mem_cons_of_mem _ hx)] <;> rfl

/-! ### walks over tuples of pairs -/
section
variable {K : PySem.W.Frag} {σ : L2.St} {H : Hp} {Q : VK} {tt : TT} {te : TE} {tb : TS} {D : Ends} {vs : List Nat} {j1 j2 k : Nat} {σx : V → V → L2.St} {a : Addr} {px py : Nat → V} {f : Nat → Bool} {g : Nat → V}
theorem lc_prT {xs : List V} (hk : k = 2) (hx : SqT K H a xs) (hz : xs.length ≤ 40000) (hp : ∀ i, i < xs.length → ∃ T, xs[i]? = some (.ref T) ∧ SqT K H T [px i, py i])
    (hσ : ∀ x y, ((wipe σ vs).set j1 (some x)).set j2 (some y) = σx x y) (hw : ∀ x y, wipe (σx x y) vs = wipe σ vs) (hs : ∀ i, i < xs.length → TurnP H tt te σx px py f g i)
    (hd : ∀ D H', Evl.Ex H H' → H D = none → H' D = some (.lst (((List.range xs.length).filter f).map g)) → Q (.ref D) H') : LcR (gTup K k (gCons (gName j1) (gCons (gName j2) gNil))) tt te vs σ Q (Itt K a) H := fun D hn =>
  lc_tup (xs := xs) (fun i H' => Evl.Ex H H' ∧ H' D = some (.lst (((List.range i).filter f).map g))) ⟨Evl.Ex.new hn, upd_same⟩ (fun i H' _ ⟨ex, _⟩ => Evl.ex_t ex hx) (fun i x H' hi p => by
    obtain ⟨e, ed⟩ := p
    have hil := (List.getElem?_eq_some_iff.mp hi).1
    obtain ⟨T, hT, sT⟩ := hp i hil
    rw [hT] at hi
    cases hi
    have hlen : (((List.range i).filter f).map g).length < 100000 := by
      rw [List.length_map]
      have h1 := List.length_filter_le f (List.range i)
      rw [List.length_range] at h1
      omega
    refine rd_gtup2 (x := px i) (y := py i) (Evl.ex_t e sT) hk (hσ _ _) ⟨hw _ _, hs i hil _ _ _ e (fun hf H3 e3 => ?_) fun hf H3 e3 => ?_⟩
    · refine ⟨_, e3 D _ ed, Evl.sz_lt hlen, Evl.Ex.mut (e.trans e3) hn, ?_⟩
      rw [upd_same, range_snoc, if_pos hf]
    · refine ⟨e.trans e3, ?_⟩
      rw [range_snoc, if_neg (by rw [hf]; decide), List.append_nil]
      exact e3 D _ ed) fun H' p => hd D H' p.1 hn p.2
theorem fr_tupP {xs : List V} {px py : Nat → V} (hk : k = 2) (Pv : Nat → L2.St → Hp → Prop) (h0 : Pv 0 σ H) (hl : ∀ i σ H, i ≤ xs.length → Pv i σ H → SqT K H a xs)
    (hs : ∀ i σ H, i < xs.length → Pv i σ H → ∃ T, xs[i]? = some (.ref T) ∧ SqT K H T [px i, py i] ∧ tb { D with nx := Pv (i + 1), ct := Pv (i + 1), bk := D.nx } ((σ.set j1 (some (px i))).set j2 (some (py i))) H) (hd : ∀ σ H, Pv xs.length σ H → D.nx σ H) :
    ForR (gTup K k (gCons (gName j1) (gCons (gName j2) gNil))) tb D σ (Itt K a) H := for_tup Pv h0 hl (fun i x σ H hi p => by
      obtain ⟨T, hT, sT, q⟩ := hs i σ H (List.getElem?_eq_some_iff.mp hi).1 p
      rw [hT] at hi
      cases hi
      exact rd_gtup2 sT hk rfl q) hd
/-- a comprehension over a range, nothing else being changed -/
theorem lc_fmR {lo : Int} {n j : Nat} {σx : V → L2.St} (f : Nat → Bool) (g : Nat → V) (hz : n ≤ 40000) (hσ : ∀ x, (wipe σ vs).set j (some x) = σx x) (hw : ∀ x, wipe (σx x) vs = wipe σ vs)
    (hs : ∀ i, i < n → ∀ (H' : Hp) (N : VK) (S : Hp → Prop), Evl.Ex H H' → (f i = true → ∀ H3, Evl.Ex H' H3 → N (g i) H3) → (f i = false → ∀ H3, Evl.Ex H' H3 → S H3) →
      tt (σx (.int (lo + i))) H' fun b H2 => if b = true then te (σx (.int (lo + i))) H2 N else S H2)
    (hd : ∀ D H', Evl.Ex H H' → H D = none → H' D = some (.lst (((List.range n).filter f).map g)) → Q (.ref D) H') : LcR (gName j) tt te vs σ Q (Itr lo n) H := fun D hn =>
  lc_range (fun i H' => Evl.Ex H H' ∧ H' D = some (.lst (((List.range i).filter f).map g))) ⟨Evl.Ex.new hn, upd_same⟩ (fun i H' hi p => by
    obtain ⟨e, ed⟩ := p
    have hlen : (((List.range i).filter f).map g).length < 100000 := by
      rw [List.length_map]
      have h1 := List.length_filter_le f (List.range i)
      rw [List.length_range] at h1
      omega
    rw [show gName j (.int (lo + i)) (wipe σ vs) H' = fun N => N (σx (.int (lo + i))) H' from funext fun N => by rw [← hσ (.int (lo + i))] <;> rfl]
    refine ⟨hw _, hs i hi _ _ _ e (fun hf H3 e3 => ?_) fun hf H3 e3 => ?_⟩
    · refine ⟨_, e3 D _ ed, Evl.sz_lt hlen, Evl.Ex.mut (e.trans e3) hn, ?_⟩
      rw [upd_same, range_snoc, if_pos hf]
    · refine ⟨e.trans e3, ?_⟩
      rw [range_snoc, if_neg (by rw [hf]; decide), List.append_nil]
      exact e3 D _ ed) fun H' p => hd D H' p.1 hn p.2
end
end Ea
set_option Elab.async false
set_option linter.all false
set_option maxRecDepth 100000
set_option maxHeartbeats 1000000
/-! enumerate of a text; list of a dict; walks over a locked dict's keys; triples. -/
namespace Ea
open PySem PySem.Spec PyProof.Rows L2
/-- the text z, each sign in a new pair -/
def IteS (z : Str) : It :=
  ⟨fun i _ => i < z.cps.size, fun i H v H' => ∃ T c, v = .ref T ∧ H T = none ∧ H' = upd H T (.tup [.int (i : Nat), .str ⟨#[c]⟩]) ∧ z.cps[i]? = some c, fun i _ => i = z.cps.size⟩
theorem turn_enumS {P : Program} {w : World} {K : PySem.W.Frag} {elts : List Expr} {kk : Nat} {tpos : Pos} (z : Str) (tz : Tok) (e it : Addr) :
    L2.Turn P w K (.Tuple elts kk tpos) (IteS z) [e, it] e (fun i h => (∃ old, IsEnum h e it ((i : Nat) : Int) old) ∧ h.IsStrIter it (strIterType z) z tz i ∧ e ≠ it) where
  mem := by simp
  obj := fun i h st b hb => by
    obtain ⟨⟨old, he⟩, ⟨o, ho, hc, hd⟩, _⟩ := st
    have e' : b = e ∨ b = it := by simpa using hb
    rcases e' with rfl | rfl
    · exact ⟨_, he, fun v q => nomatch q⟩
    · exact ⟨o, ho, fun v q => by rw [hd] at q; cases q⟩
  keep := fun i h h' st k => let ⟨⟨old, he⟩, hi, hne⟩ := st; ⟨⟨old, k e (by simp) _ he⟩, let ⟨o, ho, r⟩ := hi; ⟨o, k it (by simp) o ho, r⟩, hne⟩
  item := by
    intro X hP hw hK hc i pins s σ H E I hf st hg
    subst hP hw hK
    obtain ⟨⟨old, he⟩, hit, hne⟩ := st
    have hg : i < z.cps.size := hg
    obtain ⟨oi, hoi, hci, _⟩ := id hit
    have hel : e < s.heap.objs.size := Heap.lt_size he
    have hil : it < s.heap.objs.size := Heap.lt_size hoi
    refine wpAny_pyNext_enum_itemD (Draws.text (prog := X.prog) (w := X.w) (A := X.A.in1) (I.ok.hd hc) it z tz) he hit hg hne (by simp [hne]) fun x' h' tk hP ho st' hT hsz hk => ?_
    obtain ⟨c, u, hcx, rfl⟩ := hP
    refine ⟨_, rfl, wpAny_letOwnedTupleGo_enum (s := { s with heap := h', toks := tk + 1 }) ho fun h'' he' sb => ?_⟩
    have hT2 : h''.get? s.heap.objs.size = some { cls := .type "tuple", data := .seq #[.int i tk, .str ⟨#[c]⟩ u] } := (sb.2 _ (Nat.ne_of_gt hel)).trans hT
    have new : ObjOk X.prog X.w (upd H s.heap.objs.size (.tup [.int (i : Nat), .str ⟨#[c]⟩])) h'' s.heap.objs.size (.tup [.int (i : Nat), .str ⟨#[c]⟩]) :=
      ⟨by show 2 ≤ sizeLine; decide, [.int i tk, .str ⟨#[c]⟩ u], .cons ⟨_, rfl⟩ (.cons ⟨_, rfl⟩ .nil), ⟨_, hT2, rfl, _, rfl⟩⟩
    have I1 : Inv X pins σ (upd H s.heap.objs.size (.tup [.int (i : Nat), .str ⟨#[c]⟩])) { s with heap := h'', toks := tk + 1 } :=
      I.turnedNew (ch := [e, it]) (fun b ob hb q => (sb.2 b (fun z => hb (by simp [z]))).trans (hk b ob (fun z => hb (by simp [z])) (fun z => hb (by simp [z])) q)) hf (Nat.le_refl _) new
    refine ⟨.ref s.heap.objs.size, _, I1, rfl, ⟨_, c, rfl, I.hok.fresh (Nat.le_refl _), rfl, hcx⟩, ⟨⟨.str ⟨#[c]⟩ u, ?_⟩, (let ⟨o, ho, r⟩ := st'; ⟨o, (sb.2 it (Ne.symm hne)).trans ho, r⟩), hne⟩, fun b hb => ?_⟩
    · have e1 : ((i + 1 : Nat) : Int) = (i : Int) + 1 := by omega
      rw [e1]
      exact he'
    · have hb' : b < s.heap.objs.size := by
        have e' : b = e ∨ b = it := by simpa using hb
        rcases e' with rfl | rfl
        · exact hel
        · exact hil
      rw [upd_ne (Nat.ne_of_lt hb')]
      exact (hf b hb).1
  done := by
    intro X hP hw hK hc i pins s σ H E I hf st hg
    subst hP hw hK
    obtain ⟨⟨old, he⟩, hit, hne⟩ := st
    have hg : i = z.cps.size := hg
    obtain ⟨f0, f1, f2, f3, f4, f5⟩ := hf it (by simp)
    exact wpAny_pyNext_enum_endD (Draws.text (prog := X.prog) (w := X.w) (A := X.A.in1) (I.ok.hd hc) it z tz) he (hg ▸ hit) fun h' eb => ⟨rfl, I.turned (t' := s.toks) (fun b o hb q => eb b o hb q) f0 f1 f3 f4 f5⟩
  self := fun A i s Q E st h => let ⟨⟨_, he⟩, _⟩ := st; wpAny_pyIter_enum he h
def iEnumS (ta : TA) : TI := fun σ H R => ta σ H fun vs H1 => ∃ z, vs = [.str z] ∧ R (IteS z) H1
theorem pi_enumS {X : Cx} {e : Expr} {ta : TA} {p pos tpos : Pos} {elts : List Expr} {kk : Nat} (hg : L2.Gl X "enumerate") (hm : X.mg "enumerate" = none) (ha : PA X [e] ta) (hs : starEach [e] X.env = [(false, eval e X.env)] := by rfl) :
    PI X (.Tuple elts kk tpos) (.Call (.Name "enumerate" p) [e] [] pos) (iEnumS ta) := by
  refine ⟨fun pins s σ H R I h => ?_⟩
  refine Call_ (ld_blt I hg hm boot_enumerate (PyProof.Rows.callWith_type1 (thn (ha.run pos pins s σ H _ I h) fun us s1 ⟨vs, H1, I1, r1, q1⟩ => ?_) hs rfl))
  obtain ⟨z, ex, q⟩ := q1
  subst ex
  cases r1 with
  | cons r rr =>
    cases rr
    obtain ⟨tz, rfl⟩ := r
    refine call_enum1 (begins_text z tz) True.intro fun h' he hit hk => wpAny_pyIter_enum he ?_
    have I2 : Inv X pins σ H1 { s1 with heap := h' } := I1.kept (t' := s1.toks) hk
    refine ⟨s1.heap.objs.size + 1, [s1.heap.objs.size + 1, s1.heap.objs.size], _, _, H1, rfl, I2, turn_enumS z tz (s1.heap.objs.size + 1) s1.heap.objs.size, ⟨⟨.none, he⟩, ⟨_, hit, rfl, rfl⟩, Nat.succ_ne_self _⟩, fun b hb => ?_, q⟩
    have e' : b = s1.heap.objs.size + 1 ∨ b = s1.heap.objs.size := by simpa using hb
    have hle : s1.heap.objs.size ≤ b := by
      rcases e' with rfl | rfl
      · exact Nat.le_add_right _ _
      · exact Nat.le_refl _
    exact I1.fpOk hle (I1.hok.fresh hle)
theorem rd_iEnumS {ta : TA} {R : It → Hp → Prop} {σ : L2.St} {H : Hp} (h : ta σ H fun vs H1 => ∃ z, vs = [.str z] ∧ R (IteS z) H1) : iEnumS ta σ H R := h
section
variable {K : PySem.W.Frag} {σ : L2.St} {H : Hp} {Q : VK} {tt : TT} {te : TE} {vs : List Nat} {j1 j2 k : Nat} {σx : V → V → L2.St} {a b : Addr} {n : Nat} {px py : Nat → V} {f : Nat → Bool} {g : Nat → V} {J : It}
theorem lc_enumS {z : Str} (hk : k = 2) (hz : z.cps.size ≤ 40000) (hσ : ∀ x y, ((wipe σ vs).set j1 (some x)).set j2 (some y) = σx x y) (hw : ∀ x y, wipe (σx x y) vs = wipe σ vs)
    (f : Nat → Bool) (g : Nat → V) (hs : ∀ i, i < z.cps.size → TurnP H tt te σx (fun i => .int (i : Nat)) (fun i => .str ⟨#[z.cps.toList.getD i 0]⟩) f g i)
    (hd : ∀ D H', Evl.Ex H H' → H D = none → H' D = some (.lst (((List.range z.cps.size).filter f).map g)) → Q (.ref D) H') : LcR (gTup K k (gCons (gName j1) (gCons (gName j2) gNil))) tt te vs σ Q (IteS z) H :=
  lc_pairs hk hz (fun i H' e hi => hi) (fun H' e => rfl)
    (fun i H1 x H2 e hi hy => by
      obtain ⟨T, c, rfl, hT, rfl, h⟩ := hy
      refine ⟨T, rfl, hT, ?_⟩
      show _ = upd H1 T (.tup [.int (i : Nat), .str ⟨#[z.cps.toList.getD i 0]⟩])
      have e : z.cps.toList.getD i 0 = c := by
        rw [List.getD_eq_getElem?_getD, Array.getElem?_toList, h] <;> rfl
      rw [e]) hσ hw hs hd
end

/-! ### list of a dict with ints for keys -/
def KeysI (kvs : List (Key × V)) (ks : List Int) : Prop := kvs.map (·.1) = ks.map Sum.inl
def rListD : List V → Hp → VK → Prop := fun xs H Q => ∃ (a : Addr) (kvs : List (Key × V)) (ks : List Int), xs = [.ref a] ∧ Rd H a (.dK kvs) ∧ KeysI kvs ks ∧ ∀ p : Addr, H p = none → Q (.ref p) (upd H p (.lst (ks.map V.int)))
theorem c_listD {X : Cx} (hcalm : X.calm = true) : CallR X (.type "list") rListD := by
  intro pins s σ H xs us Q I r q
  obtain ⟨a, kvs, ks, ex, hd, hks, q⟩ := q
  subst ex
  obtain ⟨u, eu, rx⟩ := vals1 r
  subst eu
  cases rx
  obtain ⟨z, lo, vs, rel, dd⟩ := dk_rd I.hok hd
  obtain ⟨ep, hat⟩ := dd.dictAt
  have hkeys : vs.map (·.1) = ks.map Sum.inl := rel.keys.symm.trans hks
  have hl : vs.length = ks.length := by
    have e := congrArg List.length hkeys
    rw [List.length_map, List.length_map] at e
    exact e
  have h16 : vs.length ≤ sizeLine := by
    rw [← rel.length]
    exact z
  refine PySem.W.kdl_call (PySem.W.kdl_dict (knd := mixKind X.prog X.w) (kvs := vs) (ep := ep) lo) (I.ok.hd hcalm) hat h16 fun h' tk acc c' hk hS hacc => ?_
  have hal : acc.toList.length = ks.length := by rw [Array.length_toList, hacc.1, hl]
  have hI : IntsAre acc.toList ks := ints_each hal fun j v e => by
    obtain ⟨k, x, e1, e2⟩ := hacc.2 j v (by rw [← Array.getElem?_toList]; exact e)
    have e3 : (vs.map (·.1))[j]? = some k := by rw [List.getElem?_map, e1]; rfl
    rw [hkeys, List.getElem?_map] at e3
    cases e4 : ks[j]? with
    | none => rw [e4] at e3; cases e3
    | some y =>
      rw [e4] at e3
      have e5 : Sum.inl y = k := Option.some.inj e3
      subst e5
      rcases keyIs_shape (show keyIs (Sum.inl y) v = true from e2) with ⟨i, t, ek, ev⟩ | ⟨z, t, ek, ev⟩
      · cases ek
        exact ⟨y, t, rfl, ev⟩
      · cases ek
  refine ⟨.ref s.heap.objs.size, upd H s.heap.objs.size (.lst (ks.map V.int)), I.laid (t' := tk) hk (Nat.le_refl _)
    (show ObjOk X.prog X.w _ _ _ (.lst (ks.map V.int)) from ⟨by rw [List.length_map, ← hl]; exact h16, acc.toList, c', vals_of_ints hI, by rw [Array.toArray_toList]; exact hS⟩), rfl, q _ (I.hok.fresh (Nat.le_refl _))⟩
theorem rd_listD {H : Hp} {Q : VK} {a : Addr} {kvs : List (Key × V)} {ks : List Int} (h : H a = some (.dK kvs)) (hk : KeysI kvs ks) (q : ∀ p : Addr, H p = none → Q (.ref p) (upd H p (.lst (ks.map V.int)))) : rListD [.ref a] H Q := ⟨a, kvs, ks, rfl, .inl h, hk, q⟩

/-! ### keys of a dict -/
theorem rd_din {ty td : TE} {σ : L2.St} {H : Hp} {Q : VK} (h : ty σ H fun y H1 => td σ H1 fun x H2 => ∃ a o, x = .ref a ∧ DGet H2 a y o ∧ Q (.bl o.isSome) H2) : tDIn ty td σ H Q := h
theorem rd_dnotin {ty td : TE} {σ : L2.St} {H : Hp} {Q : VK} (h : ty σ H fun y H1 => td σ H1 fun x H2 => ∃ a o, x = .ref a ∧ DGet H2 a y o ∧ Q (.bl (!o.isSome)) H2) : tDNotIn ty td σ H Q := h
theorem val_some {kvs : List (Key × V)} {ks : List Int} {x : Int} (h : KeysI kvs ks) : (valV kvs (Sum.inl x)).isSome = decide (x ∈ ks) := by
  unfold valV
  rw [Option.isSome_map]
  have key : (kvs.find? fun kv => decide (kv.1 = Sum.inl x)).isSome = true ↔ x ∈ ks := by
    rw [List.find?_isSome]
    constructor
    · rintro ⟨kv, hm, e⟩
      have e2 : kv.1 = Sum.inl x := of_decide_eq_true e
      have h1 : kv.1 ∈ ks.map Sum.inl := h ▸ List.mem_map_of_mem hm
      obtain ⟨y, hy, e3⟩ := List.mem_map.mp h1
      rw [e2] at e3
      cases e3
      exact hy
    · intro hx
      have h1 : (Sum.inl x : Key) ∈ kvs.map (·.1) := h ▸ List.mem_map_of_mem hx
      obtain ⟨kv, hm, e⟩ := List.mem_map.mp h1
      exact ⟨kv, hm, decide_eq_true e⟩
  by_cases c : x ∈ ks
  · rw [decide_eq_true c]
    exact key.mpr c
  · rw [decide_eq_false c]
    cases e : (kvs.find? fun kv => decide (kv.1 = Sum.inl x)).isSome with
    | false => rfl
    | true => exact absurd (key.mp e) c
theorem KeysI.nil : KeysI [] [] := rfl
theorem KeysI.len {kvs : List (Key × V)} {ks : List Int} (h : KeysI kvs ks) : kvs.length = ks.length := by
  have e := congrArg List.length h
  rw [List.length_map, List.length_map] at e
  exact e
/-- what stands among the keys when x is put -/
def putI (ks : List Int) (x : Int) : List Int := if x ∈ ks then ks else ks ++ [x]
theorem putI_mem {ks : List Int} {x y : Int} : y ∈ putI ks x ↔ y ∈ ks ∨ y = x := by
  unfold putI
  by_cases c : x ∈ ks
  · rw [if_pos c]
    exact ⟨.inl, fun h => h.elim id fun e => e ▸ c⟩
  · rw [if_neg c, List.mem_append, List.mem_singleton]
theorem putI_nodup {ks : List Int} {x : Int} (h : ks.Nodup) : (putI ks x).Nodup := by
  unfold putI
  by_cases c : x ∈ ks
  · rw [if_pos c]
    exact h
  · rw [if_neg c, List.nodup_append]
    exact ⟨h, by simp, fun a ha b hb => by rw [List.mem_singleton.mp hb]; exact fun q => c (q ▸ ha)⟩
theorem KeysI.put {kvs : List (Key × V)} {ks : List Int} (h : KeysI kvs ks) (x : Int) (v : V) : KeysI (putK kvs (Sum.inl x) v) (putI ks x) := by
  unfold KeysI
  rw [keys_put]
  have e : ((kvs.any fun kv => decide (kv.1 = Sum.inl x)) = true) ↔ x ∈ ks := by
    rw [any_key, h]
    constructor
    · intro hm
      obtain ⟨y, hy, e⟩ := List.mem_map.mp hm
      cases e
      exact hy
    · exact fun hx => List.mem_map_of_mem hx
  unfold putI
  by_cases c : x ∈ ks
  · rw [if_pos (e.mpr c), if_pos c]
    exact h
  · rw [if_neg fun q => c (e.mp q), if_neg c, List.map_append, h] <;> rfl
theorem KeysI.get {kvs : List (Key × V)} {ks : List Int} {i : Nat} {k : Key} {v : V} (h : KeysI kvs ks) (e : kvs[i]? = some (k, v)) : ∃ x, k = Sum.inl x ∧ ks[i]? = some x := by
  have e1 : (kvs.map (·.1))[i]? = some k := by rw [List.getElem?_map, e] <;> rfl
  rw [h, List.getElem?_map] at e1
  obtain ⟨x, hx, e2⟩ := Option.map_eq_some_iff.mp e1
  exact ⟨x, e2.symm, hx⟩

/-! ### a dict made of another one's keys -/
theorem rd_lockE {t : TE} {σ : L2.St} {H : Hp} {Q : VK} (h : ∃ d u, H d = some u ∧ Mut (some u) ∧ ∀ od, t σ (upd H d (.frz od u)) fun v H' => H' d = some (.frz od u) ∧ Q v (upd H' d u)) : tLockE t σ H Q := h
theorem rd_iKeys {td : TE} {σ : L2.St} {H : Hp} {R : It → Hp → Prop} (h : td σ H fun x H1 => ∃ d o, x = .ref d ∧ ((∃ kvs, H1 d = some (.frz o (.dK kvs)) ∧ R (Itk d o kvs) H1) ∨ ∃ kvs, H1 d = some (.frz o (.dT kvs)) ∧ R (Itkt d o kvs) H1)) : iKeys td σ H R := h
section
variable {σ : L2.St} {H : Hp} {Q : VK} {tt : TT} {tk tv : TE} {vs : List Nat} {j : Nat} {σx : V → L2.St} {d : Addr} {od : Obj} {kvs : List (Key × V)} {ks : List Int}
abbrev TurnK (H : Hp) (tt : TT) (tk tv : TE) (σx : V → L2.St) (f : Int → Bool) (x : Int) : Prop :=
  ∀ (H' : Hp) (N : V → V → Hp → Prop) (S : Hp → Prop), Evl.Ex H H' → (f x = true → ∀ v H3, Evl.Ex H' H3 → N (.int x) v H3) → (f x = false → ∀ H3, Evl.Ex H' H3 → S H3) →
    tt (σx (.int x)) H' fun b H2 => if b = true then tk (σx (.int x)) H2 fun y H4 => tv (σx (.int x)) H4 fun z H5 => N y z H5 else S H2
/-- {k: .. for k in d if f k}: the new dict has the keys that f lets -/
theorem dc_keys (f : Int → Bool) (hd : H d = some (.frz od (.dK kvs))) (hk : KeysI kvs ks) (hz : ks.length ≤ 1000) (hn : ks.Nodup) (hσ : ∀ x, (wipe σ vs).set j (some x) = σx x) (hw : ∀ x, wipe (σx x) vs = wipe σ vs)
    (hs : ∀ x ∈ ks, TurnK H tt tk tv σx f x)
    (hq : ∀ D kvs' H', Evl.Ex H H' → H D = none → H' D = some (.dK kvs') → KeysI kvs' (ks.filter f) → Q (.ref D) H') : DcR (gName j) tt tk tv vs σ Q (Itk d od kvs) H := fun D hD => by
  have hl := hk.len
  refine ⟨fun i m H' => i + m = kvs.length ∧ Evl.Ex H H' ∧ ∃ kvs', H' D = some (.dK kvs') ∧ KeysI kvs' ((ks.take i).filter f), ⟨kvs.length, by omega, Evl.Ex.new hD, [], upd_same, rfl⟩, fun i m H' hW => ?_⟩
  obtain ⟨em, e, kvs', ed, hk'⟩ := hW
  by_cases hi : i < kvs.length
  · refine .inr ⟨⟨e _ _ hd, hi⟩, fun H3 => Evl.Ex H H3 ∧ ∃ kvs', H3 D = some (.dK kvs') ∧ KeysI kvs' ((ks.take (i + 1)).filter f), fun H3 h3 => ⟨m - 1, by omega, by omega, h3⟩, fun x H2 hy => ?_⟩
    obtain ⟨rfl, k, v, hkv, rfl⟩ := hy
    obtain ⟨y, rfl, hy⟩ := hk.get hkv
    show gName j (.int y) (wipe σ vs) H2 _
    rw [show gName j (.int y) (wipe σ vs) H2 = fun N => N (σx (.int y)) H2 from funext fun N => by rw [← hσ (.int y)] <;> rfl]
    have hm : y ∈ ks := List.mem_of_getElem? hy
    have ht : ks.take (i + 1) = ks.take i ++ [y] := by rw [List.take_add_one, hy] <;> rfl
    have hny : y ∉ (ks.take i).filter f := fun q => by
      have h1 := (List.mem_filter.mp q).1
      have h2 : (ks.take (i + 1)).Nodup := hn.sublist (List.take_sublist _ _)
      rw [ht, List.nodup_append] at h2
      exact h2.2.2 y h1 y (List.mem_singleton.mpr rfl) rfl
    have hlen : kvs'.length ≤ 1000 := by
      rw [hk'.len]
      have h1 := List.length_filter_le f (ks.take i)
      have h2 := List.length_take_le i ks
      have h3 : (ks.take i).length ≤ ks.length := by rw [List.length_take]; omega
      omega
    refine ⟨hw _, hs y hm H2 (fun yv z H5 => ∃ kvs k, yv = kV k ∧ H5 D = some (.dK kvs) ∧ kvs.length < sizeLine ∧ (Evl.Ex H (upd H5 D (.dK (putK kvs k z))) ∧ ∃ kvs', (upd H5 D (.dK (putK kvs k z))) D = some (.dK kvs') ∧ KeysI kvs' ((ks.take (i + 1)).filter f)))
      (fun H3 => Evl.Ex H H3 ∧ ∃ kvs', H3 D = some (.dK kvs') ∧ KeysI kvs' ((ks.take (i + 1)).filter f)) e (fun hf v H3 e3 => ?_) fun hf H3 e3 => ?_⟩
    · refine ⟨kvs', Sum.inl y, rfl, e3 _ _ ed, by rw [sizeLine_eq]; omega, Evl.Ex.mut (e.trans e3) hD, _, upd_same, ?_⟩
      have h1 := hk'.put y v
      unfold putI at h1
      rw [if_neg hny] at h1
      rw [ht, List.filter_append, List.filter_cons_of_pos hf, List.filter_nil]
      exact h1
    · refine ⟨e.trans e3, kvs', e3 _ _ ed, ?_⟩
      rw [ht, List.filter_append, List.filter_cons_of_neg (by rw [hf]; decide), List.filter_nil, List.append_nil]
      exact hk'
  · have hik : i = kvs.length := by omega
    subst hik
    rw [hl, List.take_of_length_le (Nat.le_refl _)] at hk'
    exact .inl ⟨⟨e _ _ hd, Nat.le_refl _⟩, hq D kvs' H' e hD ed hk'⟩
end
/-! ### triples -/
theorem rd_gtup3 {K : PySem.W.Frag} {σ σ' : L2.St} {H : Hp} {p : Addr} {x y z : V} {n i j k : Nat} {N : L2.St → Hp → Prop} (s : SqT K H p [x, y, z]) (hn : n = 3) (hs : ((σ.set i (some x)).set j (some y)).set k (some z) = σ') (h : N σ' H) :
    gTup K n (gCons (gName i) (gCons (gName j) (gCons (gName k) gNil))) (.ref p) σ H N := ⟨p, [x, y, z], rfl, s, hn.symm, x, [y, z], rfl, y, [z], rfl, z, [], rfl, rfl, by subst hs; exact h⟩
theorem rd_lockS {t : TS} {D : Ends} {σ : L2.St} {H : Hp} (h : tLock t D σ H) : tLock t D σ H := h
end Ea
set_option Elab.async false
set_option linter.all false
set_option maxRecDepth 100000
set_option maxHeartbeats 400000
/-! Comprehensions over rows of data: some left out, each turned into a row. -/
namespace Ea
open PySem PySem.Spec PyProof.Rows L2
theorem pairw_len {α β : Type} {R : α → β → Prop} : ∀ {l : List α} {m : List β}, Paired R l m → l.length = m.length
  | _, _, .nil => rfl
  | _, _, .cons _ t => congrArg (· + 1) (pairw_len t)
section
variable {K : PySem.W.Frag} {σ : L2.St} {H : Hp} {Q : VK} {tt : TT} {te : TE} {vs : List Nat} {j : Nat} {σx : V → L2.St} {a : Addr} {xs : List V} {ρ : Type} {F : ρ → PyData} {rs : List ρ} {f : ρ → Bool} {g : ρ → ρ}
theorem dpAll_at : ∀ {xs : List V} {ds : List PyData} {i : Nat} {x : V}, DpAll K H xs ds → xs[i]? = some x → ∃ d, ds[i]? = some d ∧ Dp K H x d
  | _, _, 0, x, .cons h _, e => by
    obtain rfl : _ = x := Option.some.inj e
    exact ⟨_, rfl, h⟩
  | _, _, i + 1, x, .cons _ h, e => dpAll_at (i := i) h e
  | _, _, i, _, .nil, e => by simp at e
theorem dpAll_size : ∀ {xs : List V} {ds : List PyData}, DpAll K H xs ds → xs.length = ds.length
  | _, _, .nil => rfl
  | _, _, .cons _ h => congrArg (· + 1) (dpAll_size h)
theorem dpAll_cat : ∀ {xs ys : List V} {ds es : List PyData}, DpAll K H xs ds → DpAll K H ys es → DpAll K H (xs ++ ys) (ds ++ es)
  | _, _, _, _, .nil, h => h
  | _, _, _, _, .cons h t, h2 => .cons h (dpAll_cat t h2)
/-- a turn over a row of data -/
abbrev TurnR (K : PySem.W.Frag) (H : Hp) (tt : TT) (te : TE) (σx : V → L2.St) (F : ρ → PyData) (f : ρ → Bool) (g : ρ → ρ) (r : ρ) : Prop :=
  ∀ (v : V) (H' : Hp) (N : VK) (S : Hp → Prop), Evl.Ex H H' → Dp K H' v (F r) → (f r = true → ∀ v' H3, Evl.Ex H' H3 → Dp K H3 v' (F (g r)) → N v' H3) → (f r = false → ∀ H3, Evl.Ex H' H3 → S H3) →
    tt (σx v) H' fun b H2 => if b = true then te (σx v) H2 N else S H2
def Cr (K : PySem.W.Frag) (H : Hp) (rs : List ρ) (F : ρ → PyData) (f : ρ → Bool) (g : ρ → ρ) (D : Addr) (i : Nat) (H' : Hp) : Prop :=
  H D = none ∧ Evl.Ex H H' ∧ ∃ acc, H' D = some (.lst acc) ∧ DpAll K H' acc ((((rs.take i).filter f).map g).map F)
theorem cr_turn {D : Addr} {i : Nat} {r : ρ} {v : V} {H' : Hp} (hF : ∀ r, noL (F r) = true) (hi : rs[i]? = some r) (hz : rs.length ≤ 40000) (ht : TurnR K H tt te σx F f g r) (hv : Dp K H v (F r)) (p : Cr K H rs F f g D i H') :
    tt (σx v) H' fun b H3 => if b = true then te (σx v) H3 fun y H4 => ∃ acc, H4 D = some (.lst acc) ∧ acc.length < sizeLine ∧ Cr K H rs F f g D (i + 1) (upd H4 D (.lst (acc ++ [y]))) else Cr K H rs F f g D (i + 1) H3 := by
  obtain ⟨e, ex, acc, ea, hd⟩ := p
  have hl : acc.length < 100000 := by
    have h0 := dpAll_size hd
    rw [List.length_map, List.length_map] at h0
    have h1 := List.length_filter_le f (rs.take i)
    have h3 := List.length_take (i := i) (l := rs)
    omega
  refine ht v H' _ _ ex (dp_ex ex _ _ hv) (fun hf v' H3 e3 hv' => ?_) fun hf H3 e3 => ?_
  · have eD := e3 D _ ea
    refine ⟨acc, eD, Evl.sz_lt hl, e, Evl.Ex.mut (ex.trans e3) e, acc ++ [v'], upd_same, ?_⟩
    have : ((some r).toList.filter f) = [r] := by simp [hf]
    rw [List.take_add_one, hi, List.filter_append, List.map_append, List.map_append, this]
    have hn : noLs (((((rs.take i).filter f).map g).map F) ++ [F (g r)]) = true := noLs_all fun d h => by
      rcases List.mem_append.mp h with h | h
      · obtain ⟨q, _, rfl⟩ := List.mem_map.mp h
        exact hF q
      · rw [List.mem_singleton.mp h]
        exact hF _
    exact dps_mono (fun _ _ t => tup_upd eD lst_not t) _ _ hn (dpAll_cat (dpAll_ex e3 _ _ hd) (.cons hv' .nil))
  · refine ⟨e, ex.trans e3, acc, e3 D _ ea, ?_⟩
    have : ((some r).toList.filter f) = [] := by simp [hf]
    rw [List.take_add_one, hi, List.filter_append, this, List.append_nil]
    exact dpAll_ex e3 _ _ hd
theorem lc_dpL (hF : ∀ r, noL (F r) = true) (f : ρ → Bool) (g : ρ → ρ) (hx : SqL K H a xs) (hd : DpAll K H xs (rs.map F)) (hz : rs.length ≤ 40000) (hσ : ∀ x, (wipe σ vs).set j (some x) = σx x) (hw : ∀ x, wipe (σx x) vs = wipe σ vs)
    (hs : ∀ r ∈ rs, TurnR K H tt te σx F f g r)
    (hq : ∀ D H' ys, Evl.Ex H H' → H D = none → H' D = some (.lst ys) → DpAll K H' ys (((rs.filter f).map g).map F) → Q (.ref D) H') : LcR (gName j) tt te vs σ Q (Itl K a) H := fun D hn =>
  lc_list (xs := xs) (Cr K H rs F f g D) ⟨hn, Evl.Ex.new hn, [], upd_same, .nil⟩ (fun i H' _ ⟨_, ex, _⟩ => Evl.ex_l ex hx) (fun i x H' hi p => by
    obtain ⟨d, h1, h2⟩ := dpAll_at hd hi
    rw [List.getElem?_map] at h1
    obtain ⟨r, hr, rfl⟩ := Option.map_eq_some_iff.mp h1
    rw [show gName j x (wipe σ vs) H' = fun N => N (σx x) H' from funext fun N => by rw [← hσ x] <;> rfl]
    exact ⟨hw _, cr_turn hF hr hz (hs r (List.mem_of_getElem? hr)) h2 p⟩) fun H' p => by
    obtain ⟨e, ex, acc, ea, hp⟩ := p
    have lx := dpAll_size hd
    rw [List.length_map] at lx
    rw [lx, List.take_of_length_le (Nat.le_refl _)] at hp
    exact hq D H' acc ex e ea hp
theorem lc_dpT (hF : ∀ r, noL (F r) = true) (f : ρ → Bool) (g : ρ → ρ) (hx : SqT K H a xs) (hd : DpAll K H xs (rs.map F)) (hz : rs.length ≤ 40000) (hσ : ∀ x, (wipe σ vs).set j (some x) = σx x) (hw : ∀ x, wipe (σx x) vs = wipe σ vs)
    (hs : ∀ r ∈ rs, TurnR K H tt te σx F f g r)
    (hq : ∀ D H' ys, Evl.Ex H H' → H D = none → H' D = some (.lst ys) → DpAll K H' ys (((rs.filter f).map g).map F) → Q (.ref D) H') : LcR (gName j) tt te vs σ Q (Itt K a) H := fun D hn =>
  lc_tup (xs := xs) (Cr K H rs F f g D) ⟨hn, Evl.Ex.new hn, [], upd_same, .nil⟩ (fun i H' _ ⟨_, ex, _⟩ => Evl.ex_t ex hx) (fun i x H' hi p => by
    obtain ⟨d, h1, h2⟩ := dpAll_at hd hi
    rw [List.getElem?_map] at h1
    obtain ⟨r, hr, rfl⟩ := Option.map_eq_some_iff.mp h1
    rw [show gName j x (wipe σ vs) H' = fun N => N (σx x) H' from funext fun N => by rw [← hσ x] <;> rfl]
    exact ⟨hw _, cr_turn hF hr hz (hs r (List.mem_of_getElem? hr)) h2 p⟩) fun H' p => by
    obtain ⟨e, ex, acc, ea, hp⟩ := p
    have lx := dpAll_size hd
    rw [List.length_map] at lx
    rw [lx, List.take_of_length_le (Nat.le_refl _)] at hp
    exact hq D H' acc ex e ea hp
end
end Ea
set_option Elab.async false
set_option linter.all false
set_option maxRecDepth 100000
set_option maxHeartbeats 400000
/-! A text turned round. -/
namespace Ea
open PySem PySem.Spec PyProof PyProof.Rows L2
theorem fm_congr {α β : Type} {f g : α → Option β} : ∀ {l : List α}, (∀ x ∈ l, f x = g x) → l.filterMap f = l.filterMap g
  | [], _ => rfl
  | x :: t, h => by
    rw [List.filterMap_cons, List.filterMap_cons, h x List.mem_cons_self, fm_congr fun y hy => h y (List.mem_cons_of_mem _ hy)]
theorem rev_picked (L : List Nat) : (List.range L.length).filterMap (fun k => L[L.length - 1 - k]?) = L.reverse := by
  have e : (List.range L.length).filterMap (fun k => L[L.length - 1 - k]?) = (List.range L.length).filterMap (fun k => some (L.reverse.getD k 0)) := by
    refine fm_congr fun k hk => ?_
    have hk := List.mem_range.mp hk
    rw [List.getElem?_eq_getElem (by omega), List.getD_eq_getElem?_getD, List.getElem?_eq_getElem (by rw [List.length_reverse]; exact hk), Option.getD_some, List.getElem_reverse]
  rw [e, List.filterMap_eq_map']
  refine List.ext_getElem (by simp) fun i h1 h2 => ?_
  rw [List.getElem_map, List.getElem_range, List.getD_eq_getElem?_getD, List.getElem?_eq_getElem h2, Option.getD_some]
def revT (z : Str) : Str := ⟨z.cps.toList.reverse.toArray⟩
theorem revT_length (z : Str) : (revT z).length = z.length := by
  show z.cps.toList.reverse.toArray.size = z.cps.size
  rw [List.size_toArray, List.length_reverse, Array.length_toList]
def tRevS (te : TE) : TE := fun σ H Q => te σ H fun x H1 => ∃ z, x = .str z ∧ z.length ≤ sizeLine ∧ Q (.str (revT z)) H1
theorem pe_revS {X : Cx} {e : Expr} {te : TE} {k : Nat} {p1 p2 p3 pos : Pos} (he : PE X e te) :
    PE X (e.Subscript (Expr.Slice none none (some (Expr.UnaryOp UnaryOp.USub (Expr.Constant (Const.int 1) k p1) p2)) p3) pos) (tRevS te) :=
  ⟨fun pins s σ H Q I h => Subscript_ (thn (he.run pins s σ H _ I h) fun v s1 ⟨x, H1, I1, r1, z, ex, hz, q⟩ => (by
    subst ex
    obtain ⟨t, rfl⟩ := r1
    have hst := po_some (X := X) (e := Expr.UnaryOp UnaryOp.USub (Expr.Constant (Const.int 1) k p1) p2) (pe_un un_neg pe_int)
    refine wpAny_Slice (thn (po_none.run pins s1 σ H1 (fun o H2 => o = none ∧ H2 = H1) I1 ⟨rfl, rfl⟩) fun vl s2 ⟨l, H2, I2, pl, el, e2⟩ => ?_)
    subst el e2
    refine thn (po_none.run pins s2 σ H2 (fun o H3 => o = none ∧ H3 = H2) I2 ⟨rfl, rfl⟩) fun vu s3 ⟨u, H3, I3, pu, eu, e3⟩ => ?_
    subst eu e3
    refine thn (hst.run pins s3 σ H3 (fun o H4 => o = some (-1) ∧ H4 = H3) I3 ?hp) fun vs s4 ⟨st, H4, I4, ps, es, e4⟩ => ?hq
    case hp => exact rd_part (rd_un (rd_c (rd_U (rd_parti ⟨rfl, rfl⟩))))
    case hq =>
    subst es e4
    have I5 := Inv.kept (t' := s4.toks) I4 fun b ob q => Heap.get?_push_of_some { cls := Value.type "slice", data := Data.fields #[vl, vu, vs] } q
    cases pl
    cases pu
    cases ps with
    | int _ ts =>
    refine tail_any (T := "str") (id := "str.__getitem__") ?ht ?hk ?hg rfl
    case ht => exact rfl
    case hk => exact F.slot_str_getitem.lookup
    case hg =>
    refine wpAny_getItem_str_slice (l := none) (u := none) (st := some (-1, ts)) ?hs rfl ?hm
    case hs => exact Heap.IsSliceOf.new s4.heap Value.none Value.none (Value.int (-1) ts)
    case hm =>
    have hc : ¬ (((Option.map (fun x : Int × Tok => x.fst) (some ((-1 : Int), ts))).getD 1 == 1 && (slicePicked z none none (some (-1, ts))).length == z.length) = true) := fun h => by
      have h := (Bool.and_eq_true _ _ |>.mp h).1
      cases h
    have ez : (⟨(List.filterMap (fun i => z.cps[i]?) (slicePicked z none none (some (-1, ts)))).toArray⟩ : Str) = revT z := by
      have e1 : slicePicked z none none (some (-1, ts)) = (List.range z.length).map fun k => z.length - 1 - k := picked_rev z.length
      have e2 : (fun i => z.cps[i]?) = fun i => z.cps.toList[i]? := funext fun i => (Array.getElem?_toList ..).symm
      rw [e1, List.filterMap_map, e2]
      unfold revT
      have := rev_picked z.cps.toList
      have hl : z.cps.toList.length = z.length := rfl
      rw [hl] at this
      rw [← this] <;> rfl
    unfold sliceMade
    rw [if_neg hc, ez]
    exact ⟨by rw [revT_length]; exact hz, .str (revT z), H4, I5.tok _, ⟨_, rfl⟩, q⟩))⟩
theorem rd_revS {te : TE} {σ : L2.St} {H : Hp} {Q : VK} (h : te σ H fun x H1 => ∃ z, x = .str z ∧ z.length ≤ sizeLine ∧ Q (.str (revT z)) H1) : tRevS te σ H Q := h
end Ea
set_option Elab.async false
set_option linter.all false
set_option maxRecDepth 100000
set_option maxHeartbeats 400000
/-! Data of all kinds, dicts too: what it is, shown; a list beside the empty one; a tuple turned round. -/
namespace Ea
open PySem PySem.Spec PyProof PyProof.Rows L2

/-! ### xs != [], whatever stands in xs -/
def rNe0 (K : PySem.W.Frag) : R2 := fun x y H Q => ∃ a b xs, x = .ref a ∧ y = .ref b ∧ SqL K H a xs ∧ SqL K H b [] ∧ Q (.bl (!xs.isEmpty)) H
theorem op_ne0 {X : Cx} {K : PySem.W.Frag} (hK : X.K = K) (hu : X.A.units + 64 < cLine) : OpR X (compareOp .NotEq) (rNe0 K) := by
  subst hK
  intro pins s σ H x y v u Q I rx ry h
  obtain ⟨a, b, xs, rfl, rfl, ha, hb, q⟩ := h
  cases rx
  cases ry
  obtain ⟨its, r, hp, hz⟩ := I.list ha
  obtain ⟨its2, r2, hp2, _⟩ := I.list hb
  cases r2
  have hlen := r.length
  have z : SeqAt.RcNeAt X.A s (.ref a) (.ref b) (!xs.isEmpty) := by
    cases xs with
    | nil =>
      cases r
      exact SeqAt.RcNeAt.lists (e := fun _ => true) hp.isList hp2.isList rfl (by omega) fun j h1 => absurd h1 (Nat.not_lt_zero _)
    | cons x t =>
      refine SeqAt.RcNeAt.lists_lengths hp.isList hp2.isList ?_ (by omega)
      rw [bne_iff_ne]
      simp only [List.size_toArray, List.length_nil, List.length_cons] at hlen ⊢
      omega
  exact z X.prog X.w _ _ ⟨.bl _, H, I, rfl, q⟩
theorem rd_ne0 {K : PySem.W.Frag} {H : Hp} {Q : VK} {a b : Addr} {xs : List V} (ha : SqL K H a xs) (hb : SqL K H b []) (q : Q (.bl (!xs.isEmpty)) H) : rNe0 K (.ref a) (.ref b) H Q := ⟨a, b, xs, rfl, rfl, ha, hb, q⟩

/-! ### a list that is made is not the table of modules -/
def tLstZ (t : TA) : TE := fun σ H Q => t σ H fun xs H1 => xs.length ≤ sizeLine ∧ ∀ p, H1 p = none → p ≠ sysModules → Q (.ref p) (upd H1 p (.lst xs))
theorem pe_lstZ {X : Cx} {es : List Expr} {t : TA} {pos : Pos} (h : PA X es t) : PE X (.List es pos) (tLstZ t) := by
  refine ⟨fun pins s σ H Q I hq => ?_⟩
  refine wpAny_List_spliced (thn (h.run pos pins s σ H _ I hq) fun us s1 ⟨xs, H1, I1, r, z, q⟩ => ⟨by rw [← r.length]; exact z, ?_⟩)
  have hf : H1 s1.heap.objs.size = none := I1.hok.fresh (Nat.le_refl _)
  refine ⟨.ref s1.heap.objs.size, upd H1 s1.heap.objs.size (.lst xs), I1.laid (t' := s1.toks) (fun b u e => Heap.get?_push_of_some _ e) (Nat.le_refl _) ?_, rfl, q _ hf (Nat.ne_of_gt I1.big)⟩
  exact ⟨z, us, 0, r, Heap.get?_push_size _ rfl⟩
theorem rd_lstZ {t : TA} {σ : L2.St} {H : Hp} {Q : VK} (h : t σ H fun xs H1 => xs.length ≤ sizeLine ∧ ∀ p, H1 p = none → p ≠ sysModules → Q (.ref p) (upd H1 p (.lst xs))) : tLstZ t σ H Q := h

/-! ### data with dicts -/
def kD : Key → PyData
  | .inl i => .int i
  | .inr x => .str x
mutual
inductive Dz (K : PySem.W.Frag) (H : Hp) : V → PyData → Prop
  | non : Dz K H .non .none
  | bl (b : Bool) : Dz K H (.bl b) (.bool b)
  | int (i : Int) : Dz K H (.int i) (.int i)
  | str (x : Str) : Dz K H (.str x) (.str x)
  | lst {a : Addr} {xs : List V} {ds : List PyData} : a ≠ sysModules → SqL K H a xs → DzAll K H xs ds → Dz K H (.ref a) (.list ds)
  | tup {a : Addr} {xs : List V} {ds : List PyData} : SqT K H a xs → DzAll K H xs ds → Dz K H (.ref a) (.tuple ds)
  | dic {a : Addr} {kvs : List (Key × Int)} : H a = some (.dK (kvs.map fun kv => (kv.1, V.int kv.2))) → Dz K H (.ref a) (.dict (kvs.map fun kv => (kD kv.1, .int kv.2)))
inductive DzAll (K : PySem.W.Frag) (H : Hp) : List V → List PyData → Prop
  | nil : DzAll K H [] []
  | cons {v : V} {vs : List V} {d : PyData} {ds : List PyData} : Dz K H v d → DzAll K H vs ds → DzAll K H (v :: vs) (d :: ds)
end
theorem key_rel {k : Key} {v : Value} (h : keyIs k v = true) : RelV (kV k) v := by
  rcases keyIs_shape h with ⟨i, t, rfl, rfl⟩ | ⟨x, t, rfl, rfl⟩
  · exact ⟨_, rfl⟩
  · exact ⟨_, rfl⟩
theorem key_reads {h : Heap} {k : Key} {v : Value} (e : keyIs k v = true) : Reads h v (kD k) [] := by
  rcases keyIs_shape e with ⟨i, t, rfl, rfl⟩ | ⟨x, t, rfl, rfl⟩
  · exact Reads.int i t
  · exact Reads.str x t
theorem reads_val {h : Heap} {v u : Value} {i : Int} (e : v = u) (r : RelV (.int i) u) : Reads h v (.int i) [] := by
  obtain ⟨t, r⟩ := r
  rw [e, r]
  exact Reads.int i t
theorem pairs_reads {h : Heap} {P : Program} {w : World} : ∀ (kvs : List (Key × Int)) (es : List DictEntry) (vs : List (Key × Value)), PySem.Pairs (mixKind P w) es vs → KV (kvs.map fun kv => (kv.1, V.int kv.2)) vs →
    ReadsAll h (es.map (·.key)) ((kvs.map fun kv => (kD kv.1, PyData.int kv.2)).map (·.1)) [] ∧ ReadsAll h (es.map (·.val)) ((kvs.map fun kv => (kD kv.1, PyData.int kv.2)).map (·.2)) [] := by
  intro kvs
  induction kvs with
  | nil =>
    intro es vs hp hk
    cases hk
    cases hp
    exact ⟨.nil, .nil⟩
  | cons kv kvs ih =>
    intro es vs hp hk
    cases hk with
    | cons r s =>
      cases hp with
      | cons h1 h2 t =>
        obtain ⟨a, b⟩ := ih _ _ t s
        obtain ⟨r1, r2⟩ := r
        rw [← r1] at h1
        exact ⟨ReadsAll.cons (as := []) (bs := []) (key_reads h1) a, ReadsAll.cons (as := []) (bs := []) (reads_val h2 r2) b⟩
section
variable {X : Cx} {pins : List (Addr × Obj)} {σ : L2.St} {H : Hp} {s : Shared}
mutual
theorem Dz.reads (I : Inv X pins σ H s) : ∀ (d : PyData) (v : V) (u : Value), Dz X.K H v d → RelV v u → ∃ as, Reads s.heap u d as ∧ sysModules ∉ as
  | .none, _, _, h, r => by
    cases h
    cases r
    exact ⟨_, Reads.none, nofun⟩
  | .bool b, _, _, h, r => by
    cases h
    cases r
    exact ⟨_, Reads.bool b, nofun⟩
  | .int i, _, _, h, r => by
    cases h
    obtain ⟨t, rfl⟩ := r
    exact ⟨_, Reads.int i t, nofun⟩
  | .str x, _, _, h, r => by
    cases h
    obtain ⟨t, rfl⟩ := r
    exact ⟨_, Reads.str x t, nofun⟩
  | .list ds, _, _, h, r => by
    cases h with
    | lst hn hs ha =>
      cases r
      obtain ⟨its, rv, ⟨o, n, ho, hc, _, hd⟩, _⟩ := I.list hs
      obtain ⟨as, hr, hm⟩ := Dz.readsAll I ds _ its ha rv
      exact ⟨_, Reads.list ho hc hd hr, fun z => (List.mem_cons.mp z).elim (fun e => hn e.symm) hm⟩
  | .tuple ds, _, _, h, r => by
    cases h with
    | tup hs ha =>
      cases r
      obtain ⟨its, rv, ⟨o, ho, hc, n, hd⟩, _⟩ := I.tuple hs
      obtain ⟨as, hr, hm⟩ := Dz.readsAll I ds _ its ha rv
      exact ⟨_, Reads.tuple ho hc hd hr, hm⟩
  | .dict ds, _, _, h, r => by
    cases h with
    | dic hs =>
      cases r
      obtain ⟨_, hn, vs, rel, o, es, ep, h1, h2, h3, _, hp, _⟩ := dk_of I.hok hs
      obtain ⟨z1, z2⟩ := pairs_reads (h := s.heap) _ _ _ hp rel
      refine ⟨_, Reads.dict h1 h2.1 h3 z1 z2, fun z => ?_⟩
      have z : sysModules ∈ [_] := z
      exact (beq_eq_false_iff_ne.mp hn) (List.mem_singleton.mp z).symm
theorem Dz.readsAll (I : Inv X pins σ H s) : ∀ (ds : List PyData) (vs : List V) (us : List Value), DzAll X.K H vs ds → Vals vs us → ∃ as, ReadsAll s.heap us ds as ∧ sysModules ∉ as
  | [], _, _, h, r => by
    cases h
    cases r
    exact ⟨_, ReadsAll.nil, nofun⟩
  | d :: ds, _, _, h, r => by
    cases h with
    | cons h1 h2 =>
      cases r with
      | cons r1 r2 =>
        obtain ⟨as, q1, m1⟩ := Dz.reads I d _ _ h1 r1
        obtain ⟨bs, q2, m2⟩ := Dz.readsAll I ds _ _ h2 r2
        exact ⟨_, ReadsAll.cons q1 q2, fun z => (List.mem_append.mp z).elim m1 m2⟩
end
end
/-- a datum of any kind -/
def Dv (K : PySem.W.Frag) (H : Hp) (v : V) (d : PyData) : Prop := Dp K H v d ∨ Dz K H v d
mutual
theorem Dp.noDict {K : PySem.W.Frag} {H : Hp} : ∀ (d : PyData) (v : V), Dp K H v d → d.hasDict = false
  | .none, _, _ => rfl
  | .bool _, _, _ => rfl
  | .int _, _, _ => rfl
  | .str _, _, _ => rfl
  | .list ds, _, h => by
    cases h with
    | lst _ ha => exact Dp.noDictAll ds _ ha
  | .tuple ds, _, h => by
    cases h with
    | tup _ ha => exact Dp.noDictAll ds _ ha
  | .dict _, _, h => by cases h
theorem Dp.noDictAll {K : PySem.W.Frag} {H : Hp} : ∀ (ds : List PyData) (vs : List V), DpAll K H vs ds → PyData.hasDictAll ds = false
  | [], _, _ => rfl
  | d :: ds, _, h => by
    cases h with
    | cons h1 h2 =>
      show (d.hasDict || PyData.hasDictAll ds) = false
      rw [Dp.noDict d _ h1, Dp.noDictAll ds _ h2] <;> rfl
end
theorem Dv.reads {X : Cx} {pins : List (Addr × Obj)} {σ : L2.St} {H : Hp} {s : Shared} (I : Inv X pins σ H s) {d : PyData} {v : V} {u : Value} (h : Dv X.K H v d) (r : RelV v u) :
    ∃ as, Reads s.heap u d as ∧ (d.hasDict = true → sysModules ∉ as) := by
  rcases h with h | h
  · obtain ⟨as, q⟩ := Dp.reads I d v u h r
    exact ⟨as, q, fun z => absurd z (by rw [Dp.noDict d v h]; decide)⟩
  · obtain ⟨as, q, m⟩ := Dz.reads I d v u h r
    exact ⟨as, q, fun _ => m⟩
/-! ### data are shown -/
structure Fair (n k : Nat) (d : PyData) : Prop where
  bulk : d.bulk ≤ n
  depth : d.depth ≤ k
  show_ : d.showable = true
  short : d.leavesShort 40 = true
structure FairAll (n k : Nat) (ds : List PyData) : Prop where
  bulk : PyData.bulkAll ds ≤ n
  depth : PyData.depthAll ds ≤ k
  show_ : PyData.showableAll ds = true
  short : PyData.leavesShortAll 40 ds = true
theorem Fair.mono {n k m j : Nat} {d : PyData} (h : Fair n k d) (a : n ≤ m) (b : k ≤ j) : Fair m j d := ⟨Nat.le_trans h.bulk a, Nat.le_trans h.depth b, h.show_, h.short⟩
theorem FairAll.mono {n k m j : Nat} {d : List PyData} (h : FairAll n k d) (a : n ≤ m) (b : k ≤ j) : FairAll m j d := ⟨Nat.le_trans h.bulk a, Nat.le_trans h.depth b, h.show_, h.short⟩
theorem FairAll.nil {k : Nat} : FairAll 0 k [] := ⟨Nat.le_refl _, Nat.zero_le _, rfl, rfl⟩
theorem FairAll.cons {n m k : Nat} {d : PyData} {ds : List PyData} (h : Fair n k d) (hs : FairAll m k ds) : FairAll (n + 1 + m) k (d :: ds) := by
  refine ⟨?_, ?_, ?_, ?_⟩
  · show d.bulk + 1 + PyData.bulkAll ds ≤ _
    have := h.bulk
    have := hs.bulk
    omega
  · show max d.depth (PyData.depthAll ds) ≤ _
    have := h.depth
    have := hs.depth
    omega
  · show (d.showable && PyData.showableAll ds) = true
    rw [h.show_, hs.show_] <;> rfl
  · show (d.leavesShort 40 && PyData.leavesShortAll 40 ds) = true
    rw [h.short, hs.short] <;> rfl
theorem Fair.tup {n k : Nat} {ds : List PyData} (h : FairAll n k ds) : Fair n (k + 1) (.tuple ds) := ⟨h.bulk, Nat.succ_le_succ h.depth, h.show_, h.short⟩
theorem Fair.lst {n k : Nat} {ds : List PyData} (h : FairAll n k ds) : Fair n (k + 1) (.list ds) := ⟨h.bulk, Nat.succ_le_succ h.depth, h.show_, h.short⟩
mutual
theorem short_mono : ∀ d : PyData, d.leavesShort 13 = true → d.leavesShort 40 = true
  | .none, _ => rfl
  | .bool _, _ => rfl
  | .int i, h => decide_eq_true (Nat.le_trans (of_decide_eq_true h) (by decide))
  | .str _, h => h
  | .list xs, h => short_monoAll xs h
  | .tuple xs, h => short_monoAll xs h
  | .dict xs, h => short_monoKv xs h
theorem short_monoAll : ∀ ds : List PyData, PyData.leavesShortAll 13 ds = true → PyData.leavesShortAll 40 ds = true
  | [], _ => rfl
  | d :: ds, h => by
    have h : (d.leavesShort 13 && PyData.leavesShortAll 13 ds) = true := h
    rw [Bool.and_eq_true] at h
    show (d.leavesShort 40 && PyData.leavesShortAll 40 ds) = true
    rw [short_mono d h.1, short_monoAll ds h.2] <;> rfl
theorem short_monoKv : ∀ ds : List (PyData × PyData), PyData.leavesShortKv 13 ds = true → PyData.leavesShortKv 40 ds = true
  | [], _ => rfl
  | (k, v) :: ds, h => by
    have h : (k.leavesShort 13 && v.leavesShort 13 && PyData.leavesShortKv 13 ds) = true := h
    rw [Bool.and_eq_true, Bool.and_eq_true] at h
    show (k.leavesShort 40 && v.leavesShort 40 && PyData.leavesShortKv 40 ds) = true
    rw [short_mono k h.1.1, short_mono v h.1.2, short_monoKv ds h.2] <;> rfl
end
theorem Nice.fair {n k : Nat} {d : PyData} (h : Nice n k d) : Fair n k d := ⟨h.bulk, h.depth, h.show_, short_mono d h.short⟩
theorem Fair.fits {n k : Nat} {d : PyData} (h : Fair n k d) (hn : n ≤ 2 ^ 18) : d.shown.length ≤ sizeLine := by
  have z := PyData.shown_le_bulk 40 (by decide) d h.short
  have hb := h.bulk
  rw [sizeLine_eq]
  omega
def rReprV (K : PySem.W.Frag) : List V → Hp → VK → Prop := fun xs H Q => ∃ (x : V) (d : PyData), xs = [x] ∧ Dv K H x d ∧ d.showable = true ∧ d.depth ≤ 40 ∧ d.shown.length ≤ sizeLine ∧ Q (.str d.shown) H
theorem c_reprV {X : Cx} {K : PySem.W.Frag} (hK : X.K = K) (hg : X.A.guards = some []) (hu : X.A.units + 64 < cLine) : CallR X (.builtin "repr") (rReprV K) := by
  subst hK
  intro pins s σ H xs us Q I r h
  obtain ⟨x, d, rfl, hd, h1, h4, h5, q⟩ := h
  obtain ⟨u, rfl, ru⟩ := vals1 r
  obtain ⟨as, rd, hm⟩ := hd.reads I ru
  cases rd with
  | none => exact P.repr_of_none ⟨.str _, H, I.tok _, ⟨_, rfl⟩, q⟩
  | bool b => exact P.repr_of_bool ⟨.str _, H, I.tok _, ⟨_, rfl⟩, q⟩
  | int i t => exact P.repr_of_int (of_decide_eq_true h1) ⟨.str _, H, I.tok _, ⟨_, rfl⟩, q⟩
  | str y t => exact P.repr_of_str (hsz := h5) ⟨.str _, H, I.tok _, ⟨_, rfl⟩, q⟩
  | list a b c e => exact repr_of_reads' (.list a b c e) h1 hm hg (by omega) (fun _ _ e => e) (fun h' tk u hk => ⟨.str _, H, I.kept hk, ⟨_, rfl⟩, q⟩) h5
  | tuple a b c e => exact repr_of_reads' (.tuple a b c e) h1 hm hg (by omega) (fun _ _ e => e) (fun h' tk u hk => ⟨.str _, H, I.kept hk, ⟨_, rfl⟩, q⟩) h5
  | dict a b c e f => exact repr_of_reads' (.dict a b c e f) h1 hm hg (by omega) (fun _ _ e => e) (fun h' tk u hk => ⟨.str _, H, I.kept hk, ⟨_, rfl⟩, q⟩) h5
theorem rd_reprV {K : PySem.W.Frag} {H : Hp} {Q : VK} {x : V} {d : PyData} {n k : Nat} (hx : Dv K H x d) (h : Fair n k d) (hn : n ≤ 2 ^ 18) (hk : k ≤ 40) (q : Q (.str d.shown) H) : rReprV K [x] H Q :=
  ⟨x, d, rfl, hx, h.show_, Nat.le_trans h.depth hk, h.fits hn, q⟩
/-! ### of which class a datum is -/
def tyD : PyData → String
  | .none => "NoneType"
  | .bool _ => "bool"
  | .int _ => "int"
  | .str _ => "str"
  | .list _ => "list"
  | .tuple _ => "tuple"
  | .dict _ => "dict"
theorem ty_l {K : PySem.W.Frag} {H : Hp} {a : Addr} {xs : List V} (h : SqL K H a xs) : TyX K H (.ref a) (.type "list") := by
  rcases h with h | ⟨o, _, _, hk, hc, _⟩
  · rcases h with h | ⟨o, h⟩
    · exact .base (.lst h)
    · exact .base (.frz h)
  · exact .kList hk hc
theorem ty_t {K : PySem.W.Frag} {H : Hp} {a : Addr} {xs : List V} (h : SqT K H a xs) : TyX K H (.ref a) (.type "tuple") := by
  rcases h with h | ⟨o, _, _, hk, hc, _⟩
  · rcases h with h | ⟨o, h⟩
    · exact .base (.tup h)
    · exact .fTuple h
  · exact .kTuple hk hc
theorem Dv.ty {K : PySem.W.Frag} {H : Hp} {v : V} {d : PyData} (h : Dv K H v d) : TyX K H v (.type (tyD d)) := by
  rcases h with h | h
  · cases h with
    | non => exact .base .non
    | bl b => exact .base (.bl b)
    | int i => exact .base (.int i)
    | str x => exact .base (.str x)
    | lst h _ => exact ty_l h
    | tup h _ => exact ty_t h
  · cases h with
    | non => exact .base .non
    | bl b => exact .base (.bl b)
    | int i => exact .base (.int i)
    | str x => exact .base (.str x)
    | lst _ h _ => exact ty_l h
    | tup h _ => exact ty_t h
    | dic h => exact .base (.dK h)
theorem c_isi {X : Cx} {K : PySem.W.Frag} (hK : X.K = K) : CallR X (.builtin "isinstance") (rIsi K) := hK ▸ call_isi
/-- isinstance(x, T), T a built-in type -/
def isD (T : String) (d : PyData) : Bool := (kitB (tyD d) T).getD false
theorem rd_isD {K : PySem.W.Frag} {H : Hp} {Q : VK} {v : V} {d : PyData} {T : String} (h : Dv K H v d) (hT : ∀ t ∈ ["NoneType", "bool", "int", "str", "list", "tuple", "dict"], (kitB t T).isSome = true) (q : Q (.bl (isD T d)) H) :
    rIsi K [v, .ty T] H Q := by
  have hs : (kitB (tyD d) T).isSome = true := hT _ (by cases d <;> simp [tyD])
  refine ⟨v, .ty T, .type (tyD d), .type T, isD T d, rfl, .ty T, h.ty, kit_ty ?_, q⟩
  unfold isD
  obtain ⟨b, e⟩ := Option.isSome_iff_exists.mp hs
  rw [e] <;> rfl
/-! ### data stay -/
mutual
theorem dz_ex {K : PySem.W.Frag} {H H' : Hp} (e : Evl.Ex H H') : ∀ (d : PyData) (v : V), Dz K H v d → Dz K H' v d
  | .none, _, h => by
    cases h
    exact .non
  | .bool b, _, h => by
    cases h
    exact .bl b
  | .int i, _, h => by
    cases h
    exact .int i
  | .str x, _, h => by
    cases h
    exact .str x
  | .list ds, _, h => by
    cases h with
    | lst hn hs ha => exact .lst hn (Evl.ex_l e hs) (dzAll_ex e ds _ ha)
  | .tuple ds, _, h => by
    cases h with
    | tup hs ha => exact .tup (Evl.ex_t e hs) (dzAll_ex e ds _ ha)
  | .dict ds, _, h => by
    cases h with
    | dic hs => exact .dic (e _ _ hs)
theorem dzAll_ex {K : PySem.W.Frag} {H H' : Hp} (e : Evl.Ex H H') : ∀ (ds : List PyData) (vs : List V), DzAll K H vs ds → DzAll K H' vs ds
  | [], _, h => by
    cases h
    exact .nil
  | d :: ds, _, h => by
    cases h with
    | cons h1 h2 => exact .cons (dz_ex e d _ h1) (dzAll_ex e ds _ h2)
end
theorem Dv.ex {K : PySem.W.Frag} {H H' : Hp} (e : Evl.Ex H H') {d : PyData} {v : V} (h : Dv K H v d) : Dv K H' v d := h.elim (fun h => .inl (dp_ex e d v h)) fun h => .inr (dz_ex e d v h)
theorem dz_get {K : PySem.W.Frag} {H : Hp} {x : V} : ∀ {xs : List V} {ds : List PyData} {i : Nat}, DzAll K H xs ds → xs[i]? = some x → ∃ d, ds[i]? = some d ∧ Dz K H x d
  | _, _, 0, .cons h _, e => by
    obtain rfl : _ = x := Option.some.inj e
    exact ⟨_, rfl, h⟩
  | _, _, i + 1, .cons _ h, e => dz_get (i := i) h e
  | _, _, i, .nil, e => by simp at e
theorem dz_len {K : PySem.W.Frag} {H : Hp} : ∀ {xs : List V} {ds : List PyData}, DzAll K H xs ds → xs.length = ds.length
  | _, _, .nil => rfl
  | _, _, .cons _ h => congrArg (· + 1) (dz_len h)
theorem dp_get {K : PySem.W.Frag} {H : Hp} {x : V} : ∀ {xs : List V} {ds : List PyData} {i : Nat}, DpAll K H xs ds → xs[i]? = some x → ∃ d, ds[i]? = some d ∧ Dp K H x d
  | _, _, 0, .cons h _, e => by
    obtain rfl : _ = x := Option.some.inj e
    exact ⟨_, rfl, h⟩
  | _, _, i + 1, .cons _ h, e => dp_get (i := i) h e
  | _, _, i, .nil, e => by simp at e
theorem dp_len {K : PySem.W.Frag} {H : Hp} : ∀ {xs : List V} {ds : List PyData}, DpAll K H xs ds → xs.length = ds.length
  | _, _, .nil => rfl
  | _, _, .cons _ h => congrArg (· + 1) (dp_len h)
/-- a tuple of data -/
theorem Dv.tuple {K : PySem.W.Frag} {H : Hp} {v : V} {ds : List PyData} (h : Dv K H v (.tuple ds)) :
    ∃ a xs, v = .ref a ∧ SqT K H a xs ∧ xs.length = ds.length ∧ ∀ (i : Nat) (x : V), xs[i]? = some x → ∃ d, ds[i]? = some d ∧ Dv K H x d := by
  rcases h with h | h
  · cases h with
    | tup hs ha => exact ⟨_, _, rfl, hs, dp_len ha, fun i x e => let ⟨d, h1, h2⟩ := dp_get ha e; ⟨d, h1, .inl h2⟩⟩
  · cases h with
    | tup hs ha => exact ⟨_, _, rfl, hs, dz_len ha, fun i x e => let ⟨d, h1, h2⟩ := dz_get ha e; ⟨d, h1, .inr h2⟩⟩
theorem Dv.int {K : PySem.W.Frag} {H : Hp} {v : V} {i : Int} (h : Dv K H v (.int i)) : v = .int i := by
  rcases h with h | h <;> cases h <;> rfl
theorem dz_ints {K : PySem.W.Frag} {H : Hp} : ∀ (ns : List Int), DzAll K H (ns.map V.int) (dI ns)
  | [] => .nil
  | n :: r => .cons (.int n) (dz_ints r)
theorem dz_app {K : PySem.W.Frag} {H : Hp} : ∀ {xs ys : List V} {ds es : List PyData}, DzAll K H xs ds → DzAll K H ys es → DzAll K H (xs ++ ys) (ds ++ es)
  | _, _, _, _, .nil, h => h
  | _, _, _, _, .cons h t, h2 => .cons h (dz_app t h2)
theorem dp_app {K : PySem.W.Frag} {H : Hp} : ∀ {xs ys : List V} {ds es : List PyData}, DpAll K H xs ds → DpAll K H ys es → DpAll K H (xs ++ ys) (ds ++ es)
  | _, _, _, _, .nil, h => h
  | _, _, _, _, .cons h t, h2 => .cons h (dp_app t h2)
/-! ### t[::-1] -/
theorem rev_pickedV (L : List Value) : (List.range L.length).filterMap (fun k => L[L.length - 1 - k]?) = L.reverse := by
  have e : (List.range L.length).filterMap (fun k => L[L.length - 1 - k]?) = (List.range L.length).filterMap (fun k => some (L.reverse.getD k Value.none)) := by
    refine fm_congr fun k hk => ?_
    have hk := List.mem_range.mp hk
    rw [List.getElem?_eq_getElem (by omega), List.getD_eq_getElem?_getD, List.getElem?_eq_getElem (by rw [List.length_reverse]; exact hk), Option.getD_some, List.getElem_reverse]
  rw [e, List.filterMap_eq_map']
  refine List.ext_getElem (by simp) fun i h1 h2 => ?_
  rw [List.getElem_map, List.getElem_range, List.getD_eq_getElem?_getD, List.getElem?_eq_getElem h2, Option.getD_some]
section
variable {prog : Program} {w : World} {A : Around} {E : Value → Shared → Prop} {s : Shared}
theorem sliceApplied_rev {sl : Addr} {vl vu vs : Value} {n : Nat} {Q : Int × Int × Nat → Shared → Prop} (hs : s.heap.IsSliceOf sl vl vu vs) (pl : IsPart vl none) (pu : IsPart vu none) (ps : IsPart vs (some (-1)))
    (h : Q ((n : Int) - 1, -1, n) s) : wpAny (model prog w) A (Builtin.Slice.sliceApplied (.ref sl) (pure (n : Int))) Q E s := by
  obtain ⟨os, hos, hcs, hds⟩ := id hs
  unfold Builtin.Slice.sliceApplied Builtin.Slice.sliceFields
  refine wpAny_bind (wpAny_bind (wpAny_field hos hds (x := vl) rfl (wpAny_bind (wpAny_field hos hds (x := vu) rfl (wpAny_bind (wpAny_field hos hds (x := vs) rfl (wpAny_pure ?_)))))))
  refine wpAny_bind (HT.slicePart_ ps ?_)
  show wpAny _ _ (if ((-1 : Int) == 0) = true then _ else _) _ _ s
  rw [if_neg (by decide)]
  refine wpAny_bind (HT.slicePart_ pl (wpAny_bind (HT.slicePart_ pu (wpAny_bind (wpAny_pure ?_)))))
  show wpAny _ _ (match Builtin.Slice.sliceAdjust none none (-1) (n : Int) with | (lo, hi) => pure (lo, (-1 : Int), Builtin.Slice.slicePlaces lo hi (-1))) _ _ s
  have e1 : Builtin.Slice.sliceAdjust none none (-1) (n : Int) = ((n : Int) - 1, -1) := rfl
  have e2 : Builtin.Slice.slicePlaces ((n : Int) - 1) (-1) (-1) = n := by
    unfold Builtin.Slice.slicePlaces
    rw [if_neg (by decide)]
    by_cases h0 : (n : Int) - 1 > -1
    · rw [if_pos h0]
      have : -(-1 : Int) = 1 := rfl
      rw [this, Int.ediv_one]
      omega
    · rw [if_neg h0]
      omega
  rw [e1]
  show wpAny _ _ (pure ((n : Int) - 1, (-1 : Int), Builtin.Slice.slicePlaces ((n : Int) - 1) (-1) (-1))) _ _ s
  rw [e2]
  exact wpAny_pure h
theorem getItem_tuple_rev {t sl : Addr} {items : Array Value} {vl vu vs : Value} {Q : Value → Shared → Prop} (ht : IsTup s.heap t items) (hs : s.heap.IsSliceOf sl vl vu vs) (pl : IsPart vl none) (pu : IsPart vu none) (ps : IsPart vs (some (-1)))
    (h : Q (.ref s.heap.objs.size) { s with heap := s.heap.push { cls := .type "tuple", data := .seq items.toList.reverse.toArray } })
    (hsz : items.size ≤ sizeLine) : wpAny (model prog w) A (getItem (.ref t) (.ref sl)) Q E s := by
  have hdrop : sizeOk (.seq items.toList.reverse.toArray) := by
    show items.toList.reverse.toArray.size ≤ sizeLine
    rw [List.size_toArray, List.length_reverse, Array.length_toList]
    exact hsz
  obtain ⟨os, hos, hcs, hds⟩ := id hs
  have hTs : s.TypeIs (.ref sl) "slice" := ⟨os, hos, hcs⟩
  unfold getItem
  try with_reducible refine wpAny_holding ?_
  first | refine wpAny_bind (wpAny_pure ?_) | skip
  refine wpAny_bind (wpAny_sequenceKey ht.typeIs (by decide) ?_)
  refine wpAny_bind (wpAny_callSpecial?_slot (name := Str.ofString "__getitem__") ht.typeIs PyProof.Rows.slot_tuple_getitem
    (wpAny_call_entry PyProof.Rows.slot_tuple_getitem ht.typeIs entry_tuple_getitem ?_ (args_tuple_getitem _ _)))
  show wpAny _ _ (Builtin.Tuple.tupleItemsOf (.ref t) >>= _) _ _ s
  refine wpAny_bind (tupleItemsOf_ ht ?_)
  refine wpAny_bind (wpAny_typeOf hTs ?_)
  rw [if_pos (by decide)]
  refine wpAny_bind (sliceApplied_rev hs pl pu ps ?_)
  have hno : ¬ ((((items.size : Int) - 1) == 0 && (-1 : Int) == 1 && items.size == items.size) = true) := by
    intro z
    have z := (Bool.and_eq_true _ _ |>.mp z).1
    have z := (Bool.and_eq_true _ _ |>.mp z).2
    cases z
  show wpAny _ _ (if (((items.size : Int) - 1) == 0 && (-1 : Int) == 1 && items.size == items.size) = true then _ else _) _ _ s
  have hp : ((List.range items.size).filterMap fun (k : Nat) => items[((items.size : Int) - 1 + (k : Int) * -1).toNat]?).toArray = items.toList.reverse.toArray := by
    congr 1
    rw [← rev_pickedV items.toList, Array.length_toList]
    refine fm_congr fun k hk => ?_
    have hk := List.mem_range.mp hk
    rw [Array.getElem?_toList]
    congr 1
    omega
  rw [if_neg hno, hp]
  first
    | exact wpAny_bind (m := Builtin.Tuple.tupleExact _) (wpAny_newObj_type (wpAny_pure ⟨_, rfl, wpAny_pure h⟩) hdrop)
    | exact wpAny_bind (m := Builtin.Tuple.tupleExact _) (wpAny_newObj_type (wpAny_bind (wpAny_pure (wpAny_pure ⟨_, rfl, wpAny_pure h⟩))) hdrop)
    | exact wpAny_bind (wpAny_bind (m := Builtin.Tuple.tupleExact _) (wpAny_newObj_type (wpAny_pure (wpAny_pure ⟨_, rfl, wpAny_pure h⟩)) hdrop))
    | exact wpAny_bind (wpAny_bind (m := Builtin.Tuple.tupleExact _) (wpAny_newObj_type (wpAny_pure ⟨_, rfl, wpAny_pure h⟩) hdrop))
end
def tRevT (K : PySem.W.Frag) (te : TE) : TE := fun σ H Q => te σ H fun x H1 => ∃ a xs, x = .ref a ∧ SqT K H1 a xs ∧ ∀ p, H1 p = none → Q (.ref p) (upd H1 p (.tup xs.reverse))
theorem pe_revT {X : Cx} {K : PySem.W.Frag} (hK : X.K = K) {e : Expr} {te : TE} {k : Nat} {p1 p2 p3 pos : Pos} (he : PE X e te) :
    PE X (.Subscript e (.Slice none none (some (.UnaryOp .USub (.Constant (.int 1) k p1) p2)) p3) pos) (tRevT K te) := by
  subst hK
  refine ⟨fun pins s σ H Q I h => ?_⟩
  refine Subscript_ (thn (he.run pins s σ H _ I h) fun v s1 ⟨x, H1, I1, r1, q1⟩ => ?_)
  obtain ⟨a, xs, ex, hx, q⟩ := q1
  subst ex
  cases r1
  have hst : PO X (some (.UnaryOp .USub (.Constant (.int 1) k p1) p2)) (tPart (tUn (rU fun i => .int (-i)) (tC (.int 1)))) := po_some (pe_un un_neg pe_int)
  refine wpAny_Slice (thn (po_none.run pins s1 σ H1 (fun o H2 => o = none ∧ H2 = H1) I1 ⟨rfl, rfl⟩) fun vl s2 ⟨l, H2, I2, pl, el, e2⟩ => ?_)
  subst el e2
  refine thn (po_none.run pins s2 σ H2 (fun o H3 => o = none ∧ H3 = H2) I2 ⟨rfl, rfl⟩) fun vu s3 ⟨u, H3, I3, pu, eu, e3⟩ => ?_
  subst eu e3
  refine thn (hst.run pins s3 σ H3 (fun o H4 => o = some (-1) ∧ H4 = H3) I3 ⟨1, rfl, -1, rfl, rfl, rfl⟩) fun vs s4 ⟨o, H4, I4, ps, eo, e4⟩ => ?_
  subst eo e4
  have I5 : Inv X pins σ H4 { s4 with heap := s4.heap.push { cls := .type "slice", data := .fields #[vl, vu, vs] } } := I4.kept (t' := s4.toks) fun b ob q => Heap.get?_push_of_some _ q
  obtain ⟨its, r, ht, hz⟩ := I5.tuple hx
  have hlen := r.length
  show wpAny (model X.prog X.w) X.A (subscriptTail e (.Slice none none (some (.UnaryOp .USub (.Constant (.int 1) k p1) p2)) p3) (.ref a) (.ref s4.heap.objs.size)) (EP X pins σ Q) X.xe { s4 with heap := s4.heap.push { cls := .type "slice", data := .fields #[vl, vu, vs] } }
  refine tail_any (ops := [.ref a, .ref s4.heap.objs.size]) ht.typeIs (PyProof.Rows.slot_tuple_getitem.lookup) ?_ (by with_unfolding_all rfl)
  refine getItem_tuple_rev ht (Heap.IsSliceOf.new _ vl vu vs) pl pu ps ?_ (by rw [List.size_toArray]; omega)
  refine ⟨.ref _, _, I5.laid (t' := s4.toks) (o := .tup xs.reverse) (fun b ob q => Heap.get?_push_of_some _ q) (Nat.le_refl _) ?_, rfl, q _ (I5.hok.fresh (Nat.le_refl _))⟩
  exact ⟨by rw [List.length_reverse]; exact hz, its.reverse, r.reverse, ⟨_, Heap.get?_push_size _ rfl, rfl, 0, rfl⟩⟩
theorem rd_revT {K : PySem.W.Frag} {te : TE} {σ : L2.St} {H : Hp} {Q : VK} (h : te σ H fun x H1 => ∃ a xs, x = .ref a ∧ SqT K H1 a xs ∧ ∀ p, H1 p = none → Q (.ref p) (upd H1 p (.tup xs.reverse))) : tRevT K te σ H Q := h
end Ea
set_option Elab.async false
set_option linter.all false
set_option maxRecDepth 100000
set_option maxHeartbeats 400000
/-! Plain formulas: what they are lowered to, and how great that is ([J3]). -/
namespace KA
open PySem PySem.Spec PyProof.Rows L2 Ea
inductive Fm where
  | letter (z : Str)
  | no (f : Fm)
  | conn (b : Bool) (fs : List Fm)
  | same (f g : Fm)
def cw (b : Bool) : Str := if b = true then "and" else "or"
mutual
def dat : Fm → PyData
  | .letter z => .tuple [.str "letter", .str z]
  | .no f => .tuple [.str "not", dat f]
  | .conn b fs => .tuple [.str (cw b), .tuple (dats fs)]
  | .same f g => .tuple [.str "same", dat f, dat g]
def dats : List Fm → List PyData
  | [] => []
  | f :: t => dat f :: dats t
end
mutual
def low (s : Bool) : Fm → Fm
  | .letter z => if s = true then .letter z else .no (.letter z)
  | .no f => low (!s) f
  | .conn b fs => .conn (b == s) (lows s fs)
  | .same f g => .conn true [.conn false [low (!s) f, low true g], .conn false [low s f, low false g]]
def lows (s : Bool) : List Fm → List Fm
  | [] => []
  | f :: t => low s f :: lows s t
end
mutual
/-- nodes of what it is lowered to -/
def nn (s : Bool) : Fm → Nat
  | .letter _ => if s = true then 1 else 2
  | .no f => nn (!s) f
  | .conn _ fs => 1 + nns s fs
  | .same f g => 3 + (nn true f + nn false f + (nn true g + nn false g))
def nns (s : Bool) : List Fm → Nat
  | [] => 0
  | f :: t => nn s f + nns s t
end
mutual
/-- its depth -/
def dd (s : Bool) : Fm → Nat
  | .letter _ => if s = true then 1 else 2
  | .no f => dd (!s) f
  | .conn _ fs => 1 + dds s fs
  | .same f g => 2 + max (max (dd true f) (dd false f)) (max (dd true g) (dd false g))
def dds (s : Bool) : List Fm → Nat
  | [] => 0
  | f :: t => max (dd s f) (dds s t)
end
mutual
/-- how deep a going through it goes -/
def dp : Fm → Nat
  | .letter _ => 1
  | .no f => dp f + 1
  | .conn _ fs => dps fs + 1
  | .same f g => max (dp f) (dp g) + 1
def dps : List Fm → Nat
  | [] => 0
  | f :: t => max (dp f) (dps t)
end
mutual
def nd : Fm → Nat
  | .letter _ => 1
  | .no f => nd f + 1
  | .conn _ fs => nds fs + 1
  | .same f g => nd f + nd g + 1
def nds : List Fm → Nat
  | [] => 0
  | f :: t => nd f + nds t
end
mutual
/-- the depth of the datum -/
def dt : Fm → Nat
  | .letter _ => 1
  | .no f => dt f + 1
  | .conn _ fs => dts fs + 2
  | .same f g => max (dt f) (dt g) + 1
def dts : List Fm → Nat
  | [] => 0
  | f :: t => max (dt f) (dts t)
end
def okz (z : Str) : Bool := decide (z.cps.size ≤ 8) && ((PyData.str z).showable && (PyData.str z).leavesShort 40)
mutual
def okf : Fm → Bool
  | .letter z => okz z
  | .no f => okf f
  | .conn _ fs => okfs fs
  | .same f g => okf f && okf g
def okfs : List Fm → Bool
  | [] => true
  | f :: t => okf f && okfs t
end
theorem dats_map (fs : List Fm) : dats fs = fs.map dat := by
  induction fs with
  | nil => rfl
  | cons f t ih => rw [dats, ih, List.map_cons]
theorem lows_map (s : Bool) (fs : List Fm) : lows s fs = fs.map (low s) := by
  induction fs with
  | nil => rfl
  | cons f t ih => rw [lows, ih, List.map_cons]
theorem nns_map (s : Bool) (fs : List Fm) : nns s fs = (fs.map (nn s)).sum := by
  induction fs with
  | nil => rfl
  | cons f t ih => rw [nns, ih, List.map_cons, List.sum_cons]
theorem dds_ge {s : Bool} {fs : List Fm} {f : Fm} (h : f ∈ fs) : dd s f ≤ dds s fs := by
  induction fs with
  | nil => cases h
  | cons a t ih =>
    rw [dds]
    rcases List.mem_cons.mp h with rfl | h
    · omega
    · have := ih h
      omega
theorem dds_at {s : Bool} {fs : List Fm} : dds s fs = 0 ∨ ∃ f ∈ fs, dds s fs = dd s f := by
  induction fs with
  | nil => exact .inl rfl
  | cons a t ih =>
    rw [dds]
    rcases ih with e | ⟨f, hf, e⟩
    · exact .inr ⟨a, List.mem_cons_self, by omega⟩
    · by_cases c : dd s a ≤ dds s t
      · exact .inr ⟨f, List.mem_cons_of_mem _ hf, by omega⟩
      · exact .inr ⟨a, List.mem_cons_self, by omega⟩
theorem dps_ge {fs : List Fm} {f : Fm} (h : f ∈ fs) : dp f ≤ dps fs := by
  induction fs with
  | nil => cases h
  | cons a t ih =>
    rw [dps]
    rcases List.mem_cons.mp h with rfl | h
    · omega
    · have := ih h
      omega
theorem okfs_mem {fs : List Fm} (h : okfs fs = true) {f : Fm} (hf : f ∈ fs) : okf f = true := by
  induction fs with
  | nil => cases hf
  | cons a t ih =>
    rw [okfs, Bool.and_eq_true] at h
    rcases List.mem_cons.mp hf with rfl | hf
    · exact h.1
    · exact ih h.2 hf
mutual
theorem nd_low (s : Bool) : ∀ f : Fm, nd (low s f) = nn s f
  | .letter z => by cases s <;> rfl
  | .no f => by rw [low, nn, nd_low (!s) f]
  | .conn b fs => by rw [low, nn, nd, nds_low s fs, Nat.add_comm]
  | .same f g => by
    rw [low, nn]
    simp only [nd, nds]
    rw [nd_low (!s) f, nd_low true g, nd_low s f, nd_low false g]
    cases s <;> simp <;> omega
theorem nds_low (s : Bool) : ∀ fs : List Fm, nds (lows s fs) = nns s fs
  | [] => rfl
  | f :: t => by rw [lows, nds, nns, nd_low s f, nds_low s t]
end
mutual
theorem okf_low (s : Bool) : ∀ f : Fm, okf f = true → okf (low s f) = true
  | .letter z, h => by cases s <;> exact h
  | .no f, h => by
    rw [low]
    exact okf_low (!s) f h
  | .conn b fs, h => by
    rw [low]
    exact okfs_low s fs h
  | .same f g, h => by
    rw [okf, Bool.and_eq_true] at h
    rw [low]
    simp only [okf, okfs, Bool.and_true, Bool.and_eq_true]
    exact ⟨⟨okf_low (!s) f h.1, okf_low true g h.2⟩, okf_low s f h.1, okf_low false g h.2⟩
theorem okfs_low (s : Bool) : ∀ fs : List Fm, okfs fs = true → okfs (lows s fs) = true
  | [], _ => rfl
  | f :: t, h => by
    rw [okfs, Bool.and_eq_true] at h
    rw [lows, okfs, okf_low s f h.1, okfs_low s t h.2] <;> rfl
end
theorem cw_len (b : Bool) : (cw b).cps.size ≤ 3 := by cases b <;> decide
mutual
theorem bulk_dat : ∀ f : Fm, okf f = true → (dat f).bulk + 1 ≤ 20 * nd f
  | .letter z, h => by
    have hz : z.cps.size ≤ 8 := by
      have h2 : okz z = true := h
      unfold okz at h2
      rw [Bool.and_eq_true] at h2
      exact of_decide_eq_true h2.1
    have e : (Str.ofString "letter").cps.size = 6 := by decide
    simp only [dat, PyData.bulk, PyData.bulkAll, nd, e]
    omega
  | .no f, h => by
    have i := bulk_dat f h
    have e : (Str.ofString "not").cps.size = 3 := by decide
    simp only [dat, PyData.bulk, PyData.bulkAll, nd, e]
    omega
  | .conn b fs, h => by
    have i := bulk_dats fs h
    have e := cw_len b
    simp only [dat, PyData.bulk, PyData.bulkAll, nd]
    omega
  | .same f g, h => by
    rw [okf, Bool.and_eq_true] at h
    have i := bulk_dat f h.1
    have j := bulk_dat g h.2
    have e : (Str.ofString "same").cps.size = 4 := by decide
    simp only [dat, PyData.bulk, PyData.bulkAll, nd, e]
    omega
theorem bulk_dats : ∀ fs : List Fm, okfs fs = true → PyData.bulkAll (dats fs) ≤ 20 * nds fs
  | [], _ => Nat.zero_le _
  | f :: t, h => by
    rw [okfs, Bool.and_eq_true] at h
    have i := bulk_dat f h.1
    have j := bulk_dats t h.2
    simp only [dats, PyData.bulkAll, nds]
    omega
end
mutual
theorem depth_dat : ∀ f : Fm, (dat f).depth = dt f
  | .letter z => rfl
  | .no f => by simp only [dat, PyData.depth, PyData.depthAll, dt, depth_dat f]; omega
  | .conn b fs => by simp only [dat, PyData.depth, PyData.depthAll, dt, depth_dats fs]; omega
  | .same f g => by simp only [dat, PyData.depth, PyData.depthAll, dt, depth_dat f, depth_dat g]; omega
theorem depth_dats : ∀ fs : List Fm, PyData.depthAll (dats fs) = dts fs
  | [] => rfl
  | f :: t => by simp only [dats, PyData.depthAll, dts, depth_dat f, depth_dats t]
end
theorem okz_show {z : Str} (h : okz z = true) : (PyData.str z).showable = true ∧ (PyData.str z).leavesShort 40 = true := by
  unfold okz at h
  rw [Bool.and_eq_true, Bool.and_eq_true] at h
  exact h.2
theorem cw_show (b : Bool) : (PyData.str (cw b)).showable = true ∧ (PyData.str (cw b)).leavesShort 40 = true := by cases b <;> decide
mutual
theorem show_dat : ∀ f : Fm, okf f = true → (dat f).showable = true ∧ (dat f).leavesShort 40 = true
  | .letter z, h => by
    have a := okz_show h
    have b : (PyData.str (Str.ofString "letter")).showable = true ∧ (PyData.str (Str.ofString "letter")).leavesShort 40 = true := by decide
    simp only [dat, PyData.showable, PyData.showableAll, PyData.leavesShort, PyData.leavesShortAll] at a b ⊢
    simp [a, b]
  | .no f, h => by
    have a := show_dat f h
    have b : (PyData.str (Str.ofString "not")).showable = true ∧ (PyData.str (Str.ofString "not")).leavesShort 40 = true := by decide
    simp only [dat, PyData.showable, PyData.showableAll, PyData.leavesShort, PyData.leavesShortAll] at b ⊢
    simp [a, b]
  | .conn c fs, h => by
    have a := show_dats fs h
    have b := cw_show c
    simp only [dat, PyData.showable, PyData.showableAll, PyData.leavesShort, PyData.leavesShortAll] at b ⊢
    simp [a, b]
  | .same f g, h => by
    rw [okf, Bool.and_eq_true] at h
    have a := show_dat f h.1
    have c := show_dat g h.2
    have b : (PyData.str (Str.ofString "same")).showable = true ∧ (PyData.str (Str.ofString "same")).leavesShort 40 = true := by decide
    simp only [dat, PyData.showable, PyData.showableAll, PyData.leavesShort, PyData.leavesShortAll] at b ⊢
    simp [a, b, c]
theorem show_dats : ∀ fs : List Fm, okfs fs = true → PyData.showableAll (dats fs) = true ∧ PyData.leavesShortAll 40 (dats fs) = true
  | [], _ => ⟨rfl, rfl⟩
  | f :: t, h => by
    rw [okfs, Bool.and_eq_true] at h
    have a := show_dat f h.1
    have b := show_dats t h.2
    simp only [dats, PyData.showableAll, PyData.leavesShortAll]
    simp [a, b]
end
theorem fair_dat {f : Fm} {n : Nat} (h : okf f = true) (hn : nd f ≤ n) (hd : dt f ≤ 40) : Fair (20 * n) 40 (dat f) := ⟨by have := bulk_dat f h; omega, by rw [depth_dat]; exact hd, (show_dat f h).1, (show_dat f h).2⟩
/-! ### formulas as they are drawn -/
inductive Bt : Nat → Fm → Prop
  | letter (s : Nat) (z : Str) : okz z = true → Bt s (.letter z)
  | nil (s : Nat) (b : Bool) : Bt s (.conn b [])
  | no (s : Nat) (f : Fm) : Bt s f → Bt (s + 1) (.no f)
  | same (s : Nat) (f g : Fm) : 2 ≤ s → Bt (s / 2) f → Bt (s / 2) g → Bt s (.same f g)
  | conn (s k : Nat) (b : Bool) (fs : List Fm) : 2 ≤ s → 2 ≤ k → k ≤ 3 → fs.length = k → (∀ f ∈ fs, Bt ((s - 1) / k) f) → Bt s (.conn b fs)
theorem okfs_of {fs : List Fm} (h : ∀ f ∈ fs, okf f = true) : okfs fs = true := by
  induction fs with
  | nil => rfl
  | cons a t ih => rw [okfs, h a List.mem_cons_self, ih fun f hf => h f (List.mem_cons_of_mem _ hf)] <;> rfl
theorem dts_le {fs : List Fm} {m : Nat} (h : ∀ f ∈ fs, dt f ≤ m) : dts fs ≤ m := by
  induction fs with
  | nil => exact Nat.zero_le _
  | cons a t ih =>
    have := h a List.mem_cons_self
    have := ih fun f hf => h f (List.mem_cons_of_mem _ hf)
    rw [dts]
    omega
theorem dps_le {fs : List Fm} {m : Nat} (h : ∀ f ∈ fs, dp f ≤ m) : dps fs ≤ m := by
  induction fs with
  | nil => exact Nat.zero_le _
  | cons a t ih =>
    have := h a List.mem_cons_self
    have := ih fun f hf => h f (List.mem_cons_of_mem _ hf)
    rw [dps]
    omega
theorem nds_le {fs : List Fm} {m : Nat} (h : ∀ f ∈ fs, nd f ≤ m) : nds fs ≤ fs.length * m := by
  induction fs with
  | nil => exact Nat.zero_le _
  | cons a t ih =>
    have := h a List.mem_cons_self
    have := ih fun f hf => h f (List.mem_cons_of_mem _ hf)
    rw [nds, List.length_cons, Nat.add_mul]
    omega
theorem dts_lows {s : Bool} {fs : List Fm} {m : Nat} (h : ∀ f ∈ fs, dt (low s f) ≤ m) : dts (lows s fs) ≤ m := by
  rw [lows_map]
  exact dts_le fun f hf => by
    obtain ⟨g, hg, rfl⟩ := List.mem_map.mp hf
    exact h g hg
theorem half_lt {s k t : Nat} (hk : 2 ≤ k) (h : s < 2 ^ (t + 1)) : (s - 1) / k < 2 ^ t := by
  have h1 : (s - 1) / k ≤ (s - 1) / 2 := Nat.div_le_div_left hk (by decide)
  rw [Nat.pow_succ] at h
  omega
/-- how great what is drawn can be -/
theorem Bt.bounds {s : Nat} {f : Fm} (h : Bt s f) : okf f = true ∧ dt f ≤ s + 2 ∧ dp f ≤ s + 1 ∧ (nd f ≤ 1 ∨ (1 ≤ s ∧ nd f + 2 ≤ 6 * s)) ∧ ∀ t, s < 2 ^ t → ∀ b, dt (low b f) ≤ 4 * t + 2 := by
  induction h with
  | letter s z hz => exact ⟨hz, by show 1 ≤ _; omega, by show 1 ≤ _; omega, .inl (Nat.le_refl _), fun t _ b => by cases b <;> (show _ ≤ _; simp [low, dt])⟩
  | nil s b => exact ⟨rfl, by show 0 + 2 ≤ _; omega, by show 0 + 1 ≤ _; omega, .inl (Nat.le_refl _), fun t _ c => by show 0 + 2 ≤ _; omega⟩
  | no s f _ ih =>
    obtain ⟨h1, h2, h3, h4, h5⟩ := ih
    exact ⟨h1, by rw [dt]; omega, by rw [dp]; omega, by rw [nd]; omega, fun t ht b => by rw [low]; exact h5 t (by omega) _⟩
  | same s f g hs _ _ i1 i2 =>
    obtain ⟨a1, a2, a3, a4, a5⟩ := i1
    obtain ⟨b1, b2, b3, b4, b5⟩ := i2
    refine ⟨by rw [okf, a1, b1]; rfl, by rw [dt]; omega, by rw [dp]; omega, by rw [nd]; omega, fun t ht b => ?_⟩
    cases t with
    | zero => omega
    | succ t =>
      have hh : s / 2 < 2 ^ t := by rw [Nat.pow_succ] at ht; omega
      have x1 := a5 t hh (!b)
      have x2 := a5 t hh b
      have y1 := b5 t hh true
      have y2 := b5 t hh false
      rw [low]
      simp only [dt, dts]
      omega
  | conn s k b fs hs hk hk3 hl _ ih =>
    have hle : (s - 1) / k ≤ (s - 1) / 2 := Nat.div_le_div_left hk (by decide)
    refine ⟨okfs_of fun f hf => (ih f hf).1, ?_, ?_, ?_, fun t ht c => ?_⟩
    · have := dts_le (m := (s - 1) / 2 + 2) fun f hf => by have := (ih f hf).2.1; omega
      rw [dt]
      omega
    · have := dps_le (m := (s - 1) / 2 + 1) fun f hf => by have := (ih f hf).2.2.1; omega
      rw [dp]
      omega
    · refine .inr ⟨by omega, ?_⟩
      have h2 : k * ((s - 1) / k) ≤ s - 1 := Nat.mul_div_le _ _
      rw [nd]
      generalize (s - 1) / k = q at h2 ih
      have h1 := nds_le (m := 6 * q + 1) fun f hf => by rcases (ih f hf).2.2.2.1 with h | h <;> omega
      rw [hl] at h1
      by_cases c : q = 0
      · subst c
        omega
      · have h4 := nds_le (m := 6 * q - 2) fun f hf => by rcases (ih f hf).2.2.2.1 with h | h <;> omega
        rw [hl] at h4
        have hk23 : k = 2 ∨ k = 3 := by omega
        rcases hk23 with rfl | rfl <;> omega
    · cases t with
      | zero => omega
      | succ t =>
        have hh := half_lt hk ht
        have := dts_lows (s := c) (m := 4 * t + 2) fun f hf => (ih f hf).2.2.2.2 t hh c
        rw [low, dt]
        omega
end KA
set_option Elab.async false
set_option linter.all false
set_option maxRecDepth 100000
set_option maxHeartbeats 400000
set_option pp.maxSteps 300
namespace KA
open PySem PySem.Spec PyProof.Rows L2 Ea
abbrev s_law_bag : Stmt := topS 21
theorem sc_law_bag : FnScope ["script", "bag", "cell", "own"] ["script"] (defScope s_law_bag) :=
  ⟨rfl, rfl, rfl, by decide +kernel, rfl, by decide +kernel, by decide +kernel⟩
abbrev s_law_take : Stmt := topS 22
theorem sc_law_take : FnScope ["bag", "many", "whole", "seed"] ["bag", "many"] (defScope s_law_take) :=
  ⟨rfl, rfl, rfl, by decide +kernel, rfl, by decide +kernel, by decide +kernel⟩
abbrev s_law_pick : Stmt := topS 23
theorem sc_law_pick : FnScope ["bag", "some"] ["bag", "some"] (defScope s_law_pick) :=
  ⟨rfl, rfl, rfl, by decide +kernel, rfl, by decide +kernel, by decide +kernel⟩
theorem rd_dget2 {td ty tx : TE} {σ : L2.St} {H : Hp} {Q : VK} (h : td σ H fun x H1 => ∃ a, x = .ref a ∧ IsD H1 a ∧ ty σ H1 fun y H2 => tx σ H2 fun z H3 => ∃ o, DGet H3 a y o ∧ Q (o.getD z) H3) : tDGet2 td ty tx σ H Q := h
local macro_rules | `(tactic| walk_at "rd") => `(tactic| first
  | (with_reducible refine rd_seq ?_) | (with_reducible refine rd_asg ?_) | (with_reducible refine rd_if ?_) | (with_reducible refine rd_ret ?_) | (with_reducible refine rd_next ?_)
  | (with_reducible refine rd_drop ?_) | ((with_reducible refine rd_name (σ' := ?ss) ?hs ?_); (case hs => (dsimp only [List.set]; exact rfl)))
  | ((with_reducible refine rd_var (v := ?vv) ?hv ?_); (case hv => exact rfl)) | (with_reducible refine rd_c ?_) | (with_reducible refine rd_op ?_) | (with_reducible refine rd_un ?_)
  | (with_reducible refine rd_I0 ?_) | (with_reducible refine rd_U ?_) | (with_reducible refine rd_test ?_) | (with_reducible refine rd_B ?_) | (with_reducible refine rd_k ?_)
  | (with_reducible refine rd_not ?_) | (with_reducible refine rd_and ?_) | (with_reducible refine rd_or ?_) | (with_reducible refine rd_ifE ?_)
  | (with_reducible refine rd_par ?_) | ((with_reducible refine rd_par2 (σ' := ?ss) ?hs ?_); (case hs => (dsimp only [List.set]; exact rfl)))
  | (with_reducible refine rd_gsub ?_) | (with_reducible refine rd_andV ?_) | (with_reducible refine rd_orV ?_) | (with_reducible refine rd_notV ?_)
  | (with_reducible refine rd_lc ?_) | (with_reducible refine rd_iTup ?_) | (with_reducible refine rd_iList ?_) | (with_reducible refine rd_iRng1 ?_) | (with_reducible refine rd_iRng2 ?_) | (with_reducible refine rd_iEnumT ?_) | (with_reducible refine rd_iEnum ?_) | (with_reducible refine rd_iZipM ?_) | (with_reducible refine rd_iEnumS ?_) | (with_reducible refine rd_iKeys ?_) | (with_reducible refine rd_din ?_) | (with_reducible refine rd_dnotin ?_)
  | (with_reducible refine rd_yes ?_) | (with_reducible refine rd_true ?_) | (with_reducible refine rd_false ?_) | (with_reducible refine rd_m1 ?_) | (with_reducible refine rd_isS ?_)
  | ((with_reducible refine rd_eq ?hs ?_); (case hs => exact rfl)) | ((with_reducible refine rd_ne ?hs ?_); (case hs => exact rfl))
  | (with_reducible refine rd_listRg ?_) | (with_reducible refine rd_rg2 ?_) | (with_reducible refine rd_rgk ?_)
  | (with_reducible refine rd_dnew ?_) | (with_reducible refine rd_ddel ?_) | (with_reducible refine rd_kw ?_) | (with_reducible refine rd_callS ?_) | (with_reducible refine rd_dc ?_) | (with_reducible refine rd_for ?_) | (with_reducible refine rd_tru ?_) | (with_reducible refine rd_truI ?_)
  | (with_reducible refine rd_nil ?_) | (with_reducible refine rd_cons ?_) | (with_reducible refine rd_call ?_) | (with_reducible refine rd_cb ?_)
  | (with_reducible refine rd_tup ?_) | (with_reducible refine rd_lst ?_) | (with_reducible refine rd_dget ?_) | (with_reducible refine rd_dput ?_) | (with_reducible refine rd_dget2 ?_) | (with_reducible refine rd_sl ?_)
  | (with_reducible refine rd_nopart ?_) | (with_reducible refine rd_part ?_) | (with_reducible refine rd_parti ?_) | (with_reducible refine rd_bm ?_) | (with_reducible refine rd_bm0 ?_)
  | (with_reducible refine rd_int ?_) | (with_reducible refine rd_intb ?_) | (with_reducible refine rd_abs ?_) | (with_reducible refine rd_min2 ?_) | (with_reducible refine rd_max2 ?_))
local macro_rules | `(tactic| walk_at "rds") => `(tactic| repeat (walk_at "rd"))
local macro_rules | `(tactic| walk_at "rq") => `(tactic| first
  | (with_reducible refine rd_seq ?_) | (with_reducible refine rd_asg ?_) | (with_reducible refine rd_ret ?_) | (with_reducible refine rd_next ?_)
  | (with_reducible refine rd_drop ?_) | ((with_reducible refine rd_name (σ' := ?ss) ?hs ?_); (case hs => (dsimp only [List.set]; exact rfl)))
  | ((with_reducible refine rd_var (v := ?vv) ?hv ?_); (case hv => exact rfl)) | (with_reducible refine rd_c ?_) | (with_reducible refine rd_op ?_) | (with_reducible refine rd_un ?_)
  | (with_reducible refine rd_I0 ?_) | (with_reducible refine rd_U ?_) | (with_reducible refine rd_test ?_) | (with_reducible refine rd_B ?_) | (with_reducible refine rd_k ?_)
  | (with_reducible refine rd_not ?_) | (with_reducible refine rd_and ?_) | (with_reducible refine rd_or ?_) | (with_reducible refine rd_ifE ?_)
  | (with_reducible refine rd_par ?_) | ((with_reducible refine rd_par2 (σ' := ?ss) ?hs ?_); (case hs => (dsimp only [List.set]; exact rfl)))
  | (with_reducible refine rd_gsub ?_) | (with_reducible refine rd_andV ?_) | (with_reducible refine rd_orV ?_) | (with_reducible refine rd_notV ?_)
  | (with_reducible refine rd_lc ?_) | (with_reducible refine rd_iTup ?_) | (with_reducible refine rd_iList ?_) | (with_reducible refine rd_iRng1 ?_) | (with_reducible refine rd_iRng2 ?_) | (with_reducible refine rd_iEnumT ?_) | (with_reducible refine rd_iEnum ?_) | (with_reducible refine rd_iZipM ?_) | (with_reducible refine rd_iEnumS ?_) | (with_reducible refine rd_iKeys ?_) | (with_reducible refine rd_din ?_) | (with_reducible refine rd_dnotin ?_)
  | (with_reducible refine rd_yes ?_) | (with_reducible refine rd_true ?_) | (with_reducible refine rd_false ?_) | (with_reducible refine rd_m1 ?_) | (with_reducible refine rd_isS ?_)
  | ((with_reducible refine rd_eq ?hs ?_); (case hs => exact rfl)) | ((with_reducible refine rd_ne ?hs ?_); (case hs => exact rfl))
  | (with_reducible refine rd_listRg ?_) | (with_reducible refine rd_rg2 ?_) | (with_reducible refine rd_rgk ?_)
  | (with_reducible refine rd_dnew ?_) | (with_reducible refine rd_ddel ?_) | (with_reducible refine rd_kw ?_) | (with_reducible refine rd_callS ?_) | (with_reducible refine rd_dc ?_) | (with_reducible refine rd_for ?_) | (with_reducible refine rd_tru ?_) | (with_reducible refine rd_truI ?_)
  | (with_reducible refine rd_nil ?_) | (with_reducible refine rd_cons ?_) | (with_reducible refine rd_call ?_) | (with_reducible refine rd_cb ?_)
  | (with_reducible refine rd_tup ?_) | (with_reducible refine rd_lst ?_) | (with_reducible refine rd_dget ?_) | (with_reducible refine rd_dput ?_) | (with_reducible refine rd_dget2 ?_) | (with_reducible refine rd_sl ?_)
  | (with_reducible refine rd_nopart ?_) | (with_reducible refine rd_part ?_) | (with_reducible refine rd_parti ?_) | (with_reducible refine rd_bm ?_) | (with_reducible refine rd_bm0 ?_)
  | (with_reducible refine rd_int ?_) | (with_reducible refine rd_intb ?_) | (with_reducible refine rd_abs ?_) | (with_reducible refine rd_min2 ?_) | (with_reducible refine rd_max2 ?_))
local macro_rules | `(tactic| walk_at "rqs") => `(tactic| repeat (walk_at "rq"))
local macro_rules | `(tactic| walk_at "rv") => `(tactic| first
  | (with_reducible refine rd_seq ?_) | (with_reducible refine rd_asg ?_) | (with_reducible refine rd_ret ?_) | (with_reducible refine rd_next ?_)
  | (with_reducible refine rd_drop ?_) | ((with_reducible refine rd_name (σ' := ?ss) ?hs ?_); (case hs => (dsimp only [List.set]; exact rfl)))
  | ((with_reducible refine rd_var (v := ?vv) ?hv ?_); (case hv => exact rfl)) | (with_reducible refine rd_c ?_) | (with_reducible refine rd_op ?_) | (with_reducible refine rd_un ?_)
  | (with_reducible refine rd_I0 ?_) | (with_reducible refine rd_U ?_) | (with_reducible refine rd_test ?_) | (with_reducible refine rd_B ?_) | (with_reducible refine rd_k ?_)
  | (with_reducible refine rd_not ?_) | (with_reducible refine rd_and ?_) | (with_reducible refine rd_or ?_)
  | (with_reducible refine rd_par ?_) | ((with_reducible refine rd_par2 (σ' := ?ss) ?hs ?_); (case hs => (dsimp only [List.set]; exact rfl)))
  | (with_reducible refine rd_gsub ?_) | (with_reducible refine rd_andV ?_) | (with_reducible refine rd_orV ?_) | (with_reducible refine rd_notV ?_)
  | (with_reducible refine rd_lc ?_) | (with_reducible refine rd_iTup ?_) | (with_reducible refine rd_iList ?_) | (with_reducible refine rd_iRng1 ?_) | (with_reducible refine rd_iRng2 ?_) | (with_reducible refine rd_iEnumT ?_) | (with_reducible refine rd_iEnum ?_) | (with_reducible refine rd_iZipM ?_) | (with_reducible refine rd_iEnumS ?_) | (with_reducible refine rd_iKeys ?_) | (with_reducible refine rd_din ?_) | (with_reducible refine rd_dnotin ?_)
  | (with_reducible refine rd_yes ?_) | (with_reducible refine rd_true ?_) | (with_reducible refine rd_false ?_) | (with_reducible refine rd_m1 ?_) | (with_reducible refine rd_isS ?_)
  | ((with_reducible refine rd_eq ?hs ?_); (case hs => exact rfl)) | ((with_reducible refine rd_ne ?hs ?_); (case hs => exact rfl))
  | (with_reducible refine rd_listRg ?_) | (with_reducible refine rd_rg2 ?_) | (with_reducible refine rd_rgk ?_)
  | (with_reducible refine rd_dnew ?_) | (with_reducible refine rd_ddel ?_) | (with_reducible refine rd_kw ?_) | (with_reducible refine rd_callS ?_) | (with_reducible refine rd_dc ?_) | (with_reducible refine rd_for ?_) | (with_reducible refine rd_tru ?_) | (with_reducible refine rd_truI ?_)
  | (with_reducible refine rd_nil ?_) | (with_reducible refine rd_cons ?_) | (with_reducible refine rd_call ?_) | (with_reducible refine rd_cb ?_)
  | (with_reducible refine rd_tup ?_) | (with_reducible refine rd_lst ?_) | (with_reducible refine rd_dget ?_) | (with_reducible refine rd_dput ?_) | (with_reducible refine rd_dget2 ?_) | (with_reducible refine rd_sl ?_)
  | (with_reducible refine rd_nopart ?_) | (with_reducible refine rd_part ?_) | (with_reducible refine rd_parti ?_) | (with_reducible refine rd_bm ?_) | (with_reducible refine rd_bm0 ?_)
  | (with_reducible refine rd_int ?_) | (with_reducible refine rd_intb ?_) | (with_reducible refine rd_abs ?_) | (with_reducible refine rd_min2 ?_) | (with_reducible refine rd_max2 ?_))
local macro_rules | `(tactic| walk_at "rvs") => `(tactic| repeat (walk_at "rv"))

theorem rd_disp3 {t1 t2 t3 t4 t5 t6 : TE} {σ : L2.St} {H : Hp} {Q : VK} (h : ∀ p, H p = none → t1 σ (upd H p (.dK [])) fun x1 H1 => t2 σ H1 fun y1 H2 => t3 σ H2 fun x2 H3 => t4 σ H3 fun y2 H4 => t5 σ H4 fun x3 H5 => t6 σ H5 fun y3 H6 =>
    H6 p = some (.dK []) ∧ ∃ kvs : List (Key × V), [(x1, y1), (x2, y2), (x3, y3)] = kvs.map (fun kv => (kV kv.1, kv.2)) ∧ kvs.length ≤ 15 ∧ Q (.ref p) (upd H6 p (.dK (mergeK [] kvs)))) : tDisp [(t1, t2), (t3, t4), (t5, t6)] σ H Q := h
section
variable {P : Program} {w : World} {K : PySem.W.Frag} {mg : Str → Option Value} {base : Heap}
def spTake : Sp := fun vs H Q _ => ∃ (d l : Addr) (many : Int), vs = [.ref d, .int many] ∧ DeckT d l H ∧ 0 ≤ many ∧ many ≤ 1000000 ∧
  ∀ (r : Int) (H' : Hp), Gt d l H H' → 0 ≤ r → (r < many ∨ r = 0) → Q (.int r) H'
theorem ok_take {f : Addr} {fd : FuncData} (F : Fun K "_law_take" "_law_take" s_law_take f fd) (T : Bl mg) : FnOk P w K mg base CX0 1 f fd ["bag", "many"] spTake := by
  refine F.ok sc_law_take (fun vs H Q E h => ?_) (fun cdv A outer s H vs Q E hr h => ?_)
  · obtain ⟨d, l, many, rfl, _⟩ := h
    rfl
  · obtain ⟨d, l, many, rfl, hD, h1, h2, q⟩ := h
    refine ⟨_, (pss_cons (ps_if (pt_cmpR op_lt (pv 1) pe_int (nomark _)) (pss_one (ps_ret pe_int)) pss_nil)
 (pss_cons (ps_if (pt_cmpR (op_ne0 (K := K) rfl hr.units) (pe_dget (hu_of hr) (pv 0) pe_str (fun _ _ => rfl)) (pe_lst pa_nil) (nomark _)) (pss_cons (ps_set (i := 2) sc_law_take.nd rfl (Or.inl rfl) (pe_bm0 PySem.F.plainAttrs_list PySem.F.slot_list_pop PySem.F.type_list_pop mt_pop (pe_dget (hu_of hr) (pv 0) pe_str (fun _ _ => rfl))))
 (pss_cons (ps_if (pt_cmpR op_ge (pv 2) (pv 1) (nomark _)) (pss_one (ps_expr (pe_bm PySem.F.plainAttrs_list PySem.F.slot_list_append PySem.F.type_list_append mt_append (pe_dget (hu_of hr) (pv 0) pe_str (fun _ _ => rfl)) (pa_cons (pe_op op_fdivW (pv 2) (pv 1)) pa_nil)))) pss_nil)
 (pss_one (ps_ret (pe_op op_mod (pe_callTy c_int (by rfl) T.int (by decide +kernel) (pa_cons (pv 2) pa_nil)) (pv 1)))))) pss_nil)
 (pss_cons (ps_dput (hu_of hr) (pv 0) pe_str (pe_op op_add (pe_dget (hu_of hr) (pv 0) pe_str (fun _ _ => rfl)) pe_int) rfl)
 (pss_cons (ps_set (i := 3) sc_law_take.nd rfl (Or.inl rfl) (pe_op op_mod (pe_callTy c_int (by rfl) T.int (by decide +kernel) (pa_cons (pe_op op_add (pe_op op_mul (pe_dget (hu_of hr) (pv 0) pe_str (fun _ _ => rfl)) pe_int) (pe_op op_mul pe_int (pe_dget (hu_of hr) (pv 0) pe_str (fun _ _ => rfl)))) pa_nil)) pe_int))
 (pss_cons (ps_dput (hu_of hr) (pv 0) pe_str (pv 3) rfl)
 (pss_one (ps_ret (pe_op op_mod (pe_callTy c_int (by rfl) T.int (by decide +kernel) (pa_cons (pe_op op_fdivW (pv 3) pe_int) pa_nil)) (pv 1))))))))), ?_⟩
    refine rd_start (σ' := [some (.ref d), some (.int many), none, none]) rfl ?_
    obtain ⟨ns, s, c, e1, e2, hl, hp⟩ := id hD
    have hdl := hD.ne
    walk_at "rds"
    refine rd_ite (fun c1 => ?_) (fun c1 => ?_)
    · walk_at "rds"
      exact q 0 H (Gt.refl hD) (by omega) (.inr rfl)
    walk_at "rds"
    refine ⟨d, .ref l, rfl, dk3_great e1, ?_⟩
    walk_at "rds"
    refine ⟨Nat.zero_le _, fun p hp0 => ?_⟩
    obtain ⟨n1, n2⟩ := hD.off hp0
    have f1 : (upd H p (.lst [])) d = _ := (upd_ne n1.symm).trans e1
    have f2 : (upd H p (.lst [])) l = _ := (upd_ne n2.symm).trans e2
    refine rd_ne0 (SqL.of f2) (SqL.of upd_same) ?_
    walk_at "rds"
    refine rd_iteb (fun c2 => ?_) (fun c2 => ?_)
    · walk_at "rds"
      obtain ⟨m, z, rfl⟩ : ∃ m z, ns = m ++ [z] := by
        rcases List.eq_nil_or_concat ns with rfl | ⟨m, z, rfl⟩
        · cases c2
        · exact ⟨m, z, by simp⟩
      rw [List.map_append] at f2
      have z0 : 0 ≤ z := hp z (List.mem_append_right _ List.mem_cons_self)
      have hm : ∀ n ∈ m, 0 ≤ n := fun n hn => hp n (List.mem_append_left _ hn)
      have hml : m.length + 1 ≤ 63 := by simpa using hl
      refine ⟨d, .ref l, rfl, dk3_great f1, rd_tyL f2 (rd_pop f2 ?_)⟩
      have g1 : (upd (upd H p (.lst [])) l (.lst (m.map V.int))) d = _ := (upd_ne hdl).trans f1
      have g2 : (upd (upd H p (.lst [])) l (.lst (m.map V.int))) l = _ := upd_same
      walk_at "rds"
      refine rd_ite (fun c3 => ?_) (fun c3 => ?_)
      · walk_at "rds"
        refine ⟨d, .ref l, rfl, dk3_great g1, rd_tyL g2 ?_⟩
        walk_at "rds"
        refine rd_I (wide_div (b := 64) (by omega) (by omega) (by decide) (by decide)) ?_
        walk_at "rds"
        refine rd_append g2 (by rw [List.length_map]; omega) ?_
        walk_at "rds"
        refine rd_I (by omega) ?_
        have hq : 0 ≤ z / many := Int.ediv_nonneg z0 (by omega)
        refine q (z % many) _ ⟨⟨m ++ [z / many], s, c, (upd_ne hdl).trans g1, ?_, by rw [List.length_append]; exact hml, fun n hn => ?_⟩, fun a o m1 m2 e => ?_⟩ (Int.emod_nonneg _ (by omega)) (.inl (Int.emod_lt_of_pos _ (by omega)))
        · rw [upd_same, List.map_append] <;> rfl
        · rcases List.mem_append.mp hn with h | h
          · exact hm n h
          · rw [List.mem_singleton.mp h]
            exact hq
        · rw [upd_ne m2, upd_ne m2, upd_ne (ne_of_none e hp0)]
          exact e
      · walk_at "rds"
        refine rd_I (by omega) ?_
        refine q (z % many) _ ⟨⟨m, s, c, g1, g2, by omega, hm⟩, fun a o m1 m2 e => ?_⟩ (Int.emod_nonneg _ (by omega)) (.inl (Int.emod_lt_of_pos _ (by omega)))
        rw [upd_ne m2, upd_ne (ne_of_none e hp0)]
        exact e
    · walk_at "rds"
      refine ⟨d, .int c, rfl, dk3_turn f1, ?_⟩
      walk_at "rds"
      refine ⟨d, _, rfl, dk3_putT (t := c + 1) f1, ?_⟩
      have f3 : (upd (upd H p (.lst [])) d (dk3 l s (c + 1))) d = some (dk3 l s (c + 1)) := upd_same
      walk_at "rds"
      refine ⟨d, .int s, rfl, dk3_seed f3, ?_⟩
      walk_at "rds"
      refine rd_I (.inr ⟨by decide, by decide⟩) ?_
      walk_at "rds"
      refine ⟨d, .int (c + 1), rfl, dk3_turn f3, ?_⟩
      walk_at "rds"
      refine rd_I (.inl ⟨by decide, by decide⟩) ?_
      walk_at "rds"
      refine rd_I (by decide) ?_
      walk_at "rds"
      generalize (s * 3935559000370003845 + 2691343689449507681 * (c + 1)) % 9223372036854775783 = one
      refine ⟨d, _, rfl, dk3_putS (t := one) f3, ?_⟩
      walk_at "rds"
      refine rd_I (wide_div (b := 64) (by decide) (by decide) (by decide) (by decide)) ?_
      walk_at "rds"
      refine rd_I (by omega) ?_
      refine q _ _ ⟨⟨ns, one, c + 1, upd_same, (upd_ne hdl.symm).trans ((upd_ne hdl.symm).trans f2), hl, hp⟩, fun a o m1 m2 e => ?_⟩ (Int.emod_nonneg _ (by omega)) (.inl (Int.emod_lt_of_pos _ (by omega)))
      rw [upd_ne m1, upd_ne m1, upd_ne (ne_of_none e hp0)]
      exact e
def spPick : Sp := fun vs H Q _ => ∃ (d l p : Addr) (ys : List V), vs = [.ref d, .ref p] ∧ DeckT d l H ∧ H p = some (.lst ys) ∧ p ≠ d ∧ p ≠ l ∧ 1 ≤ ys.length ∧ ys.length ≤ 1000 ∧
  ∀ (y : V) (H' : Hp), Gt d l H H' → y ∈ ys → Q y H'
theorem ok_pick {f fD : Addr} {fd fdD : FuncData} (F : Fun K "_law_pick" "_law_pick" s_law_pick f fd) (T : Bl mg)
    (G_law_take : FnOk P w K mg base CX0 1 fD fdD ["bag", "many"] spTake) (C_law_take : Callee K mg "_law_take" fD fdD ["bag", "many"]) :
    FnOk P w K mg base CX0 2 f fd ["bag", "some"] spPick := by
  refine F.ok sc_law_pick (fun vs H Q E h => ?_) (fun cdv A outer s H vs Q E hr h => ?_)
  · obtain ⟨d, l, p, ys, rfl, _⟩ := h
    rfl
  · obtain ⟨d, l, p, ys, rfl, hD, hp, n1, n2, h1, h2, q⟩ := h
    refine ⟨_, (pss_one (ps_ret (pe_ix (ik_list (K := K) rfl) (pv 1) (pe_call G_law_take (hr.mono (by decide)) (by rfl) C_law_take.m C_law_take.k C_law_take.b .nil pass0 (pa_cons (pv 0) (pa_cons (pe_callB (c_len (K := K) rfl) (by rfl) T.len (by decide +kernel) (pa_cons (pv 1) pa_nil)) pa_nil))) (fun _ _ => rfl)))), ?_⟩
    refine rd_start (σ' := [some (.ref d), some (.ref p)]) rfl ?_
    walk_at "rds"
    refine rd_lenL (SqL.of hp) ?_
    walk_at "rds"
    refine ⟨d, l, (ys.length : Int), rfl, hD, by omega, by omega, fun r H1 g r0 r1 => ?_⟩
    obtain ⟨k, rfl, hk⟩ : ∃ k : Nat, r = (k : Int) ∧ k < ys.length := ⟨r.toNat, by omega, by omega⟩
    walk_at "rds"
    refine rd_ixL (SqL.of (g.kp p _ n1 n2 hp)) (atI_nat (List.getElem?_eq_getElem hk)) ?_
    exact q _ _ g (List.getElem_mem _)
def spBag (K : PySem.W.Frag) : Sp := fun vs H Q _ => ∃ (a : Addr) (ns : List Int), vs = [.ref a] ∧ SqL K H a (ns.map V.int) ∧ ns.length ≤ 63 ∧
  ∀ (d l : Addr) (H' : Hp), Evl.Ex H H' → H d = none → H l = none → DeckT d l H' → Q (.ref d) H'
theorem ok_bag {f : Addr} {fd : FuncData} (F : Fun K "_law_bag" "_law_bag" s_law_bag f fd) (T : Bl mg) : FnOk P w K mg base CX0 1 f fd ["script"] (spBag K) := by
  refine F.ok sc_law_bag (fun vs H Q E h => ?_) (fun cdv A outer s H vs Q E hr h => ?_)
  · obtain ⟨a, ns, rfl, _⟩ := h
    rfl
  · obtain ⟨a, ns, rfl, ha, hl, q⟩ := h
    refine ⟨_, (pss_cons (ps_set (i := 1) sc_law_bag.nd rfl (Or.inl rfl) (pe_disp (pps_cons pe_str (pe_lst pa_nil) (pps_cons pe_str (pe_op op_add pe_int (pe_callB (c_len (K := K) rfl) (by rfl) T.len (by decide +kernel) (pa_cons (pe_slice (sk_list (K := K) rfl) (pv 0) po_none (po_some pe_int)) pa_nil))) (pps_cons pe_str pe_int pps_nil))) (by rfl) (by rfl) (fun z => by cases z) (by decide)))
 (pss_cons (ps_for PassesOwn.never rfl (ik_listI (K := K) rfl (pe_slice (sk_list (K := K) rfl) (pv 0) po_none (po_some pe_int))) (pg_name (i := 2) sc_law_bag.nd rfl (Or.inl rfl)) (pss_cons (ps_if (pt_cmpR op_ge (pe_callB c_abs (by rfl) T.abs (by decide +kernel) (pa_cons (pv 2) pa_nil)) (pe_op op_pow pe_int pe_int) (nomark _)) (pss_one (ps_dput (hu_of hr) (pv 1) pe_str (pe_op op_cat (pe_lst (pa_cons (pe_callB c_abs (by rfl) T.abs (by decide +kernel) (pa_cons (pv 2) pa_nil)) pa_nil)) (pe_dget (hu_of hr) (pv 1) pe_str (fun _ _ => rfl))) rfl)) pss_nil)
 (pss_cons (ps_set (i := 3) sc_law_bag.nd rfl (Or.inl rfl) (pe_op op_add (pe_op op_mul pe_int (pe_callB c_abs (by rfl) T.abs (by decide +kernel) (pa_cons (pv 2) pa_nil))) (pe_callTy c_int (by rfl) T.int (by decide +kernel) (pa_cons (pe_cmpR op_lt (pv 2) pe_int (nomark _)) pa_nil))))
 (pss_one (ps_dput (hu_of hr) (pv 1) pe_str (pe_op op_mod (pe_callTy c_int (by rfl) T.int (by decide +kernel) (pa_cons (pe_op op_add (pe_op op_mul (pe_op op_add (pe_op op_add (pe_dget (hu_of hr) (pv 1) pe_str (fun _ _ => rfl)) (pv 3)) pe_int) pe_int) pe_int) pa_nil)) pe_int) rfl)))))
 (pss_one (ps_ret (pv 1))))), ?_⟩
    refine rd_start (σ' := [some (.ref a), none, none, none]) rfl ?_
    walk_at "rds"
    refine rd_disp3 fun d hd => ?_
    have e1 : Evl.Ex H (upd H d (.dK [])) := Evl.Ex.new hd
    walk_at "rds"
    refine ⟨Nat.zero_le _, fun l hl0 => ?_⟩
    have hdl : d ≠ l := ne_of_none upd_same hl0
    have e2 := e1.trans (Evl.Ex.new (o := .lst []) hl0)
    walk_at "rds"
    refine rd_slL (Evl.ex_l e2 ha) fun u hu => ?_
    have e3 := e2.trans (Evl.Ex.new (o := .lst (cutV (ns.map V.int) none (some 63))) hu)
    rw [show ((63 : Int)) = ((63 : Nat) : Int) from rfl, cut_take (by omega), List.take_of_length_le (by rw [List.length_map]; exact hl)] at e3 ⊢
    walk_at "rds"
    refine rd_lenL (SqL.of upd_same) ?_
    rw [List.length_map]
    walk_at "rds"
    have hdu : d ≠ u := ne_of_none ((upd_ne hdl).trans upd_same) hu
    have hlu : l ≠ u := ne_of_none upd_same hu
    refine ⟨(upd_ne hdu).trans ((upd_ne hdl).trans upd_same), [(.inr "great", .ref l), (.inr "seed", .int (730069 + (ns.length : Int))), (.inr "turn", .int 0)], rfl, (by show 3 ≤ 15; decide), ?_⟩
    have e4 := Evl.Ex.mut (o := .dK (mergeK [] [(.inr "great", .ref l), (.inr "seed", .int (730069 + (ns.length : Int))), (.inr "turn", .int 0)])) e3 hd
    walk_at "rds"
    refine rd_slL (Evl.ex_l e4 ha) fun v hv => ?_
    have e5 := e4.trans (Evl.Ex.new (o := .lst (cutV (ns.map V.int) none (some ((63 : Nat) : Int)))) hv)
    rw [cut_take (by omega), List.take_of_length_le (by rw [List.length_map]; exact hl)] at e5 ⊢
    have hdv : d ≠ v := ne_of_none upd_same hv
    have hlv : l ≠ v := ne_of_none ((upd_ne hdl.symm).trans ((upd_ne hlu).trans upd_same)) hv
    have hl1 : H l = none := Evl.fresh_back e1 hl0
    have hv1 : H v = none := Evl.fresh_back e4 hv
    refine rd_refL (SqL.of upd_same) ?_
    refine fr_list (xs := ns.map V.int) (fun i σ' H' => ∃ (ms : List Int) (m : Addr) (s : Int) (y z : Option V), σ' = [some (.ref a), some (.ref d), y, z] ∧ Evl.Ex H H' ∧ H' d = some (dk3 m s 0) ∧ H' m = some (.lst (ms.map V.int)) ∧ H m = none ∧
        ms.length ≤ i ∧ (∀ k ∈ ms, 0 ≤ k) ∧ H' v = some (.lst (ns.map V.int)))
      ⟨[], l, _, none, none, rfl, e5, (upd_ne hdv).trans upd_same, (upd_ne hlv).trans ((upd_ne hdl.symm).trans ((upd_ne hlu).trans upd_same)), hl1, Nat.le_refl _, nofun, upd_same⟩
      (fun i σ' H' _ ⟨_, _, _, _, _, _, _, _, _, _, _, _, h⟩ => SqL.of h) (fun i x σ' H1 hi hP => ?_) fun σ' H1 hP => ?_
    · obtain ⟨ms, m, s, y0, z0, rfl, f1, f2, f3, f4, f5, f6, f9⟩ := hP
      rw [List.getElem?_map] at hi
      obtain ⟨t, ht, rfl⟩ := Option.map_eq_some_iff.mp hi
      refine rd_start (σ' := [some (.ref a), some (.ref d), some (.int t), z0]) rfl ?_
      walk_at "rds"
      refine rd_I ⟨by decide, by decide, by decide⟩ ?_
      walk_at "rds"
      refine rd_meet (fun σ' H' => ∃ (ms : List Int) (m : Addr), σ' = [some (.ref a), some (.ref d), some (.int t), z0] ∧ Evl.Ex H H' ∧ H' d = some (dk3 m s 0) ∧ H' m = some (.lst (ms.map V.int)) ∧ H m = none ∧
        ms.length ≤ i + 1 ∧ (∀ k ∈ ms, 0 ≤ k) ∧ H' v = some (.lst (ns.map V.int))) (fun c N kN => ?_) (fun c N kN => ?_) fun σ' H2 hP => ?_
      · walk_at "rds"
        refine ⟨(by show 1 ≤ sizeLine; decide), fun b hb => ?_⟩
        have g1 := Evl.Ex.new (H := H1) (o := .lst [V.int (t.natAbs : Int)]) hb
        walk_at "rds"
        refine ⟨d, .ref m, rfl, dk3_great (g1 _ _ f2), ?_⟩
        refine rd_catL upd_same (g1 _ _ f3) (by rw [List.length_map, sizeLine_eq]; show 1 + _ ≤ _; have := (List.getElem?_eq_some_iff.mp ht).1; omega) fun r hr => ?_
        have g2 := g1.trans (Evl.Ex.new (o := .lst ([V.int (t.natAbs : Int)] ++ ms.map V.int)) hr)
        walk_at "rds"
        refine ⟨d, _, rfl, dk3_putG (m := r) (g2 _ _ f2), ?_⟩
        have hr1 : H1 r = none := Evl.fresh_back g1 hr
        have ndr : d ≠ r := ne_of_none f2 hr1
        have ndv : d ≠ v := hdv
        refine kN _ _ ⟨(t.natAbs : Int) :: ms, r, rfl, Evl.Ex.mut (f1.trans g2) hd, upd_same, (upd_ne ndr.symm).trans upd_same, Evl.fresh_back f1 hr1, by rw [List.length_cons]; omega, fun k hk => ?_, (upd_ne ndv.symm).trans (g2 _ _ f9)⟩
        rcases List.mem_cons.mp hk with rfl | hk
        · omega
        · exact f6 k hk
      · walk_at "rds"
        exact kN _ _ ⟨ms, m, rfl, f1, f2, f3, f4, by omega, f6, f9⟩
      clear f1 f2 f3 f4 f5 f6 f9
      obtain ⟨ms', m', rfl, f1, f2, f3, f4, f5, f6, f9⟩ := hP
      walk_at "rds"
      refine rd_I (.inl ⟨by decide, by decide⟩) ?_
      walk_at "rds"
      refine ⟨d, .int s, rfl, dk3_seed f2, ?_⟩
      walk_at "rds"
      refine rd_I (.inr ⟨by decide, by decide⟩) ?_
      walk_at "rds"
      refine rd_I (by decide) ?_
      walk_at "rds"
      have ndm : d ≠ m' := fun e => by
        rw [← e, f2] at f3
        cases f3
      refine ⟨d, _, rfl, dk3_putS f2, ms', m', _, _, _, rfl, Evl.Ex.mut f1 hd, upd_same, (upd_ne ndm.symm).trans f3, f4, f5, f6, (upd_ne hdv.symm).trans f9⟩
    · obtain ⟨ms, m, s, y0, z0, rfl, f1, f2, f3, f4, f5, f6, f9⟩ := hP
      rw [List.length_map] at f5
      walk_at "rds"
      exact q d m H1 f1 hd f4 ⟨ms, s, 0, f2, f3, by omega, f6⟩
end
end KA
set_option Elab.async false
set_option linter.all false
set_option maxRecDepth 100000
set_option maxHeartbeats 400000
/-! A for over enumerate of a tuple; what lies off the deck. -/
namespace Ea
open PySem PySem.Spec PyProof PyProof.Rows L2
theorem rd_ifV {tt : TT} {te tz : TE} {σ : L2.St} {H : Hp} {Q : VK} (I : V → Hp → Prop) (h1 : ∀ Q' : VK, (∀ v H', I v H' → Q' v H') → tIf tt te tz σ H Q') (h : ∀ v H', I v H' → Q v H') : tIf tt te tz σ H Q := h1 Q h
section
variable {K : PySem.W.Frag} {σ : L2.St} {H : Hp} {tb : TS} {D : Ends} {j1 j2 k : Nat} {n : Nat} {px py : Nat → V} {J : It}
/-- a for over pairs that are made for it -/
theorem fr_pairs (hk : k = 2) (Pv : Nat → L2.St → Hp → Prop) (h0 : Pv 0 σ H) (go : ∀ i σ H', Pv i σ H' → i < n → J.go i H') (stop : ∀ σ H', Pv n σ H' → J.stop n H')
    (yld : ∀ i σ H1 x H2, Pv i σ H1 → i < n → J.yld i H1 x H2 → ∃ T, x = .ref T ∧ H1 T = none ∧ H2 = upd H1 T (.tup [px i, py i]))
    (hs : ∀ i σ H1 T, i < n → Pv i σ H1 → H1 T = none → tb { D with nx := Pv (i + 1), ct := Pv (i + 1), bk := D.nx } ((σ.set j1 (some (px i))).set j2 (some (py i))) (upd H1 T (.tup [px i, py i])))
    (hd : ∀ σ H, Pv n σ H → D.nx σ H) : ForR (gTup K k (gCons (gName j1) (gCons (gName j2) gNil))) tb D σ J H := by
  refine ⟨fun i m σ' H' => i + m = n ∧ Pv i σ' H', ⟨n, by omega, h0⟩, fun i m σ' H' hW => ?_⟩
  obtain ⟨em, hp⟩ := hW
  by_cases hi : i < n
  · refine .inr ⟨go i σ' H' hp hi, Pv (i + 1), fun σ2 H2 h2 => ⟨m - 1, by omega, by omega, h2⟩, fun x H2 hy => ?_⟩
    obtain ⟨T, rfl, hT, rfl⟩ := yld i σ' H' x H2 hp hi hy
    exact rd_gtup2 (x := px i) (y := py i) (SqT.of upd_same) hk rfl (hs i σ' H' T hi hp hT)
  · have hin : i = n := by omega
    subst hin
    exact .inl ⟨stop σ' H' hp, hd σ' H' hp⟩
theorem fr_enumT {a : Addr} {xs : List V} (hk : k = 2) (Pv : Nat → L2.St → Hp → Prop) (h0 : Pv 0 σ H) (hl : ∀ i σ H, Pv i σ H → SqT K H a xs)
    (hs : ∀ i σ H1 T, i < xs.length → Pv i σ H1 → H1 T = none → tb { D with nx := Pv (i + 1), ct := Pv (i + 1), bk := D.nx } ((σ.set j1 (some (.int (i : Nat)))).set j2 (some (xs.getD i .non))) (upd H1 T (.tup [.int (i : Nat), xs.getD i .non])))
    (hd : ∀ σ H, Pv xs.length σ H → D.nx σ H) : ForR (gTup K k (gCons (gName j1) (gCons (gName j2) gNil))) tb D σ (IteT K a) H :=
  fr_pairs (px := fun i => .int (i : Nat)) (py := fun i => xs.getD i .non) hk Pv h0 (fun i σ H' p hi => ⟨xs, xs[i], hl i σ H' p, List.getElem?_eq_getElem hi⟩) (fun σ H' p => ⟨xs, hl _ σ H' p, rfl⟩)
    (fun i σ H1 x H2 p hi hy => by
      obtain ⟨T, y, rfl, hT, rfl, h⟩ := hy
      have := h xs (hl i σ H1 p)
      refine ⟨T, rfl, hT, ?_⟩
      show _ = upd H1 T (.tup [.int (i : Nat), xs.getD i .non])
      rw [List.getD_eq_getElem?_getD, this] <;> rfl) hs hd
end
/-! ### off the deck -/
def off (d l : Addr) (H : Hp) : Hp := fun a => if a = d ∨ a = l then none else H a
section
variable {d l : Addr} {H H' : Hp} {K : PySem.W.Frag}
theorem off_ex : Evl.Ex (off d l H) H := fun a o e => by
  unfold off at e
  by_cases h : a = d ∨ a = l
  · rw [if_pos h] at e
    cases e
  · rw [if_neg h] at e
    exact e
theorem off_mono (h : ∀ a o, a ≠ d → a ≠ l → H a = some o → H' a = some o) : Evl.Ex (off d l H) (off d l H') := fun a o e => by
  unfold off at e ⊢
  by_cases q : a = d ∨ a = l
  · rw [if_pos q] at e
    cases e
  · rw [if_neg q] at e ⊢
    exact h a o (fun z => q (.inl z)) (fun z => q (.inr z)) e
theorem Gl.off (g : Gl d l H H') : Evl.Ex (off d l H) (off d l H') := off_mono g.kp
theorem off_at {p : Addr} {o : HO} (h1 : p ≠ d) (h2 : p ≠ l) (e : H p = some o) : Ea.off d l H p = some o := by
  unfold Ea.off
  rw [if_neg fun z => z.elim h1 h2]
  exact e
theorem off_tup {a : Addr} {xs : List V} (hD : DeckL d l H) (h : SqT K H a xs) : SqT K (Ea.off d l H) a xs := by
  obtain ⟨ns, m, c, e1, e2, _⟩ := hD
  have hn : ∀ {o : HO}, H a = some o → (∀ ys, o ≠ .lst ys) → Ea.off d l H a = some o := fun e c2 =>
    off_at (fun z => (by rw [z, e1] at e; cases e; exact c2 _ rfl)) (fun z => (by rw [z, e2] at e; cases e; exact c2 _ rfl)) e
  rcases h with (t | ⟨o, t⟩) | t
  · exact .inl (.inl (hn t nofun))
  · exact .inl (.inr ⟨o, hn t nofun⟩)
  · exact .inr t
mutual
theorem off_dp (hD : DeckL d l H) : ∀ (e : PyData) (v : V), noL e = true → Dp K H v e → Dp K (Ea.off d l H) v e
  | .none, _, _, h => by
    cases h
    exact .non
  | .bool b, _, _, h => by
    cases h
    exact .bl b
  | .int i, _, _, h => by
    cases h
    exact .int i
  | .str x, _, _, h => by
    cases h
    exact .str x
  | .list ds, _, c, _ => by cases c
  | .dict ds, _, c, _ => by cases c
  | .tuple ds, _, c, h => by
    cases h with
    | tup hs ha => exact .tup (off_tup hD hs) (off_dps hD ds _ c ha)
theorem off_dps (hD : DeckL d l H) : ∀ (es : List PyData) (vs : List V), noLs es = true → DpAll K H vs es → DpAll K (Ea.off d l H) vs es
  | [], _, _, h => by
    cases h
    exact .nil
  | e :: es, _, c, h => by
    have c : (noL e && noLs es) = true := c
    rw [Bool.and_eq_true] at c
    cases h with
    | cons h1 h2 => exact .cons (off_dp hD e _ c.1 h1) (off_dps hD es _ c.2 h2)
end
theorem Dv.on {v : V} {e : PyData} (h : Dv K (Ea.off d l H) v e) : Dv K H v e := h.ex off_ex
theorem Dv.gl {v : V} {e : PyData} (g : Gl d l H H') (h : Dv K (Ea.off d l H) v e) : Dv K (Ea.off d l H') v e := h.ex g.off
end
/-! ### comprehensions over rows of data, each turned into a plain value -/
section
variable {K : PySem.W.Frag} {σ : L2.St} {H : Hp} {Q : VK} {tt : TT} {te : TE} {vs : List Nat} {j : Nat} {σx : V → L2.St} {a : Addr} {xs : List V} {ρ : Type} {F : ρ → PyData} {rs : List ρ} {f : ρ → Bool} {g : ρ → V}
abbrev TurnW (K : PySem.W.Frag) (H : Hp) (tt : TT) (te : TE) (σx : V → L2.St) (F : ρ → PyData) (f : ρ → Bool) (g : ρ → V) (r : ρ) : Prop :=
  ∀ (v : V) (H' : Hp) (N : VK) (S : Hp → Prop), Evl.Ex H H' → Dp K H' v (F r) → (f r = true → ∀ H3, Evl.Ex H' H3 → N (g r) H3) → (f r = false → ∀ H3, Evl.Ex H' H3 → S H3) →
    tt (σx v) H' fun b H2 => if b = true then te (σx v) H2 N else S H2
def Cw (H : Hp) (rs : List ρ) (f : ρ → Bool) (g : ρ → V) (D : Addr) (i : Nat) (H' : Hp) : Prop := H D = none ∧ Evl.Ex H H' ∧ H' D = some (.lst (((rs.take i).filter f).map g))
theorem cw_turn {D : Addr} {i : Nat} {r : ρ} {v : V} {H' : Hp} (hi : rs[i]? = some r) (hz : rs.length ≤ 40000) (ht : TurnW K H tt te σx F f g r) (hv : Dp K H v (F r)) (p : Cw H rs f g D i H') :
    tt (σx v) H' fun b H3 => if b = true then te (σx v) H3 fun y H4 => ∃ acc, H4 D = some (.lst acc) ∧ acc.length < sizeLine ∧ Cw H rs f g D (i + 1) (upd H4 D (.lst (acc ++ [y]))) else Cw H rs f g D (i + 1) H3 := by
  obtain ⟨e, ex, ea⟩ := p
  have hl : (((rs.take i).filter f).map g).length < 100000 := by
    rw [List.length_map]
    have h1 := List.length_filter_le f (rs.take i)
    have h3 := List.length_take (i := i) (l := rs)
    omega
  refine ht v H' _ _ ex (dp_ex ex _ _ hv) (fun hf H3 e3 => ?_) fun hf H3 e3 => ?_
  · refine ⟨_, e3 D _ ea, Evl.sz_lt hl, e, Evl.Ex.mut (ex.trans e3) e, ?_⟩
    have : ((some r).toList.filter f) = [r] := by simp [hf]
    rw [upd_same, List.take_add_one, hi, List.filter_append, List.map_append, this] <;> rfl
  · refine ⟨e, ex.trans e3, ?_⟩
    have : ((some r).toList.filter f) = [] := by simp [hf]
    rw [List.take_add_one, hi, List.filter_append, this, List.append_nil]
    exact e3 D _ ea
theorem lc_dvT (F : ρ → PyData) (f : ρ → Bool) (g : ρ → V) (hx : SqT K H a xs) (hd : DpAll K H xs (rs.map F)) (hz : rs.length ≤ 40000) (hσ : ∀ x, (wipe σ vs).set j (some x) = σx x) (hw : ∀ x, wipe (σx x) vs = wipe σ vs)
    (hs : ∀ r ∈ rs, TurnW K H tt te σx F f g r)
    (hq : ∀ D H', Evl.Ex H H' → H D = none → H' D = some (.lst ((rs.filter f).map g)) → Q (.ref D) H') : LcR (gName j) tt te vs σ Q (Itt K a) H := fun D hn =>
  lc_tup (xs := xs) (Cw H rs f g D) ⟨hn, Evl.Ex.new hn, upd_same⟩ (fun i H' _ ⟨_, ex, _⟩ => Evl.ex_t ex hx) (fun i x H' hi p => by
    obtain ⟨d, h1, h2⟩ := dpAll_at hd hi
    rw [List.getElem?_map] at h1
    obtain ⟨r, hr, rfl⟩ := Option.map_eq_some_iff.mp h1
    rw [show gName j x (wipe σ vs) H' = fun N => N (σx x) H' from funext fun N => by rw [← hσ x] <;> rfl]
    exact ⟨hw _, cw_turn hr hz (hs r (List.mem_of_getElem? hr)) h2 p⟩) fun H' p => by
    obtain ⟨e, ex, ea⟩ := p
    have lx := dpAll_size hd
    rw [List.length_map] at lx
    rw [lx, List.take_of_length_le (Nat.le_refl _)] at ea
    exact hq D H' ex e ea
theorem lc_dvL (F : ρ → PyData) (f : ρ → Bool) (g : ρ → V) (hx : SqL K H a xs) (hd : DpAll K H xs (rs.map F)) (hz : rs.length ≤ 40000) (hσ : ∀ x, (wipe σ vs).set j (some x) = σx x) (hw : ∀ x, wipe (σx x) vs = wipe σ vs)
    (hs : ∀ r ∈ rs, TurnW K H tt te σx F f g r)
    (hq : ∀ D H', Evl.Ex H H' → H D = none → H' D = some (.lst ((rs.filter f).map g)) → Q (.ref D) H') : LcR (gName j) tt te vs σ Q (Itl K a) H := fun D hn =>
  lc_list (xs := xs) (Cw H rs f g D) ⟨hn, Evl.Ex.new hn, upd_same⟩ (fun i H' _ ⟨_, ex, _⟩ => Evl.ex_l ex hx) (fun i x H' hi p => by
    obtain ⟨d, h1, h2⟩ := dpAll_at hd hi
    rw [List.getElem?_map] at h1
    obtain ⟨r, hr, rfl⟩ := Option.map_eq_some_iff.mp h1
    rw [show gName j x (wipe σ vs) H' = fun N => N (σx x) H' from funext fun N => by rw [← hσ x] <;> rfl]
    exact ⟨hw _, cw_turn hr hz (hs r (List.mem_of_getElem? hr)) h2 p⟩) fun H' p => by
    obtain ⟨e, ex, ea⟩ := p
    have lx := dpAll_size hd
    rw [List.length_map] at lx
    rw [lx, List.take_of_length_le (Nat.le_refl _)] at ea
    exact hq D H' ex e ea
end
theorem rd_noneI {K : PySem.W.Frag} {H : Hp} {Q : VK} {a p : Addr} {ns : List Int} (hx : SqL K H a (ns.map V.int)) (hp : SqL K H p []) (q : Q (.bl ns.isEmpty) H) : rEqD K (.ref a) (.ref p) H Q :=
  ⟨.list (dI ns), .list [], .lst hx (dp_ints ns), .lst hp .nil, shaped_ints ns, rfl, by cases ns <;> exact q⟩
theorem rd_someI {K : PySem.W.Frag} {H : Hp} {Q : VK} {a p : Addr} {ns : List Int} (hx : SqL K H a (ns.map V.int)) (hp : SqL K H p []) (q : Q (.bl (!ns.isEmpty)) H) : rNeD K (.ref a) (.ref p) H Q :=
  ⟨.list (dI ns), .list [], .lst hx (dp_ints ns), .lst hp .nil, shaped_ints ns, rfl, by cases ns <;> exact q⟩
/-! ### without the list at o -/
def wo (o : Addr) (H : Hp) : Hp := fun a => if a = o then none else H a
section
variable {d l o : Addr} {H H' : Hp} {K : PySem.W.Frag}
theorem wo_mono (h : ∀ a u, a ≠ o → H a = some u → H' a = some u) : Evl.Ex (wo o H) (wo o H') := fun a u e => by
  unfold wo at e ⊢
  by_cases q : a = o
  · rw [if_pos q] at e
    cases e
  · rw [if_neg q] at e ⊢
    exact h a u q e
theorem wo_ex : Evl.Ex (wo o H) H := fun a u e => by
  unfold wo at e
  by_cases h : a = o
  · rw [if_pos h] at e
    cases e
  · rw [if_neg h] at e
    exact e
theorem wo_new (h : H o = none) : Evl.Ex H (wo o H) := fun a u e => by
  unfold wo
  rw [if_neg (ne_of_none e h)]
  exact e
theorem wo_tup {a : Addr} {xs ys : List V} (ho : H o = some (.lst ys)) (h : SqT K H a xs) : SqT K (wo o H) a xs := by
  have hn : ∀ {u : HO}, H a = some u → (∀ ys, u ≠ .lst ys) → wo o H a = some u := fun e c => by
    unfold wo
    rw [if_neg fun z => (by rw [z, ho] at e; cases e; exact c _ rfl)]
    exact e
  rcases h with (t | ⟨u, t⟩) | t
  · exact .inl (.inl (hn t nofun))
  · exact .inl (.inr ⟨u, hn t nofun⟩)
  · exact .inr t
theorem wo_at {a : Addr} {u : HO} (h : a ≠ o) (e : H a = some u) : wo o H a = some u := by
  unfold wo
  rw [if_neg h]
  exact e
theorem wo_gl (g : Gl d l H H') : Evl.Ex (wo o (off d l H)) (wo o (off d l H')) := wo_mono fun a u _ e => g.off a u e
theorem wo_mut {u : HO} : Evl.Ex (wo o (off d l H)) (wo o (off d l (upd H o u))) := wo_mono fun a v h e => by
  unfold off at e ⊢
  by_cases q : a = d ∨ a = l
  · rw [if_pos q] at e
    cases e
  · rw [if_neg q] at e ⊢
    rw [upd_ne h]
    exact e
end
end Ea
set_option Elab.async false
set_option linter.all false
set_option maxRecDepth 100000
set_option maxHeartbeats 1000000
/-! A tuple times an int, also times one. -/
namespace Ea
open PySem PySem.Spec PyProof PyProof.Rows L2
theorem tuple_mul1 (l : Addr) (items : Array Value) (n : Nat) (dd : Option Addr) (sl : Array (Option Value)) (x : Int) (u : Tok) (c0 : (decide (x < -(2 ^ 63)) || decide (x ≥ 2 ^ 63)) = false) (c1 : (items.isEmpty || x == 1) = true) :
    Meets (Builtin.«tuple.__mul__» ⟨[.ref l, .int x u], []⟩) (fun _ R s => s.heap.get? l = some { cls := .type "tuple", dict := dd, data := .seq items n, slots := sl } ∧
      R (.ok (.ret (Value.ref l))) s) :=
  .of_wp fun prog w A R s h => by
    obtain ⟨hp, g, d, tk, os⟩ := s
    obtain ⟨hl, h⟩ := h
    have f1 := AutoSeq1.idx_int
    wp_walk using wpAny_loadPart' hl
    repeat (first
      | (refine wpAny_ite_false (decide_eq_false (by rw [c0]; exact Bool.false_ne_true)) ?_; wp_walk using wpAny_loadPart' hl)
      | (refine wpAny_ite_true (decide_eq_true c1) ?_; wp_walk using wpAny_loadPart' hl))
    exact ⟨_, rfl, h⟩
theorem op_repT1 {X : Cx} {K : PySem.W.Frag} (hK : X.K = K) : OpR X (binaryOp .Mult) (fun x y H Q => ∃ l xs, x = .ref l ∧ y = .int 1 ∧ SqT K H l xs ∧ Q (.ref l) H) := by
  subst hK
  intro pins s σ H x y v u Q I rx ry h
  obtain ⟨l, xs, rfl, rfl, hT, q⟩ := h
  cases rx
  obtain ⟨t, rfl⟩ := ry
  obtain ⟨its, r, ⟨⟨cls, dd, data, sl⟩, ho, hc, n, hd⟩, hs⟩ := I.tuple hT
  simp only at hc hd
  subst hc hd
  refine wpAny_binaryOp_repeat_ref (T := "tuple") (U := "int") (by decide) ⟨_, ho, rfl⟩ (fun s' => typeIs_int s' 1 t) noFill_tuple_mul F.fills_int_mul F.slot_int_rmul repeat_tuple F.slot_int_index.lookup
    (call_meets F.slot_int_rmul (typeIs_int s 1 t) F.entry_int_rmul (F.args_int_rmul_2 _ _) (int_rmul_tuple 1 t l its.toArray n dd sl)
      ⟨ho, rfl, ⟨_, ho, rfl⟩, call_meets F.slot_tuple_mul ⟨_, ho, rfl⟩ F.entry_tuple_mul (F.args_tuple_mul_2 _ _) (tuple_mul1 l its.toArray n dd sl 1 t (by decide) (by rw [Bool.or_eq_true]; exact .inr rfl)) ⟨ho, ?_⟩⟩)
  exact ⟨.ref l, H, I, rfl, q⟩
/-- a tuple of at least one, times k from 1 on -/
def rRepA (K : PySem.W.Frag) : R2 := fun x y H Q => ∃ l k xs, x = .ref l ∧ y = .int k ∧ SqT K H l xs ∧ xs ≠ [] ∧ 1 ≤ k ∧ k ≤ 1000 ∧ xs.length ≤ 1000 ∧
  ∀ (p : Addr) (H' : Hp), Evl.Ex H H' → SqT K H' p (List.replicate k.toNat xs).flatten → Q (.ref p) H'
theorem op_repA {X : Cx} {K : PySem.W.Frag} (hK : X.K = K) : OpR X (binaryOp .Mult) (rRepA K) := by
  subst hK
  intro pins s σ H x y v u Q I rx ry h
  obtain ⟨l, k, xs, rfl, rfl, hT, hne, h1, h2, hz, q⟩ := h
  by_cases c : k = 1
  · subst c
    refine op_repT1 rfl pins s σ H _ _ v u Q I rx ry ⟨l, xs, rfl, rfl, hT, q l H (Evl.Ex.refl _) ?_⟩
    have : (List.replicate (1 : Int).toNat xs).flatten = xs := by simp
    rw [this]
    exact hT
  · exact op_repT pins s σ H _ _ v u Q I rx ry ⟨l, k, xs, rfl, rfl, hT, hne, by omega, h2, hz, fun p hp => q p _ (Evl.Ex.new hp) (SqT.of upd_same)⟩
theorem rd_repA {K : PySem.W.Frag} {H : Hp} {Q : VK} {l : Addr} {k : Int} {xs : List V} (hT : SqT K H l xs) (hne : xs ≠ []) (h1 : 1 ≤ k) (h2 : k ≤ 1000) (hz : xs.length ≤ 1000)
    (q : ∀ (p : Addr) (H' : Hp), Evl.Ex H H' → SqT K H' p (List.replicate k.toNat xs).flatten → Q (.ref p) H') : rRepA K (.ref l) (.int k) H Q := ⟨l, k, xs, rfl, rfl, hT, hne, h1, h2, hz, q⟩
end Ea
set_option Elab.async false
set_option linter.all false
set_option maxRecDepth 100000
set_option maxHeartbeats 1000000
/-! An own error over ValueError whose __init__ says super().__init__(text) and keeps what it was given. -/
namespace Ea
open PySem PySem.Spec PyProof PyProof.Rows L2 NdefX
def spSup (C : Addr) (fld : Str) : Sp := fun vs H Q _ => ∃ (a : Addr) (y : V), vs = [.ref a, y] ∧ H a = some (exo a C none) ∧
  ∀ dx, H dx = none → dx ≠ a → Q .non (upd (upd H dx (exd dx [(fld, y)])) a (exo a C (some dx)))
/-- the wrapper's call -/
theorem call_wrap {prog : Program} {w : World} {A : Around} {E : Value → Shared → Prop} {s : Shared} {K : PySem.W.Frag} {C a u t0 : Addr} {rest : List Value} {Q : Value → Shared → Prop} (KX : K.In s.heap)
    (q : PySem.W.excInitIn K C [.type "ValueError", .type "Exception", .type "BaseException", .type "object"] "ValueError.__new__" = true)
    (he : s.heap.get? a = some (PySem.W.excObj C t0 none .none)) (hu : s.heap.get? u = some (PySem.W.kxs_mw "ValueError.__init__" a)) (hz : rest.length ≤ sizeLine)
    (h : ∀ h' t1, (∀ b o, b ≠ a → s.heap.get? b = some o → h'.get? b = some o) → h'.get? a = some (PySem.W.excObj C t1 none .none) → Q .none { s with heap := h' }) :
    wpAny (model prog w) A (call (.ref u) rest) Q E s := by
  obtain ⟨nm, N', qn, bs, bm, hdct, sn, sub, ab, col, dd, k0, k1, k2, k3, k5, hC, hT⟩ := PySem.W.excInit_of KX q
  obtain ⟨hh, g, d, tk, os⟩ := s
  refine wpAny_call (codeAny_of_tree ?_)
  show wpAny _ A.in1 (callAny (.ref u) ⟨rest, []⟩) _ _ _
  simp only [callAny]
  refine wpAny_bind (wpAny_load hu ?_)
  simp only [PySem.W.kxs_mw, show (Value.type "method-wrapper" == Value.type "method" || Value.type "method-wrapper" == Value.type "builtin_function_or_method" || Value.type "method-wrapper" == Value.type "method-wrapper") = true by decide, if_true]
  refine PySem.W.KFB.if_so (by decide) ?_
  refine wpAny_bind (PySem.W.check_bound_init PySem.F.excBase_ValueError.toExcCallFacts hC he rfl ?_)
  refine wpAny_bind (wpAny_pure (wpAny_pure ?_))
  refine ⟨plainId_quiet PySem.F.excBase_ValueError.init.plain _, codeAny_builtin PySem.F.excBase_ValueError.initEntry ?_⟩
  exact PySem.W.exc_init_tree (cls := .ref C) (t0 := t0) (dv := none) (c2 := .none) (c3 := .none) (b4 := .bool false) he hz fun h' k e' t' => h h' _ k e'
theorem cw1 {M : Model} {A : Around} {E : Value → Shared → Prop} {s : Shared} {u x : Addr} {i : String} {pos : Pos} {env : Env} {e : Expr} {rest : List Expr} {Q : Value → Shared → Prop}
    (h : wpAny M A (spliced (backTo pos (starEach (e :: rest) env))) (fun vs s₁ => PySem.W.KxsAt i u x s₁.heap ∧ wpAny M A (call (.ref u) vs) Q E s₁) E s)
    (he : starEach (e :: rest) env = (false, eval e env) :: starEach rest env := by rfl) (hplain : (backTo pos (starEach rest env)).any (·.1) = false := by rfl) :
    wpAny M A (callWith pos (.ref u) [] (backTo pos (starEach (e :: rest) env)) []) Q E s := by
  rw [he] at h ⊢
  refine PySem.W.kxs_callWith (i := i) (x := x) (by show (false || (backTo pos (starEach rest env)).any (·.1)) = false; rw [hplain]; rfl) ?_
  exact Calls.evalArgs_plain h
section
variable {P : Program} {w : World} {K : PySem.W.Frag} {mg : Str → Option Value} {base : Heap} {C fI cc cda : Addr} {nm qual fld msg file self : Str} {args : Arguments} {sc : Scope} {kV doc pm ct oc c1 cl : Value} {an od c2 cld : Option Addr} {osl c3 csl : Array (Option Value)} {vs : Array Value} {tf : Tok}
  {p0 p1 p2 p3 p4 p5 p6 p7 p8 p9 : Pos} {kk : Nat} {k : Nat}
abbrev supCall (msg : Str) (p0 p1 p2 p3 p4 : Pos) (kk : Nat) : Expr := .Call (.Attribute (.Call (.Name "super" p0) [] [] p1) "__init__" p2) [.Constant (.str msg) kk p3] [] p4
abbrev supBody (self fld msg : Str) (p0 p1 p2 p3 p4 p5 p6 p7 p8 p9 : Pos) (kk : Nat) : List Stmt :=
  [.Expr (supCall msg p0 p1 p2 p3 p4 kk) p5, .Assign [.Attribute (.Name self p6) fld p7] (.Name fld p8) p9]
theorem ok_super (T : OexC K C)
    (q : PySem.W.excInitIn K C [.type "ValueError", .type "Exception", .type "BaseException", .type "object"] "ValueError.__new__" = true)
    (lf : K.lookup fI = some ⟨oc, od, .func (PySem.W.ksFn nm qual args (supBody self fld msg p0 p1 p2 p3 p4 p5 p6 p7 p8 p9 kk) sc .none kV doc pm an (.ref cda) ct cc), osl⟩)
    (hcd : PySem.W.codeIn K (.ref cda) qual = true) (lc : K.lookup cda = some ⟨c1, c2, .fields vs, c3⟩) (hvs : vs[2]? = some (.str file tf)) (hfile : ((P.main.file : Str) == file) = true)
    (htop : (P.main.scope.names.lookup ("super" : Str)).isSome = false) (lcell : K.lookup cc = some ⟨cl, cld, .cell (some (.ref C)), csl⟩)
    (hsub : PySem.W.mroIn K C (.ref C) = some true) (hsup : PySem.W.ks_superIn K C C "__init__" = some (some (.builtin "ValueError.__init__")))
    (hB : PySem.W.subIn K (.ref C) (.type "ValueError") = some true) (hop : PySem.W.nsIn K cStatics "thirdparty.any" = some none) (hmg : mg "super" = none)
    (hfind : PySem.W.findIn K (.ref C) fld = some none) (S : NScope [self, fld, "__class__"] [self, fld] ["__class__"] sc)
    (hks : sc.names.lookup ("super" : Str) = some .globalImplicit) {ar : Arg} (ha1 : (args.posonlyargs ++ args.args).head? = some ar) (har : ar.arg = self) (hne : (self == fld) = false) (v1 : Vis sc self) (v2 : Vis sc fld) (n1 : (self == ("__debug__" : Str)) = false) (n2 : (self == ("__classdict__" : Str)) = false) (n3 : (fld == ("__debug__" : Str)) = false) (n4 : (fld == ("__classdict__" : Str)) = false)
    {pl : Addr → Sem Bool} (hev : ∀ L : Addr, eval (supCall msg p0 p1 p2 p3 p4 kk) (PySem.W.envX qual sc L fI (.ref cda) [("__class__", cc)]) = (do
      let ov ← attributeBase (.Call (.Name "super" p0) [] [] p1) "__init__" (PySem.W.envX qual sc L fI (.ref cda) [("__class__", cc)]) (eval (.Call (.Name "super" p0) [] [] p1) (PySem.W.envX qual sc L fI (.ref cda) [("__class__", cc)]))
      standAt p2.atName
      let (f, first) ← holding [ov] (getMethod ov "__init__" (pl L))
      callWith p4 f first (backTo p4 (starEach [.Constant (.str msg) kk p3] (PySem.W.envX qual sc L fI (.ref cda) [("__class__", cc)]))) []))
    (hin : ∀ L : Addr, interactive (PySem.W.envX qual sc L fI (.ref cda) [("__class__", cc)]) = false)
    (hsw : ∀ L : Addr, swapsWith (supCall msg p0 p1 p2 p3 p4 kk) none p5.line (PySem.W.envX qual sc L fI (.ref cda) [("__class__", cc)]) = pure false)
    (hsw2 : ∀ L : Addr, swapsWith (.Name fld p8) (some (.Attribute (.Name self p6) fld p7)) p9.line (PySem.W.envX qual sc L fI (.ref cda) [("__class__", cc)]) = pure false) :
    FnOk P w K mg base CX0 (k + 1) fI (PySem.W.ksFn nm qual args (supBody self fld msg p0 p1 p2 p3 p4 p5 p6 p7 p8 p9 kk) sc .none kV doc pm an (.ref cda) ct cc) [self, fld] (spSup C fld) := by
  refine ⟨fun vs H Q E ⟨_, _, e, _⟩ => by rw [e]; rfl, fun A outer s H ar0 us vals Q E hr e0 hb r hsp => ?_⟩
  obtain ⟨a, y, rfl, ha, hq⟩ := hsp
  obtain ⟨u1, u2, rfl, r1, r2⟩ := vals2 r
  cases (show u1 = Value.ref a from r1)
  have hb : BindsTo s _ ar0 [(self, Value.ref a), (fld, u2)] := hb
  have KX : K.In s.heap := e0.mod.kin.keeps fun b o e => (e0.bs b o e).1
  have lim : s.heap.NoLimit := e0.mod.nolimit.keeps fun b o e => (e0.bs b o e).1
  refine codeAny_call_function hr.depth (KX _ _ lf) rfl S.co S.gen rfl (PySem.W.codeRec_of KX hcd) (hb _ _ _ _ ?_)
  refine wpAny_newFunctionEnv S.nocell (fun y hy => ?_) (fun h₁ hns hsb => ⟨lim.fresh _ hsb, ?_⟩) S.kind
  · simp only [List.mem_cons, List.not_mem_nil, or_false] at hy
    rcases hy with rfl | rfl
    · exact S.par _ (by simp)
    · exact S.par _ (by simp)
  let F : NF := ⟨nm, qual, args, supBody self fld msg p0 p1 p2 p3 p4 p5 p6 p7 p8 p9 kk, sc, [("__class__", cc)], cda⟩
  have kp : ∀ b o, s.heap.get? b = some o → h₁.get? b = some o := fun b o e => hsb.extBut b o (Nat.ne_of_lt (Heap.lt_size e)) (Heap.get?_push_of_some _ e)
  have hHc : H cc = none := (e0.bs _ _ (e0.mod.kin _ _ lcell)).2
  have cells : CellsAt F.cl ["__class__"] [some (.ref C)] s.heap H := {
    len := rfl
    all := fun y c e => by
      have e : List.lookup y [((Str.ofString "__class__"), cc)] = some c := e
      unfold List.lookup at e
      split at e
      · cases e
        exact ⟨hHc, _, _, KX _ _ lcell, rfl⟩
      · cases e
    inj := fun x y c e1 e2 => by
      have e1 : List.lookup x [((Str.ofString "__class__"), cc)] = some c := e1
      have e2 : List.lookup y [((Str.ofString "__class__"), cc)] = some c := e2
      have one : ∀ {x : Str}, List.lookup x [((Str.ofString "__class__"), cc)] = some c → x = Str.ofString "__class__" := fun {x} e => by
        unfold List.lookup at e
        split at e
        · next h => exact eq_of_beq h
        · cases e
      rw [one e1, one e2]
    has := fun i y e => by
      cases i with
      | zero =>
        cases e
        refine ⟨cc, by simp [List.lookup, F], fun v hv => ?_⟩
        cases hv
        exact ⟨.ref C, rfl, _, KX _ _ lcell, rfl⟩
      | succ i => simp at e }
  have I : Inv (ncx CX0 P w K mg base [self, fld, "__class__"] F fI A outer s H E) [] (startF [self, fld, "__class__"] [.ref a, y] [some (.ref C)]) H { s with heap := h₁, toks := s.toks + [(self, Value.ref a), (fld, u2)].length } :=
    inv_startN (us := [.ref a, u2]) S hr.hd e0 rfl r cells hns kp
  have hloc : h₁.Ns s.heap.objs.size fun x => ([(self, Value.ref a), (fld, u2)]).reverse.lookup x := hns
  have hFb : F.body = supBody self fld msg p0 p1 p2 p3 p4 p5 p6 p7 p8 p9 kk := rfl
  have hkc : sc.names.lookup ("__class__" : Str) = some .free := S.frk _ (by simp)
  have hkself : sc.names.lookup self = some .local := S.par _ (by simp)
  have hvself : ([(self, Value.ref a), (fld, u2)]).reverse.lookup self = some (.ref a) := by simp [List.lookup, hne]
  show codeAny _ _ (.func (supBody self fld msg p0 p1 p2 p3 p4 p5 p6 p7 p8 p9 kk) (envF F fI s.heap.objs.size)) _ _
  generalize hs1 : ({ s with heap := h₁, toks := s.toks + [(self, Value.ref a), (fld, u2)].length } : Shared) = s1 at I ⊢
  have hh1 : s1.heap = h₁ := by rw [← hs1]
  clear hs1
  obtain ⟨hh, g, d, tk, os⟩ := s1
  obtain rfl : hh = h₁ := hh1
  obtain ⟨t1, hoe⟩ := exo_at I.hok ha
  obtain ⟨nm1, q1, N1, bs1, bm, sn1, sub1, ab1, col1, dd1, x0, x1, x2, x3, x5, hC, hbm⟩ := T.cls
  have hcl : PySem.W.clsIn K C = some { name := nm1, bases := bs1, mro := .ref C :: bm, ns := N1, qualname := q1, hasDict := true, slotNames := sn1, subclasses := sub1, abstract := ab1, collection := col1, hasDel := false } := by unfold PySem.W.clsIn; rw [hC] <;> rfl
  have hCn : H C = none := (e0.bs _ _ (e0.mod.kin _ _ hC)).2
  obtain ⟨mb, hb1, hb2⟩ := e0.mod.blt
  refine ks_codeAny_funcAt ?_
  refine ks_wpAt_execs_cons ?_
  refine ks_wpAt_mono (Q := fun fl s' => fl = .next ∧ Inv (ncx CX0 P w K mg base [self, fld, "__class__"] F fI A outer s H E) [] (startF [self, fld, "__class__"] [.ref a, y] [some (.ref C)]) H s') ?_ (fun fl s' hs => ?_) fun _ _ z => z
  · refine ks_wpAt_Expr_any (ks_wpAt_MethodCall (ks_wpAt_super_base (env := envF F fI s.heap.objs.size) hks hkc rfl rfl (I.kIn _ _ lf) rfl ha1 rfl (I.kIn _ _ lc) rfl hvs hfile htop ?_) (hev _)) (hin _) (hsw _)
    refine PySem.W.ks_loadName_global S.kind hks (Calls.loadGlobal_builtin (env := envF F fI s.heap.objs.size) (I.mod.glob.keeps I.bk) hmg (hb1.keeps I.bk) ((hb2 _ (by decide)).trans (by rfl)) ⟨rfl, ?_⟩)
    refine wpAny_loadName_free S.kind hkc rfl ⟨_, I.kIn _ _ lcell, rfl⟩ ?_
    rw [har]
    refine wpAny_loadName_local S.kind hkself hloc hvself ?_
    refine ks_wpAny_isType_cls (I.kIn _ _ hC) rfl ⟨rfl, ?_⟩
    refine ks_wpAny_call_super (I.kIn _ _ hC) rfl hoe rfl (fun c e => by cases e) (PySem.W.looks_mroIn I.kIn hsub) fun h' e k => ?_
    have J1 := I.kept (t' := tk) k
    have hal : PySem.W.alongIn K "__init__" (((Value.ref C :: bm).dropWhile (· != .ref C)).drop 1) = some (some (.builtin "ValueError.__init__")) := by
      have z := hsup
      unfold PySem.W.ks_superIn at z
      rw [hcl] at z
      exact z
    have IA : PySem.W.InstAt h' a (PySem.W.excObj C t1 none .none) C none := ⟨k _ _ hoe, rfl, rfl, trivial⟩
    refine PySem.W.kxs_getMethod PySem.W.kxs_ValueError e (PySem.W.looks_opaque J1.kIn hop) (l₀ := .ref C :: bm) (fun A Q E s k q => wpAny_bind ((PySem.W.looks_clsIn J1.kIn hcl) A _ E s k (wpAny_pure q))) rfl J1.kIn hal (IA.type.andThen (PySem.W.looks_subIn J1.kIn hB)) (ne_of_none ha hCn) (by decide) ?_
    have J2 := J1.kept (t' := tk + 1) (h' := h'.push (PySem.W.kxs_mw "ValueError.__init__" a)) fun b o q => Heap.get?_push_of_some _ q
    have hu : (h'.push (PySem.W.kxs_mw "ValueError.__init__" a)).get? h'.objs.size = some (PySem.W.kxs_mw "ValueError.__init__" a) := Heap.get?_push_at rfl rfl
    refine cw1 (i := "ValueError.__init__") (x := a) (PyProof.Rows.spliced_more (Calls.Constant_str (PyProof.Rows.spliced_none ⟨hu, ?_⟩)))
    refine call_wrap (K := K) J2.kIn q (Heap.get?_push_of_some _ (k _ _ hoe)) hu (by show 1 ≤ sizeLine; decide) fun h'' t2 k2 e2 => ⟨rfl, ?_⟩
    have J3 := J2.write (x := a) (e := a) (o := exo a C none) (t' := tk + 1 + 1) (by rw [ha]; exact True.intro) (.inl rfl) k2 ⟨_, e2⟩ (exo_ok e2)
    have eu : upd H a (exo a C none) = H := by
      funext b
      by_cases hb : b = a
      · rw [hb, upd_same, ha]
      · rw [upd_ne hb]
    rw [eu] at J3
    exact J3
  · obtain ⟨rfl, J⟩ := hs
    refine wpAt_of_wpAny ?_
    have hps : PSs (ncx CX0 P w K mg base [self, fld, "__class__"] F fI A outer s H E) [.Assign [.Attribute (.Name self p6) fld p7] (.Name fld p8) p9] (tOst K fld (tVar 0) (tVar 1)) :=
      pss_one (ps_ost (pe_var (i := 0) rfl v1 n1 n2) (pe_var (i := 1) rfl v2 n3 n4) (hsw2 _))
    have hread : tOst K fld (tVar 0) (tVar 1) { nx := fun _ H' => Q .non H', rt := Q } (startF [self, fld, "__class__"] [.ref a, y] [some (.ref C)]) H :=
      ⟨y, rfl, .ref a, rfl, a, C, rfl, T, hfind, .inl ⟨ha, hq⟩⟩
    refine wpAny_mono (hps.run [] _ _ H _ J hread) (fun fl s' hs => ?_) fun e s' hs => hs
    have fin : ∀ {σ' : L2.St} {H' : Hp} {v : V} {u : Value}, Inv (ncx CX0 P w K mg base [self, fld, "__class__"] F fI A outer s H E) [] σ' H' s' → L2.RelV v u → Q v H' → CE outer P w H s Q u s' :=
      fun {σ' H' v u} J rv q => ⟨v, H', J.os, J.bare, J.base, J.hok, rv, q⟩
    cases fl with
    | ret u =>
      obtain ⟨v, σ', H', J, rv, q⟩ := hs
      exact fin J rv q
    | next =>
      obtain ⟨σ', H', J, q⟩ := hs
      exact fin (v := V.non) (u := Value.none) J rfl q
    | brk =>
      obtain ⟨_, _, _, q⟩ := hs
      exact False.elim q
    | cont =>
      obtain ⟨_, _, _, q⟩ := hs
      exact False.elim q
end
end Ea
set_option Elab.async false
set_option linter.all false
set_option maxRecDepth 100000
set_option maxHeartbeats 1000000
/-! A caught error that has a dict: a field of it, isinstance of it. -/
namespace Ea
open PySem PySem.Spec PyProof PyProof.Rows L2
section
variable {X : Cx} {C : Addr} {fld : Str}
/-- e.fld, e the exception that the suite holds -/
def tByF (fld : Str) (C a : Addr) (cls : Value) (d : Option Addr) (te : TE) : TE := fun σ H Q => te σ H fun x H1 => x = .ref a ∧ cls = .ref C ∧ ∃ (dd : Addr) (v : V), d = some dd ∧ H1 dd = some (.xd [(fld, v)]) ∧ Q v H1
theorem pe_byF {a : Addr} {oe : Obj} {cls : Value} {d : Option Addr} {pn : List (Addr × Obj)} {e : Expr} {te : TE} {pos : Pos} (T : ExcC X.K C) (noN : PySem.W.findIn X.K (.ref C) fld = some none) (hz : Zc cls d oe) (hf : ∃ vs, oe.data = .fields vs) (he : PE (X.suite a ((a, oe) :: pn)) e te)
    (hb : attributeBase e fld X.env (eval e X.env) = eval e X.env := by rfl) :
    PE (X.suite a ((a, oe) :: pn)) (.Attribute e fld pos) (tByF fld C a cls d te) := by
  refine ⟨fun pins s σ H Q I h => ?_⟩
  refine attr_of hb (thn (he.run pins s σ H _ I h) fun u s1 hh => ?_)
  obtain ⟨x, H1, I1, rx, ex, ec, dd, v, ed, ea, q⟩ := hh
  subst ex
  obtain rfl : u = Value.ref a := rx
  subst ec
  subst ed
  obtain ⟨ha, _⟩ := I1.pin (a, oe) (List.mem_append_left _ List.mem_cons_self)
  obtain ⟨vs, hd⟩ := hf
  have hx : ObjOk X.prog X.w H1 s1.heap dd (.xd [(fld, v)]) := I1.hok dd _ ea
  obtain ⟨mA, hns, hr⟩ := hx
  obtain ⟨od, ho, hl⟩ := lookIn_ns hns
  have l : List.lookup fld [(fld, v)] = some v := by simp [List.lookup]
  obtain ⟨u, hu, ru⟩ := RelO.some_of (v := v) (o := mA fld) (by rw [← l]; exact hr fld)
  have J : PySem.W.InstAt s1.heap a oe C (some od) := ⟨ha, hz.1, by unfold PySem.W.notCls; rw [hd] <;> rfl, by rw [hz.2]; exact ho⟩
  exact HandSPX.exc_get I1.kIn J T.hg T.hk T.hs (PySem.W.findObj_own T.hd noN rfl (by rw [hl, hu])) (handed_of ru) ⟨v, H1, I1.tok _, ru, q⟩
/-- isinstance(e, c), e with a dict -/
def rIsE2 (K : PySem.W.Frag) (D a : Addr) (cls : Value) (d : Option Addr) : List V → Hp → VK → Prop := fun xs H Q => ∃ (c : V) (cv : Value) (b : Bool), xs = [.ref a, c] ∧ cls = .ref D ∧ (∃ dd fs, d = some dd ∧ H dd = some (.xd fs)) ∧ (∀ u, RelV c u → u = cv) ∧ PySem.W.kitOne K (.ref D) cv = some b ∧ Q (.bl b) H
theorem call_isE2 {a D : Addr} {cls : Value} {d : Option Addr} {oe : Obj} {pn : List (Addr × Obj)} (C : ExcC X.K D) (hz : Zc cls d oe) (hf : ∃ vs, oe.data = .fields vs) : CallR (X.suite a ((a, oe) :: pn)) (.builtin "isinstance") (rIsE2 X.K D a cls d) := by
  intro pins s σ H xs us Q I r h
  obtain ⟨c, cv, b, rfl, ec, ⟨dd, fs, ed, hx⟩, hcv, e, q⟩ := h
  subst ec
  subst ed
  cases r with
  | cons rx rr =>
    cases rr with
    | cons rt rr =>
      cases rr
      cases rx
      have ec := hcv _ rt
      subst ec
      obtain ⟨hget, _⟩ := I.pin (a, oe) (List.mem_append.mpr (.inl List.mem_cons_self))
      obtain ⟨vs, hv⟩ := hf
      obtain ⟨mA, hns, _⟩ := (show ObjOk X.prog X.w H s.heap dd (.xd fs) from I.hok dd _ hx)
      obtain ⟨od, ho, _⟩ := lookIn_ns hns
      have J : PySem.W.InstAt s.heap a oe D (some od) := ⟨hget, hz.1, by unfold PySem.W.notCls; rw [hv] <;> rfl, by rw [hz.2]; exact ho⟩
      have hcl : (PySem.W.clsIn X.K D).isSome = true := by
        obtain ⟨cd, hc, _⟩ := PySem.W.any_some C.hd
        rw [hc] <;> rfl
      exact PySem.W.kia_one (PySem.W.kitx_exc hcl C.hg C.hk C.hs C.ha C.hn C.ht C.hm) I.kIn J e (fun z => nomatch z) fun tk => ⟨.bl b, H, I.kept (t' := tk) fun _ _ z => z, rfl, q⟩
end
end Ea
set_option Elab.async false
set_option linter.all false
set_option maxRecDepth 100000
set_option maxHeartbeats 400000
/-! A comprehension over a tuple, each turn laying what it likes; a chained comparison. -/
namespace Ea
open PySem PySem.Spec PyProof PyProof.Rows L2
section
variable {K : PySem.W.Frag} {σ : L2.St} {H : Hp} {Q : VK} {te : TE} {vs : List Nat} {j : Nat} {σx : V → L2.St} {a : Addr} {xs : List V}
theorem lc_exT (Pv : Nat → List V → Hp → Prop) (stay : ∀ i acc H1 D ys u, H1 D = some (.lst ys) → Pv i acc H1 → Pv i acc (upd H1 D (.lst u)))
    (hx : SqT K H a xs) (hz : xs.length ≤ 40000) (hσ : ∀ x, (wipe σ vs).set j (some x) = σx x) (hw : ∀ x, wipe (σx x) vs = wipe σ vs) (h0 : ∀ H', Evl.Ex H H' → Pv 0 [] H')
    (hs : ∀ i x, xs[i]? = some x → ∀ (acc : List V) (H' : Hp) (N : VK), Evl.Ex H H' → Pv i acc H' → (∀ v H3, Evl.Ex H' H3 → Pv (i + 1) (acc ++ [v]) H3 → N v H3) → te (σx x) H' N)
    (hd : ∀ D acc H', Evl.Ex H H' → H D = none → H' D = some (.lst acc) → Pv xs.length acc H' → Q (.ref D) H') : LcR (gName j) tYes te vs σ Q (Itt K a) H := fun D hn =>
  lc_tup (xs := xs) (fun i H' => i ≤ xs.length ∧ Evl.Ex H H' ∧ ∃ acc, H' D = some (.lst acc) ∧ acc.length = i ∧ Pv i acc H') ⟨Nat.zero_le _, Evl.Ex.new hn, [], upd_same, rfl, h0 _ (Evl.Ex.new hn)⟩ (fun i H' _ ⟨_, ex, _⟩ => Evl.ex_t ex hx) (fun i x H' hi p => by
    obtain ⟨_, ex, acc, ea, hl, hp⟩ := p
    have hlt := (List.getElem?_eq_some_iff.mp hi).1
    rw [show gName j x (wipe σ vs) H' = fun N => N (σx x) H' from funext fun N => by rw [← hσ x] <;> rfl]
    refine ⟨hw _, ?_⟩
    refine rd_yes ?_
    rw [if_pos rfl]
    refine hs i x hi acc H' _ ex hp fun v H3 e3 hp3 => ⟨acc, e3 D _ ea, Evl.sz_lt (by omega), by omega, Evl.Ex.mut (ex.trans e3) hn, acc ++ [v], upd_same, by rw [List.length_append, hl] <;> rfl, stay _ _ _ _ _ _ (e3 D _ ea) hp3⟩) fun H' p => by
    obtain ⟨_, ex, acc, ea, _, hp⟩ := p
    exact hd D acc H' ex hn ea hp
end
theorem rd_chain {r r' : R2} {ta tb tc : TE} {σ : L2.St} {H : Hp} {Q : VK} (h : ta σ H fun x H1 => tb σ H1 fun y H2 => r x y H2 fun z H3 => ∃ k, z = .bl k ∧ (if k = true then tc σ H3 fun w' H4 => r' y w' H4 Q else Q (.bl false) H3)) : tChain r r' ta tb tc σ H Q := h
end Ea
set_option Elab.async false
set_option linter.all false
set_option maxRecDepth 100000
set_option maxHeartbeats 400000
set_option pp.maxSteps 300
namespace KA
open PySem PySem.Spec PyProof.Rows L2 Ea
abbrev sparts_of : Stmt := topS 10
theorem scparts_of : FnScope ["formula", "word"] ["formula"] (defScope sparts_of) :=
  ⟨rfl, rfl, rfl, by decide +kernel, rfl, by decide +kernel, by decide +kernel⟩
abbrev sjoined_size : Stmt := topS 11
theorem scjoined_size : FnScope ["sizes", "nodes", "deep", "size"] ["sizes", "nodes", "deep"] (defScope sjoined_size) :=
  ⟨rfl, rfl, rfl, by decide +kernel, rfl, by decide +kernel, by decide +kernel⟩
abbrev sis_plain : Stmt := topS 13
theorem scis_plain : FnScope ["formula", "part"] ["formula"] (defScope sis_plain) :=
  ⟨rfl, rfl, rfl, by decide +kernel, rfl, by decide +kernel, by decide +kernel⟩
local macro_rules | `(tactic| walk_at "rd") => `(tactic| first
  | (with_reducible refine rd_seq ?_) | (with_reducible refine rd_asg ?_) | (with_reducible refine rd_if ?_) | (with_reducible refine rd_ret ?_) | (with_reducible refine rd_next ?_)
  | (with_reducible refine rd_drop ?_) | ((with_reducible refine rd_name (σ' := ?ss) ?hs ?_); (case hs => (dsimp only [List.set]; exact rfl)))
  | ((with_reducible refine rd_var (v := ?vv) ?hv ?_); (case hv => exact rfl)) | (with_reducible refine rd_c ?_) | (with_reducible refine rd_op ?_) | (with_reducible refine rd_un ?_)
  | (with_reducible refine rd_I0 ?_) | (with_reducible refine rd_U ?_) | (with_reducible refine rd_test ?_) | (with_reducible refine rd_B ?_) | (with_reducible refine rd_k ?_)
  | (with_reducible refine rd_not ?_) | (with_reducible refine rd_and ?_) | (with_reducible refine rd_or ?_) | (with_reducible refine rd_ifE ?_)
  | (with_reducible refine rd_par ?_) | ((with_reducible refine rd_par2 (σ' := ?ss) ?hs ?_); (case hs => (dsimp only [List.set]; exact rfl)))
  | (with_reducible refine rd_gsub ?_) | (with_reducible refine rd_andV ?_) | (with_reducible refine rd_orV ?_) | (with_reducible refine rd_notV ?_)
  | (with_reducible refine rd_lc ?_) | (with_reducible refine rd_iTup ?_) | (with_reducible refine rd_iList ?_) | (with_reducible refine rd_iRng1 ?_) | (with_reducible refine rd_iRng2 ?_) | (with_reducible refine rd_iEnumT ?_) | (with_reducible refine rd_iEnum ?_) | (with_reducible refine rd_iZipM ?_) | (with_reducible refine rd_iEnumS ?_) | (with_reducible refine rd_iKeys ?_) | (with_reducible refine rd_din ?_) | (with_reducible refine rd_dnotin ?_)
  | (with_reducible refine rd_yes ?_) | (with_reducible refine rd_true ?_) | (with_reducible refine rd_false ?_) | (with_reducible refine rd_m1 ?_) | (with_reducible refine rd_isS ?_)
  | ((with_reducible refine rd_eq ?hs ?_); (case hs => exact rfl)) | ((with_reducible refine rd_ne ?hs ?_); (case hs => exact rfl))
  | (with_reducible refine rd_listRg ?_) | (with_reducible refine rd_rg2 ?_) | (with_reducible refine rd_rgk ?_)
  | (with_reducible refine rd_dnew ?_) | (with_reducible refine rd_ddel ?_) | (with_reducible refine rd_kw ?_) | (with_reducible refine rd_callS ?_) | (with_reducible refine rd_dc ?_) | (with_reducible refine rd_for ?_) | (with_reducible refine rd_tru ?_) | (with_reducible refine rd_truI ?_)
  | (with_reducible refine rd_nil ?_) | (with_reducible refine rd_cons ?_) | (with_reducible refine rd_call ?_) | (with_reducible refine rd_cb ?_)
  | (with_reducible refine rd_tup ?_) | (with_reducible refine rd_lst ?_) | (with_reducible refine rd_dget ?_) | (with_reducible refine rd_dput ?_) | (with_reducible refine rd_dget2 ?_) | (with_reducible refine rd_sl ?_)
  | (with_reducible refine rd_nopart ?_) | (with_reducible refine rd_part ?_) | (with_reducible refine rd_parti ?_) | (with_reducible refine rd_bm ?_) | (with_reducible refine rd_bm0 ?_)
  | (with_reducible refine rd_int ?_) | (with_reducible refine rd_intb ?_) | (with_reducible refine rd_abs ?_) | (with_reducible refine rd_min2 ?_) | (with_reducible refine rd_max2 ?_))
local macro_rules | `(tactic| walk_at "rds") => `(tactic| repeat (walk_at "rd"))
local macro_rules | `(tactic| walk_at "rq") => `(tactic| first
  | (with_reducible refine rd_seq ?_) | (with_reducible refine rd_asg ?_) | (with_reducible refine rd_ret ?_) | (with_reducible refine rd_next ?_)
  | (with_reducible refine rd_drop ?_) | ((with_reducible refine rd_name (σ' := ?ss) ?hs ?_); (case hs => (dsimp only [List.set]; exact rfl)))
  | ((with_reducible refine rd_var (v := ?vv) ?hv ?_); (case hv => exact rfl)) | (with_reducible refine rd_c ?_) | (with_reducible refine rd_op ?_) | (with_reducible refine rd_un ?_)
  | (with_reducible refine rd_I0 ?_) | (with_reducible refine rd_U ?_) | (with_reducible refine rd_test ?_) | (with_reducible refine rd_B ?_) | (with_reducible refine rd_k ?_)
  | (with_reducible refine rd_not ?_) | (with_reducible refine rd_and ?_) | (with_reducible refine rd_or ?_) | (with_reducible refine rd_ifE ?_)
  | (with_reducible refine rd_par ?_) | ((with_reducible refine rd_par2 (σ' := ?ss) ?hs ?_); (case hs => (dsimp only [List.set]; exact rfl)))
  | (with_reducible refine rd_gsub ?_) | (with_reducible refine rd_andV ?_) | (with_reducible refine rd_orV ?_) | (with_reducible refine rd_notV ?_)
  | (with_reducible refine rd_lc ?_) | (with_reducible refine rd_iTup ?_) | (with_reducible refine rd_iList ?_) | (with_reducible refine rd_iRng1 ?_) | (with_reducible refine rd_iRng2 ?_) | (with_reducible refine rd_iEnumT ?_) | (with_reducible refine rd_iEnum ?_) | (with_reducible refine rd_iZipM ?_) | (with_reducible refine rd_iEnumS ?_) | (with_reducible refine rd_iKeys ?_) | (with_reducible refine rd_din ?_) | (with_reducible refine rd_dnotin ?_)
  | (with_reducible refine rd_yes ?_) | (with_reducible refine rd_true ?_) | (with_reducible refine rd_false ?_) | (with_reducible refine rd_m1 ?_) | (with_reducible refine rd_isS ?_)
  | ((with_reducible refine rd_eq ?hs ?_); (case hs => exact rfl)) | ((with_reducible refine rd_ne ?hs ?_); (case hs => exact rfl))
  | (with_reducible refine rd_listRg ?_) | (with_reducible refine rd_rg2 ?_) | (with_reducible refine rd_rgk ?_)
  | (with_reducible refine rd_dnew ?_) | (with_reducible refine rd_ddel ?_) | (with_reducible refine rd_kw ?_) | (with_reducible refine rd_callS ?_) | (with_reducible refine rd_dc ?_) | (with_reducible refine rd_for ?_) | (with_reducible refine rd_tru ?_) | (with_reducible refine rd_truI ?_)
  | (with_reducible refine rd_nil ?_) | (with_reducible refine rd_cons ?_) | (with_reducible refine rd_call ?_) | (with_reducible refine rd_cb ?_)
  | (with_reducible refine rd_tup ?_) | (with_reducible refine rd_lst ?_) | (with_reducible refine rd_dget ?_) | (with_reducible refine rd_dput ?_) | (with_reducible refine rd_dget2 ?_) | (with_reducible refine rd_sl ?_)
  | (with_reducible refine rd_nopart ?_) | (with_reducible refine rd_part ?_) | (with_reducible refine rd_parti ?_) | (with_reducible refine rd_bm ?_) | (with_reducible refine rd_bm0 ?_)
  | (with_reducible refine rd_int ?_) | (with_reducible refine rd_intb ?_) | (with_reducible refine rd_abs ?_) | (with_reducible refine rd_min2 ?_) | (with_reducible refine rd_max2 ?_))
local macro_rules | `(tactic| walk_at "rqs") => `(tactic| repeat (walk_at "rq"))
local macro_rules | `(tactic| walk_at "rv") => `(tactic| first
  | (with_reducible refine rd_seq ?_) | (with_reducible refine rd_asg ?_) | (with_reducible refine rd_ret ?_) | (with_reducible refine rd_next ?_)
  | (with_reducible refine rd_drop ?_) | ((with_reducible refine rd_name (σ' := ?ss) ?hs ?_); (case hs => (dsimp only [List.set]; exact rfl)))
  | ((with_reducible refine rd_var (v := ?vv) ?hv ?_); (case hv => exact rfl)) | (with_reducible refine rd_c ?_) | (with_reducible refine rd_op ?_) | (with_reducible refine rd_un ?_)
  | (with_reducible refine rd_I0 ?_) | (with_reducible refine rd_U ?_) | (with_reducible refine rd_test ?_) | (with_reducible refine rd_B ?_) | (with_reducible refine rd_k ?_)
  | (with_reducible refine rd_not ?_) | (with_reducible refine rd_and ?_) | (with_reducible refine rd_or ?_)
  | (with_reducible refine rd_par ?_) | ((with_reducible refine rd_par2 (σ' := ?ss) ?hs ?_); (case hs => (dsimp only [List.set]; exact rfl)))
  | (with_reducible refine rd_gsub ?_) | (with_reducible refine rd_andV ?_) | (with_reducible refine rd_orV ?_) | (with_reducible refine rd_notV ?_)
  | (with_reducible refine rd_lc ?_) | (with_reducible refine rd_iTup ?_) | (with_reducible refine rd_iList ?_) | (with_reducible refine rd_iRng1 ?_) | (with_reducible refine rd_iRng2 ?_) | (with_reducible refine rd_iEnumT ?_) | (with_reducible refine rd_iEnum ?_) | (with_reducible refine rd_iZipM ?_) | (with_reducible refine rd_iEnumS ?_) | (with_reducible refine rd_iKeys ?_) | (with_reducible refine rd_din ?_) | (with_reducible refine rd_dnotin ?_)
  | (with_reducible refine rd_yes ?_) | (with_reducible refine rd_true ?_) | (with_reducible refine rd_false ?_) | (with_reducible refine rd_m1 ?_) | (with_reducible refine rd_isS ?_)
  | ((with_reducible refine rd_eq ?hs ?_); (case hs => exact rfl)) | ((with_reducible refine rd_ne ?hs ?_); (case hs => exact rfl))
  | (with_reducible refine rd_listRg ?_) | (with_reducible refine rd_rg2 ?_) | (with_reducible refine rd_rgk ?_)
  | (with_reducible refine rd_dnew ?_) | (with_reducible refine rd_ddel ?_) | (with_reducible refine rd_kw ?_) | (with_reducible refine rd_callS ?_) | (with_reducible refine rd_dc ?_) | (with_reducible refine rd_for ?_) | (with_reducible refine rd_tru ?_) | (with_reducible refine rd_truI ?_)
  | (with_reducible refine rd_nil ?_) | (with_reducible refine rd_cons ?_) | (with_reducible refine rd_call ?_) | (with_reducible refine rd_cb ?_)
  | (with_reducible refine rd_tup ?_) | (with_reducible refine rd_lst ?_) | (with_reducible refine rd_dget ?_) | (with_reducible refine rd_dput ?_) | (with_reducible refine rd_dget2 ?_) | (with_reducible refine rd_sl ?_)
  | (with_reducible refine rd_nopart ?_) | (with_reducible refine rd_part ?_) | (with_reducible refine rd_parti ?_) | (with_reducible refine rd_bm ?_) | (with_reducible refine rd_bm0 ?_)
  | (with_reducible refine rd_int ?_) | (with_reducible refine rd_intb ?_) | (with_reducible refine rd_abs ?_) | (with_reducible refine rd_min2 ?_) | (with_reducible refine rd_max2 ?_))
local macro_rules | `(tactic| walk_at "rvs") => `(tactic| repeat (walk_at "rv"))

theorem ps_off {X : Cx} {st : Stmt} : PS X st (fun _ _ _ => False) := ⟨fun _ _ _ _ _ _ h => h.elim⟩
/-- the three tuples of words -/
structure Gls (K : PySem.W.Frag) (mg : Str → Option Value) (jj nj qj : Addr) : Prop where
  jm : mg "JOINING" = some (.ref jj)
  nm : mg "NAMING" = some (.ref nj)
  qm : mg "QUANTIFIERS" = some (.ref qj)
  jt : ∀ H : Hp, SqT K H jj [.str "and", .str "or"]
  nt : ∀ H : Hp, SqT K H nj [.str "letter", .str "each", .str "some"]
  qt : ∀ H : Hp, SqT K H qj [.str "each", .str "some"]
theorem rd_inS {K : PySem.W.Frag} {H : Hp} {Q : VK} {p : Addr} {z : Str} {zs : List Str} (s : SqT K H p (zs.map V.str)) (h : Q (.bl (inV (.str z) (zs.map V.str))) H) : rIn K false (.str z) (.ref p) H Q :=
  ⟨p, zs.map V.str, rfl, .inr s, rfl, by rw [List.all_map]; exact List.all_eq_true.mpr fun _ _ => rfl, h⟩
theorem rd_notInS {K : PySem.W.Frag} {H : Hp} {Q : VK} {p : Addr} {z : Str} {zs : List Str} (s : SqT K H p (zs.map V.str)) (h : Q (.bl (!inV (.str z) (zs.map V.str))) H) : rIn K true (.str z) (.ref p) H Q :=
  ⟨p, zs.map V.str, rfl, .inr s, rfl, by rw [List.all_map]; exact List.all_eq_true.mpr fun _ _ => rfl, h⟩
theorem rd_bno {b : Bool} {A B : Prop} (hb : b = false) (h : B) : ∃ k, V.bl b = V.bl k ∧ if k = true then A else B := ⟨b, rfl, by rw [hb]; exact h⟩
theorem rd_byes {b : Bool} {A B : Prop} (hb : b = true) (h : A) : ∃ k, V.bl b = V.bl k ∧ if k = true then A else B := ⟨b, rfl, by rw [hb]; exact h⟩
/-- a formula's word -/
def wd : Fm → Str
  | .letter _ => "letter"
  | .no _ => "not"
  | .conn b _ => cw b
  | .same _ _ => "same"
/-- the formulas in it -/
def kids : Fm → List Fm
  | .letter _ => []
  | .no f => [f]
  | .conn _ fs => fs
  | .same f g => [f, g]
theorem nd_pos (f : Fm) : 1 ≤ nd f := by cases f <;> (rw [nd] <;> omega)
theorem nds_len (fs : List Fm) : fs.length ≤ nds fs := by
  induction fs with
  | nil => exact Nat.zero_le _
  | cons a t ih =>
    have := nd_pos a
    rw [nds, List.length_cons]
    omega
theorem nds_ge {fs : List Fm} {f : Fm} (h : f ∈ fs) : nd f ≤ nds fs := by
  induction fs with
  | nil => cases h
  | cons a t ih =>
    rw [nds]
    rcases List.mem_cons.mp h with rfl | h
    · omega
    · have := ih h
      omega
theorem kids_len (f : Fm) : (kids f).length ≤ nd f + 1 := by
  cases f with
  | letter z => exact Nat.zero_le _
  | no f => show 1 ≤ _; omega
  | conn b fs =>
    have := nds_len fs
    show fs.length ≤ nds fs + 1 + 1
    omega
  | same f g =>
    have := nd_pos f
    show 2 ≤ nd f + nd g + 1 + 1
    omega
theorem kids_nd {f g : Fm} (h : g ∈ kids f) : nd g ≤ nd f := by
  cases f with
  | letter z => cases h
  | no f =>
    rw [List.mem_singleton.mp h, nd]
    omega
  | conn b fs =>
    have := nds_ge (show g ∈ fs from h)
    rw [nd]
    omega
  | same f g2 =>
    have h : g ∈ [f, g2] := h
    rw [nd]
    simp only [List.mem_cons, List.not_mem_nil, or_false] at h
    rcases h with rfl | rfl <;> omega
section
variable {K : PySem.W.Frag} {H H' : Hp}
theorem dp_letter {v : V} {z : Str} (h : Dp K H v (dat (.letter z))) : ∃ a, v = .ref a ∧ SqT K H a [.str "letter", .str z] := by
  rw [dat] at h
  cases h with
  | tup hs ha =>
    cases ha with
    | cons h1 h2 =>
      cases h2 with
      | cons h3 h4 =>
        cases h4
        cases h1
        cases h3
        exact ⟨_, rfl, hs⟩
theorem dp_no {v : V} {f : Fm} (h : Dp K H v (dat (.no f))) : ∃ a x, v = .ref a ∧ SqT K H a [.str "not", x] ∧ Dp K H x (dat f) := by
  rw [dat] at h
  cases h with
  | tup hs ha =>
    cases ha with
    | cons h1 h2 =>
      cases h2 with
      | cons h3 h4 =>
        cases h4
        cases h1
        exact ⟨_, _, rfl, hs, h3⟩
theorem dp_conn {v : V} {b : Bool} {fs : List Fm} (h : Dp K H v (dat (.conn b fs))) : ∃ a c xs, v = .ref a ∧ SqT K H a [.str (cw b), .ref c] ∧ SqT K H c xs ∧ DpAll K H xs (dats fs) := by
  rw [dat] at h
  cases h with
  | tup hs ha =>
    cases ha with
    | cons h1 h2 =>
      cases h2 with
      | cons h3 h4 =>
        cases h4
        cases h1
        cases h3 with
        | tup hc hx => exact ⟨_, _, _, rfl, hs, hc, hx⟩
theorem dp_same {v : V} {f g : Fm} (h : Dp K H v (dat (.same f g))) : ∃ a x y, v = .ref a ∧ SqT K H a [.str "same", x, y] ∧ Dp K H x (dat f) ∧ Dp K H y (dat g) := by
  rw [dat] at h
  cases h with
  | tup hs ha =>
    cases ha with
    | cons h1 h2 =>
      cases h2 with
      | cons h3 h4 =>
        cases h4 with
        | cons h5 h6 =>
          cases h6
          cases h1
          exact ⟨_, _, _, rfl, hs, h3, h5⟩
theorem noL_dats : ∀ fs : List Fm, (∀ f ∈ fs, noL (dat f) = true) → noLs (dats fs) = true
  | [], _ => rfl
  | f :: t, h => by
    show (noL (dat f) && noLs (dats t)) = true
    rw [h f List.mem_cons_self, noL_dats t fun x hx => h x (List.mem_cons_of_mem _ hx)] <;> rfl
mutual
theorem noL_dat : ∀ f : Fm, noL (dat f) = true
  | .letter z => rfl
  | .no f => by simp only [dat, noL, noLs, noL_dat f] <;> rfl
  | .conn b fs => by simp only [dat, noL, noLs, noL_dat2 fs] <;> rfl
  | .same f g => by simp only [dat, noL, noLs, noL_dat f, noL_dat g] <;> rfl
theorem noL_dat2 : ∀ fs : List Fm, noLs (dats fs) = true
  | [] => rfl
  | f :: t => by simp only [dats, noLs, noL_dat f, noL_dat2 t] <;> rfl
end
theorem dpF_ex {v : V} {f : Fm} (e : Evl.Ex H H') (h : Dp K H v (dat f)) : Dp K H' v (dat f) := dp_mono (fun _ _ t => Evl.ex_t e t) _ _ (noL_dat f) h
theorem dpF_gt {d l : Addr} {v : V} {f : Fm} (g : Gt d l H H') (hD : DeckT d l H) (h : Dp K H v (dat f)) : Dp K H' v (dat f) := dp_mono (fun _ _ t => g.tup hD t) _ _ (noL_dat f) h
theorem dpsF_ex {xs : List V} {fs : List Fm} (e : Evl.Ex H H') (h : DpAll K H xs (dats fs)) : DpAll K H' xs (dats fs) := dps_mono (fun _ _ t => Evl.ex_t e t) _ _ (noL_dat2 fs) h
theorem dpsF_gt {d l : Addr} {xs : List V} {fs : List Fm} (g : Gt d l H H') (hD : DeckT d l H) (h : DpAll K H xs (dats fs)) : DpAll K H' xs (dats fs) := dps_mono (fun _ _ t => g.tup hD t) _ _ (noL_dat2 fs) h
theorem dps_len : ∀ {xs : List V} {ds : List PyData}, DpAll K H xs ds → xs.length = ds.length
  | _, _, .nil => rfl
  | _, _, .cons _ h => congrArg (· + 1) (dps_len h)
theorem dps_get : ∀ {xs : List V} {fs : List Fm} {i : Nat} {x : V}, DpAll K H xs (dats fs) → xs[i]? = some x → ∃ f, fs[i]? = some f ∧ Dp K H x (dat f)
  | _, f :: _, 0, x, .cons h _, e => by
    obtain rfl : _ = x := Option.some.inj e
    exact ⟨f, rfl, h⟩
  | _, _ :: _, i + 1, _, .cons _ h, e => dps_get (i := i) h e
  | _, [], _, _, .nil, e => by simp at e
end
section
variable {P : Program} {w : World} {K : PySem.W.Frag} {mg : Str → Option Value} {base : Heap}
def spPartsOf (K : PySem.W.Frag) : Sp := fun vs H Q _ => ∃ (v : V) (f : Fm), vs = [v] ∧ Dp K H v (dat f) ∧
  ∀ (q : Addr) (xs : List V) (H' : Hp), Evl.Ex H H' → SqT K H' q xs → DpAll K H' xs (dats (kids f)) → Q (.ref q) H'
theorem ok_partsof {f jj nj qj : Addr} {fd : FuncData} (F : Fun K "parts_of" "parts_of" sparts_of f fd) (T : Bl mg) (GL : Gls K mg jj nj qj) : FnOk P w K mg base CX0 1 f fd ["formula"] (spPartsOf K) := by
  refine F.ok scparts_of (fun vs H Q E h => ?_) (fun cdv A outer s H vs Q E hr h => ?_)
  · obtain ⟨v, f, rfl, _⟩ := h
    rfl
  · obtain ⟨v, f, rfl, hv, q⟩ := h
    refine ⟨_, (pss_cons (ps_set (i := 1) scparts_of.nd rfl (Or.inl rfl) (pe_ix (ik_tup (K := K) rfl) (pv 0) pe_int (fun _ _ => rfl)))
 (pss_cons (ps_if (pt_cmpR (ok_in (K := K) rfl) (pv 1) (pe_glob (v := .ref jj) (by rfl) GL.jm rfl) (by rfl)) (pss_one (ps_ret (pe_ix (ik_tup (K := K) rfl) (pv 0) pe_int (fun _ _ => rfl)))) pss_nil)
 (pss_one (ps_ret (pe_ifExp (pt_cmpR (ok_in (K := K) rfl) (pv 1) (pe_glob (v := .ref nj) (by rfl) GL.nm rfl) (by rfl)) (pe_slice (sk_tup (K := K) rfl) (pv 0) (po_some pe_int) po_none) (pe_slice (sk_tup (K := K) rfl) (pv 0) (po_some pe_int) po_none)))))), ?_⟩
    refine rd_start (σ' := [some v, none]) rfl ?_
    cases f with
    | letter z =>
      obtain ⟨a, rfl, sa⟩ := dp_letter hv
      walk_at "rds"
      refine rd_ixT sa rfl ?_
      walk_at "rds"
      refine rd_inS (zs := ["and", "or"]) (GL.jt _) ?_
      refine rd_bno (by decide) ?_
      walk_at "rds"
      refine rd_inS (zs := ["letter", "each", "some"]) (GL.nt _) ?_
      refine rd_byes (by decide) ?_
      walk_at "rds"
      refine rd_slT sa fun p H1 e1 s1 => ?_
      exact q p _ _ e1 s1 .nil
    | no f =>
      obtain ⟨a, x, rfl, sa, hx⟩ := dp_no hv
      walk_at "rds"
      refine rd_ixT sa rfl ?_
      walk_at "rds"
      refine rd_inS (zs := ["and", "or"]) (GL.jt _) ?_
      refine rd_bno (by decide) ?_
      walk_at "rds"
      refine rd_inS (zs := ["letter", "each", "some"]) (GL.nt _) ?_
      refine rd_bno (by decide) ?_
      walk_at "rds"
      refine rd_slT sa fun p H1 e1 s1 => ?_
      exact q p _ _ e1 s1 (.cons (dpF_ex e1 hx) .nil)
    | conn b fs =>
      obtain ⟨a, c, xs, rfl, sa, sc, hx⟩ := dp_conn hv
      walk_at "rds"
      refine rd_ixT sa rfl ?_
      walk_at "rds"
      refine rd_inS (zs := ["and", "or"]) (GL.jt _) ?_
      refine rd_byes (by cases b <;> decide) ?_
      walk_at "rds"
      refine rd_ixT sa rfl ?_
      exact q c xs _ (Evl.Ex.refl _) sc hx
    | same f g =>
      obtain ⟨a, x, y, rfl, sa, hx, hy⟩ := dp_same hv
      walk_at "rds"
      refine rd_ixT sa rfl ?_
      walk_at "rds"
      refine rd_inS (zs := ["and", "or"]) (GL.jt _) ?_
      refine rd_bno (by decide) ?_
      walk_at "rds"
      refine rd_inS (zs := ["letter", "each", "some"]) (GL.nt _) ?_
      refine rd_bno (by decide) ?_
      walk_at "rds"
      refine rd_slT sa fun p H1 e1 s1 => ?_
      exact q p _ _ e1 s1 (.cons (dpF_ex e1 hx) (.cons (dpF_ex e1 hy) .nil))
def spPlain (K : PySem.W.Frag) (m : Nat) : Sp := fun vs H Q _ => ∃ (v : V) (f : Fm), vs = [v] ∧ Dp K H v (dat f) ∧ dp f ≤ m ∧ nd f ≤ 1000 ∧ ∀ H', Evl.Ex H H' → Q (.bl true) H'
theorem ok_plain1 {f fP jj nj qj : Addr} {fd fdP : FuncData} (F : Fun K "is_plain" "is_plain" sis_plain f fd) (T : Bl mg) (GL : Gls K mg jj nj qj) {m k : Nat} (hk : 1 ≤ k)
    (Gparts_of : FnOk P w K mg base CX0 1 fP fdP ["formula"] (spPartsOf K)) (Cparts_of : Callee K mg "parts_of" fP fdP ["formula"])
    (Gis_plain : FnOk P w K mg base CX0 k f fd ["formula"] (spPlain K m)) (Cis_plain : Callee K mg "is_plain" f fd ["formula"]) :
    FnOk P w K mg base CX0 (k + 1) f fd ["formula"] (spPlain K (m + 1)) := by
  refine F.ok scis_plain (fun vs H Q E h => ?_) (fun cdv A outer s H vs Q E hr h => ?_)
  · obtain ⟨v, f, rfl, _⟩ := h
    rfl
  · obtain ⟨v, f, rfl, hv, hm, hn, q⟩ := h
    refine ⟨_, (pss_one (ps_ret (pe_and (pe_cmpR (ok_notIn (K := K) rfl) (pe_ix (ik_tup (K := K) rfl) (pv 0) pe_int (fun _ _ => rfl)) (pe_glob (v := .ref qj) (by rfl) GL.qm rfl) (by rfl)) (pe_one (pe_callB (c_all (K := K) rfl rfl) (by rfl) T.all (by decide +kernel) (pa_cons (pe_lc (own := [("part", 1)]) (g := gName 1) rfl scis_plain.nd (ik_tupI (K := K) rfl (pe_call Gparts_of (hr.mono hk) (by rfl) Cparts_of.m Cparts_of.k Cparts_of.b .nil pass0 (pa_cons (pv 0) pa_nil))) (blkOk_by (own := [("part", 1)]) (N := ["formula", "part"]) (sc := defScope sis_plain) (by decide +kernel)) (fun _ _ _ _ _ => (pg_name (i := 1) scis_plain.nd rfl (Or.inl rfl))) (fun _ _ _ _ _ => pts_nil) (fun _ _ _ _ _ => (pe_call Gis_plain hr (by rfl) Cis_plain.m Cis_plain.k Cis_plain.b .nil pass0 (pa_cons (pv 1) pa_nil)))) pa_nil)))))), ?_⟩
    refine rd_start (σ' := [some v, none]) rfl ?_
    have hw : ∃ a x t, v = .ref a ∧ SqT K H a (.str (wd f) :: x :: t) ∧ inV (.str (wd f)) [V.str "each", .str "some"] = false := by
      cases f with
      | letter z =>
        obtain ⟨a, rfl, sa⟩ := dp_letter hv
        exact ⟨a, _, _, rfl, sa, by simp only [wd]; decide⟩
      | no f =>
        obtain ⟨a, x, rfl, sa, hx⟩ := dp_no hv
        exact ⟨a, _, _, rfl, sa, by simp only [wd]; decide⟩
      | conn b fs =>
        obtain ⟨a, c, xs, rfl, sa, sc, hx⟩ := dp_conn hv
        exact ⟨a, _, _, rfl, sa, by cases b <;> (simp only [wd, cw]; decide)⟩
      | same f g =>
        obtain ⟨a, x, y, rfl, sa, hx, hy⟩ := dp_same hv
        exact ⟨a, _, _, rfl, sa, by simp only [wd]; decide⟩
    obtain ⟨a, x, t, rfl, sa, hin⟩ := hw
    have hsz : (kids f).length ≤ 40000 := by have := kids_len f; omega
    have hkn : ∀ g ∈ kids f, nd g ≤ 1000 := fun g hg => by have := kids_nd hg; omega
    have hkid : ∀ g ∈ kids f, dp g ≤ m := fun g hg => by
      cases f with
      | letter z => cases hg
      | no f =>
        rw [List.mem_singleton.mp hg]
        rw [dp] at hm
        omega
      | conn b fs =>
        have := dps_ge (show g ∈ fs from hg)
        rw [dp] at hm
        omega
      | same f g2 =>
        rw [dp] at hm
        have hg : g ∈ [f, g2] := hg
        simp only [List.mem_cons, List.not_mem_nil, or_false] at hg
        rcases hg with rfl | rfl <;> omega
    walk_at "rds"
    refine rd_ixT (x := .str (wd f)) sa (atI_nat (j := 0) rfl) ?_
    walk_at "rds"
    refine rd_notInS (zs := ["each", "some"]) (GL.qt _) ?_
    refine rd_byes (by show (!inV (.str (wd f)) [V.str "each", .str "some"]) = true; rw [hin]; rfl) ?_
    walk_at "rds"
    refine ⟨.ref a, f, rfl, hv, fun p xs H1 e1 sp hx => ?_⟩
    have lx : xs.length = (kids f).length := by rw [dps_len hx, dats_map, List.length_map]
    refine rd_ref sp ?_
    refine lc_exT (fun i acc H' => acc = List.replicate i (V.bl true)) (fun i acc H1 D ys u e h => h) (σx := fun x => [some (.ref a), some x]) sp (by rw [lx]; exact hsz) (fun _ => rfl) (fun _ => rfl) (fun H' _ => rfl) (fun i x hi acc H' N e hP kN => ?_) fun D acc H2 e2 eD hacc hP => ?_
    · obtain ⟨g, hg, hdg⟩ := dps_get hx hi
      walk_at "rds"
      refine ⟨x, g, rfl, dpF_ex e hdg, hkid g (List.mem_of_getElem? hg), hkn g (List.mem_of_getElem? hg), fun H3 e3 => kN _ _ e3 ?_⟩
      rw [hP, List.replicate_succ']
    walk_at "rds"
    have eb : acc = (List.replicate xs.length true).map V.bl := by rw [hP, List.map_replicate]
    refine rd_all (bs := List.replicate xs.length true) (SqL.of (by rw [hacc, eb])) ?_
    have ea : (List.replicate xs.length true).all id = true := List.all_eq_true.mpr fun b hb => by rw [(List.mem_replicate.mp hb).2] <;> rfl
    rw [ea]
    exact q _ (e1.trans e2)
end
end KA
set_option Elab.async false
set_option linter.all false
set_option maxRecDepth 100000
set_option maxHeartbeats 400000
/-! Rows held as cells (keys of a dict want the very cell); a comprehension over a list that makes lists. -/
namespace Ea
open PySem PySem.Spec PyProof PyProof.Rows L2
theorem rd_catC {K : PySem.W.Frag} {H : Hp} {Q : VK} {p p2 : Addr} {xs ys : List V} (s : H p = some (.tup xs)) (s2 : H p2 = some (.tup ys)) (hz : xs.length + ys.length ≤ sizeLine)
    (h : ∀ (q : Addr) (H' : Hp), Evl.Ex H H' → H' q = some (.tup (xs ++ ys)) → Q (.ref q) H') : rCatA K (.ref p) (.ref p2) H Q := by
  refine ⟨p, p2, xs, ys, rfl, rfl, SqT.of s, SqT.of s2, hz, fun e => ?_, fun _ e => ?_, fun _ _ q hq => h q _ (Evl.Ex.new hq) upd_same⟩
  · subst e
    exact h p2 H (Evl.Ex.refl H) s2
  · subst e
    exact h p H (Evl.Ex.refl H) (by rw [List.append_nil]; exact s)
/-- rows as cells -/
def Cs (H : Hp) (vs : List V) (ps : List (List Int)) : Prop := vs.length = ps.length ∧ ∀ (j : Nat) (p : List Int), ps[j]? = some p → ∃ b : Addr, vs[j]? = some (.ref b) ∧ H b = some (.tup (p.map V.int))
theorem Cs.nil {H : Hp} : Cs H [] [] := ⟨rfl, fun j p h => by simp at h⟩
theorem Cs.one {H : Hp} {b : Addr} {p : List Int} (h : H b = some (.tup (p.map V.int))) : Cs H [.ref b] [p] := ⟨rfl, fun j q hq => by
  cases j with
  | zero =>
    obtain rfl : p = q := Option.some.inj hq
    exact ⟨b, rfl, h⟩
  | succ j => simp at hq⟩
theorem Cs.app {H : Hp} {vs us : List V} {ps qs : List (List Int)} (h : Cs H vs ps) (h2 : Cs H us qs) : Cs H (vs ++ us) (ps ++ qs) := ⟨by rw [List.length_append, List.length_append, h.1, h2.1], fun j p hj => by
  rw [List.getElem?_append] at hj
  split at hj
  · next c =>
    obtain ⟨b, h3, h4⟩ := h.2 j p hj
    exact ⟨b, by rw [List.getElem?_append_left (by rw [h.1]; exact c)]; exact h3, h4⟩
  · next c =>
    obtain ⟨b, h3, h4⟩ := h2.2 _ p hj
    exact ⟨b, by rw [List.getElem?_append_right (by rw [h.1]; omega), h.1]; exact h3, h4⟩⟩
theorem Cs.two {H : Hp} {b c : Addr} {p q : List Int} (h : H b = some (.tup (p.map V.int))) (h2 : H c = some (.tup (q.map V.int))) : Cs H [.ref b, .ref c] [p, q] := (Cs.one h).app (Cs.one h2)
theorem Cs.ex {H H' : Hp} {vs : List V} {ps : List (List Int)} (e : Evl.Ex H H') (h : Cs H vs ps) : Cs H' vs ps := ⟨h.1, fun j p hj => by
  obtain ⟨b, h3, h4⟩ := h.2 j p hj
  exact ⟨b, h3, e _ _ h4⟩⟩
theorem Cs.get {H : Hp} {vs : List V} {ps : List (List Int)} (h : Cs H vs ps) {j : Nat} {v : V} (hj : vs[j]? = some v) : ∃ (b : Addr) (p : List Int), v = .ref b ∧ ps[j]? = some p ∧ H b = some (.tup (p.map V.int)) := by
  have hl := (List.getElem?_eq_some_iff.mp hj).1
  obtain ⟨p, hp⟩ : ∃ p, ps[j]? = some p := ⟨_, List.getElem?_eq_getElem (by rw [← h.1]; exact hl)⟩
  obtain ⟨b, h3, h4⟩ := h.2 j p hp
  rw [h3] at hj
  exact ⟨b, p, (Option.some.inj hj).symm, hp, h4⟩
theorem Cs.mut {H : Hp} {vs : List V} {ps : List (List Int)} {D : Addr} {ys u : List V} (h : Cs H vs ps) (hD : H D = some (.lst ys)) : Cs (upd H D (.lst u)) vs ps := ⟨h.1, fun j p hj => by
  obtain ⟨b, h3, h4⟩ := h.2 j p hj
  refine ⟨b, h3, ?_⟩
  rw [upd_ne (fun e => by rw [e, hD] at h4; cases h4)]
  exact h4⟩
/-- lists of rows as cells -/
def Ws (H : Hp) (vs : List V) (ws : List (List (List Int))) : Prop := vs.length = ws.length ∧ ∀ (j : Nat) (w : List (List Int)), ws[j]? = some w → ∃ (b : Addr) (ys : List V), vs[j]? = some (.ref b) ∧ H b = some (.lst ys) ∧ Cs H ys w
theorem Ws.nil {H : Hp} : Ws H [] [] := ⟨rfl, fun j p h => by simp at h⟩
theorem Ws.one {H : Hp} {b : Addr} {ys : List V} {w : List (List Int)} (h : H b = some (.lst ys)) (hc : Cs H ys w) : Ws H [.ref b] [w] := ⟨rfl, fun j q hq => by
  cases j with
  | zero =>
    obtain rfl : w = q := Option.some.inj hq
    exact ⟨b, ys, rfl, h, hc⟩
  | succ j => simp at hq⟩
theorem Ws.app {H : Hp} {vs us : List V} {ps qs : List (List (List Int))} (h : Ws H vs ps) (h2 : Ws H us qs) : Ws H (vs ++ us) (ps ++ qs) := ⟨by rw [List.length_append, List.length_append, h.1, h2.1], fun j p hj => by
  rw [List.getElem?_append] at hj
  split at hj
  · next c =>
    obtain ⟨b, ys, h3, h4⟩ := h.2 j p hj
    exact ⟨b, ys, by rw [List.getElem?_append_left (by rw [h.1]; exact c)]; exact h3, h4⟩
  · next c =>
    obtain ⟨b, ys, h3, h4⟩ := h2.2 _ p hj
    exact ⟨b, ys, by rw [List.getElem?_append_right (by rw [h.1]; omega), h.1]; exact h3, h4⟩⟩
theorem Ws.ex {H H' : Hp} {vs : List V} {ps : List (List (List Int))} (e : Evl.Ex H H') (h : Ws H vs ps) : Ws H' vs ps := ⟨h.1, fun j p hj => by
  obtain ⟨b, ys, h3, h4, h5⟩ := h.2 j p hj
  exact ⟨b, ys, h3, e _ _ h4, h5.ex e⟩⟩
theorem Ws.get {H : Hp} {vs : List V} {ps : List (List (List Int))} (h : Ws H vs ps) {j : Nat} {v : V} (hj : vs[j]? = some v) : ∃ (b : Addr) (ys : List V) (w : List (List Int)), v = .ref b ∧ ps[j]? = some w ∧ H b = some (.lst ys) ∧ Cs H ys w := by
  have hl := (List.getElem?_eq_some_iff.mp hj).1
  obtain ⟨p, hp⟩ : ∃ p, ps[j]? = some p := ⟨_, List.getElem?_eq_getElem (by rw [← h.1]; exact hl)⟩
  obtain ⟨b, ys, h3, h4, h5⟩ := h.2 j p hp
  rw [h3] at hj
  exact ⟨b, ys, p, (Option.some.inj hj).symm, hp, h4, h5⟩
/-- .. while another list is written -/
theorem Ws.mut {H : Hp} {vs : List V} {ps : List (List (List Int))} {D : Addr} {ys u : List V} (h : Ws H vs ps) (hD : H D = some (.lst ys)) (off : ∀ v ∈ vs, v ≠ .ref D) : Ws (upd H D (.lst u)) vs ps := ⟨h.1, fun j p hj => by
  obtain ⟨b, zs, h3, h4, h5⟩ := h.2 j p hj
  refine ⟨b, zs, h3, ?_, h5.mut hD⟩
  rw [upd_ne (fun e => off _ (List.mem_of_getElem? h3) (by rw [e]))]
  exact h4⟩
section
variable {K : PySem.W.Frag} {σ : L2.St} {H : Hp} {Q : VK} {te : TE} {vs : List Nat} {j : Nat} {σx : V → L2.St} {a : Addr} {xs : List V}
/-- .. over a list, what is made may be lists -/
theorem lc_lsL (Pv : Addr → Nat → List V → Hp → Prop) (stay : ∀ i acc H1 D u, H1 D = some (.lst acc) → Pv D i acc H1 → Pv D i acc (upd H1 D (.lst u)))
    (hx : SqL K H a xs) (hz : xs.length ≤ 40000) (hσ : ∀ x, (wipe σ vs).set j (some x) = σx x) (hw : ∀ x, wipe (σx x) vs = wipe σ vs) (h0 : ∀ D H', Evl.Ex H H' → Pv D 0 [] H')
    (hs : ∀ i x, xs[i]? = some x → ∀ (D : Addr) (acc : List V) (H' : Hp) (N : VK), Evl.Ex H H' → H' D = some (.lst acc) → Pv D i acc H' → (∀ v H3, Evl.Ex H' H3 → Pv D (i + 1) (acc ++ [v]) (upd H3 D (.lst (acc ++ [v]))) → N v H3) → te (σx x) H' N)
    (hd : ∀ D acc H', Evl.Ex H H' → H D = none → H' D = some (.lst acc) → Pv D xs.length acc H' → Q (.ref D) H') : LcR (gName j) tYes te vs σ Q (Itl K a) H := fun D hn =>
  lc_list (xs := xs) (fun i H' => i ≤ xs.length ∧ Evl.Ex H H' ∧ ∃ acc, H' D = some (.lst acc) ∧ acc.length = i ∧ Pv D i acc H') ⟨Nat.zero_le _, Evl.Ex.new hn, [], upd_same, rfl, h0 _ _ (Evl.Ex.new hn)⟩ (fun i H' _ ⟨_, ex, _⟩ => Evl.ex_l ex hx) (fun i x H' hi p => by
    obtain ⟨_, ex, acc, ea, hl, hp⟩ := p
    have hlt := (List.getElem?_eq_some_iff.mp hi).1
    rw [show gName j x (wipe σ vs) H' = fun N => N (σx x) H' from funext fun N => by rw [← hσ x] <;> rfl]
    refine ⟨hw _, ?_⟩
    refine rd_yes ?_
    rw [if_pos rfl]
    refine hs i x hi D acc H' _ ex ea hp fun v H3 e3 hp3 => ⟨acc, e3 D _ ea, Evl.sz_lt (by omega), by omega, Evl.Ex.mut (ex.trans e3) hn, acc ++ [v], upd_same, by rw [List.length_append, hl] <;> rfl, hp3⟩) fun H' p => by
    obtain ⟨_, ex, acc, ea, _, hp⟩ := p
    exact hd D acc H' ex hn ea hp
/-- .. over a tuple, what is made may be lists -/
theorem lc_lsT (Pv : Addr → Nat → List V → Hp → Prop) (stay : ∀ i acc H1 D u, H1 D = some (.lst acc) → Pv D i acc H1 → Pv D i acc (upd H1 D (.lst u)))
    (hx : SqT K H a xs) (hz : xs.length ≤ 40000) (hσ : ∀ x, (wipe σ vs).set j (some x) = σx x) (hw : ∀ x, wipe (σx x) vs = wipe σ vs) (h0 : ∀ D H', Evl.Ex H H' → Pv D 0 [] H')
    (hs : ∀ i x, xs[i]? = some x → ∀ (D : Addr) (acc : List V) (H' : Hp) (N : VK), Evl.Ex H H' → H' D = some (.lst acc) → Pv D i acc H' → (∀ v H3, Evl.Ex H' H3 → Pv D (i + 1) (acc ++ [v]) (upd H3 D (.lst (acc ++ [v]))) → N v H3) → te (σx x) H' N)
    (hd : ∀ D acc H', Evl.Ex H H' → H D = none → H' D = some (.lst acc) → Pv D xs.length acc H' → Q (.ref D) H') : LcR (gName j) tYes te vs σ Q (Itt K a) H := fun D hn =>
  lc_tup (xs := xs) (fun i H' => i ≤ xs.length ∧ Evl.Ex H H' ∧ ∃ acc, H' D = some (.lst acc) ∧ acc.length = i ∧ Pv D i acc H') ⟨Nat.zero_le _, Evl.Ex.new hn, [], upd_same, rfl, h0 _ _ (Evl.Ex.new hn)⟩ (fun i H' _ ⟨_, ex, _⟩ => Evl.ex_t ex hx) (fun i x H' hi p => by
    obtain ⟨_, ex, acc, ea, hl, hp⟩ := p
    have hlt := (List.getElem?_eq_some_iff.mp hi).1
    rw [show gName j x (wipe σ vs) H' = fun N => N (σx x) H' from funext fun N => by rw [← hσ x] <;> rfl]
    refine ⟨hw _, ?_⟩
    refine rd_yes ?_
    rw [if_pos rfl]
    refine hs i x hi D acc H' _ ex ea hp fun v H3 e3 hp3 => ⟨acc, e3 D _ ea, Evl.sz_lt (by omega), by omega, Evl.Ex.mut (ex.trans e3) hn, acc ++ [v], upd_same, by rw [List.length_append, hl] <;> rfl, hp3⟩) fun H' p => by
    obtain ⟨_, ex, acc, ea, _, hp⟩ := p
    exact hd D acc H' ex hn ea hp
end
end Ea
set_option Elab.async false
set_option linter.all false
set_option maxRecDepth 100000
set_option maxHeartbeats 400000
/-! x in t, x not in t for a tuple of data of any depth. -/
namespace Ea
open PySem PySem.Spec PyProof PyProof.Rows L2
def rInDT (K : PySem.W.Frag) : R2 := fun x y H Q => ∃ d ds, Dp K H x d ∧ Dp K H y (.tuple ds) ∧ SeqAt.shaped d = true ∧ SeqAt.shaped (.tuple ds) = true ∧ Q (.bl (ds.any fun z => PyData.eqv z d)) H
def rNotInDT (K : PySem.W.Frag) : R2 := fun x y H Q => ∃ d ds, Dp K H x d ∧ Dp K H y (.tuple ds) ∧ SeqAt.shaped d = true ∧ SeqAt.shaped (.tuple ds) = true ∧ Q (.bl (!ds.any fun z => PyData.eqv z d)) H
theorem op_inDT {X : Cx} {K : PySem.W.Frag} (hK : X.K = K) (hu : X.A.units + 65 < cLine) : OpR X (compareOp .In) (rInDT K) := by
  subst hK
  intro pins s σ H x y v u Q I rx ry h
  obtain ⟨d, ds, hd, he, sd, se, q⟩ := h
  obtain ⟨as, r1⟩ := Dp.reads I d x v hd rx
  obtain ⟨bs, r2⟩ := Dp.reads I (.tuple ds) y u he ry
  exact SeqAt.in_tuple_reads r2 r1 (SeqAt.canLay_of_shaped se) (SeqAt.canLay_of_shaped sd) (room_in_shaped sd hu) ⟨.bl _, H, I, rfl, q⟩
theorem op_notInDT {X : Cx} {K : PySem.W.Frag} (hK : X.K = K) (hu : X.A.units + 65 < cLine) : OpR X (compareOp .NotIn) (rNotInDT K) := by
  subst hK
  intro pins s σ H x y v u Q I rx ry h
  obtain ⟨d, ds, hd, he, sd, se, q⟩ := h
  obtain ⟨as, r1⟩ := Dp.reads I d x v hd rx
  obtain ⟨bs, r2⟩ := Dp.reads I (.tuple ds) y u he ry
  exact SeqAt.notIn_tuple_reads r2 r1 (SeqAt.canLay_of_shaped se) (SeqAt.canLay_of_shaped sd) (room_in_shaped sd hu) ⟨.bl _, H, I, rfl, q⟩
end Ea
set_option Elab.async false
set_option linter.all false
set_option maxRecDepth 100000
set_option maxHeartbeats 400000
/-! sorted of a list of alike data (pairs of an int and something). -/
namespace Ea
open PySem PySem.Spec PyProof PyProof.Rows L2
theorem vals_fst {β : Type} : ∀ {ps : List (V × β)} {its : List Value}, Vals (ps.map (·.1)) its → PySem.W.EachIs (fun v (p : V × β) => RelV p.1 v) its ps
  | [], _, r => by
    cases r
    exact .nil
  | p :: ps, _, r => by
    rw [List.map_cons] at r
    cases r with
    | cons h t => exact .cons h (vals_fst t)
theorem fst_vals {β : Type} : ∀ {its : List Value} {ps : List (V × β)}, PySem.W.EachIs (fun v (p : V × β) => RelV p.1 v) its ps → Vals (ps.map (·.1)) its
  | _, _, .nil => .nil
  | _, _, .cons h t => .cons h (fst_vals t)
theorem perm_map_back {α β : Type} (f : α → β) : ∀ {qs : List β} {xs : List α}, qs.Perm (xs.map f) → ∃ ts : List α, ts.Perm xs ∧ qs = ts.map f := by
  intro qs xs h
  have key : ∀ {as bs : List β}, as.Perm bs → ∀ xs : List α, bs = xs.map f → ∃ ts : List α, ts.Perm xs ∧ as = ts.map f := by
    intro as bs h
    induction h with
    | nil =>
      intro xs e
      cases xs with
      | nil => exact ⟨[], .nil, rfl⟩
      | cons x t => cases e
    | cons x p ih =>
      intro xs e
      cases xs with
      | nil => cases e
      | cons y t =>
        rw [List.map_cons] at e
        injection e with e1 e2
        obtain ⟨ts, p2, e3⟩ := ih t e2
        exact ⟨y :: ts, p2.cons y, by rw [List.map_cons, e1, e3]⟩
    | swap x y l =>
      intro xs e
      match xs, e with
      | a :: b :: t, e =>
        rw [List.map_cons, List.map_cons] at e
        injection e with e1 e2
        injection e2 with e2 e3
        exact ⟨b :: a :: t, .swap a b t, by rw [List.map_cons, List.map_cons, e1, e2, e3]⟩
    | trans p1 p2 ih1 ih2 =>
      intro xs e
      obtain ⟨ts, p3, e3⟩ := ih2 xs e
      obtain ⟨us, p4, e4⟩ := ih1 ts e3
      exact ⟨us, p4.trans p3, e4⟩
  exact key h xs rfl
def rSortDt (K : PySem.W.Frag) : List V → Hp → VK → Prop := fun xs H Q => ∃ (a : Addr) (ps : List (V × PyData)), xs = [.ref a] ∧ SqL K H a (ps.map (·.1)) ∧ (∀ p ∈ ps, Dp K H p.1 p.2) ∧ PySem.W.AllAlike (ps.map (·.2)) ∧ PySem.W.Sortable (ps.map (·.2)) ∧ (∀ p ∈ ps, p.2.depth ≤ 8) ∧
  ∀ (qs : List (V × PyData)) (b : Addr), qs.Perm ps → qs.Pairwise (fun x y => PySem.W.dataLe false (fun p : V × PyData => p.2) x y = true) → H b = none → Q (.ref b) (upd H b (.lst (qs.map (·.1))))
theorem cr_sortDt {X : Cx} {K : PySem.W.Frag} (hK : X.K = K) (hu : X.A.units + 64 < cLine) : CallR X (.builtin "sorted") (rSortDt K) := by
  subst hK
  intro pins s σ H xs us Q I r h
  obtain ⟨a, ps, rfl, hs, hdp, hal, hsr, hdep, q⟩ := h
  rw [Vals.ref1 r]
  obtain ⟨its, rv, hl, hz⟩ := I.list hs
  have hlen : ps.length ≤ sizeLine := by
    rw [List.length_map] at hz
    exact hz
  have hR := vals_fst rv
  refine PySem.W.sorted_data (β := V × PyData) (R := fun v p => RelV p.1 v) (bs := ps) (enc := fun p => p.2) hl.isList hR ?_ hal hsr hlen (fun x hx => ?_) fun out ho he => ?_
  · refine (PySem.W.each_mem hR).mono fun v p ⟨hv, hp⟩ => ?_
    exact Dp.reads I p.2 p.1 v (hdp p hp) hv
  · have := hdep x hx
    omega
  · have pm : (ps.mergeSort (PySem.W.dataLe false fun p : V × PyData => p.2)).Perm ps := List.mergeSort_perm _ _
    have tot := PySem.W.sortLe_total (listOrd itemOrd) false fun p : V × PyData => PySem.W.keyToks p.2
    have so : (ps.mergeSort (PySem.W.dataLe false fun p : V × PyData => p.2)).Pairwise (fun x y => PySem.W.dataLe false (fun p : V × PyData => p.2) x y = true) :=
      PySem.W.sort_pairwise tot ps
    have hl2 : ((ps.mergeSort (PySem.W.dataLe false fun p : V × PyData => p.2)).map (·.1)).length ≤ sizeLine := by
      rw [List.length_map, pm.length_eq]
      exact hlen
    obtain ⟨e, hat⟩ := PyProof.Rows.sortedAll_at s.heap its out.toArray
    exact ⟨.ref _, upd H (s.heap.objs.size + 1) (.lst _), I.laid (t' := s.toks) (fun b u e => PyProof.Rows.sortedAll_old e) (Nat.le_succ _) ⟨hl2, out, e, fst_vals he, hat⟩, rfl, q _ _ pm so (I.hok.fresh (Nat.le_succ _))⟩
theorem rd_sortDt {K : PySem.W.Frag} {H : Hp} {Q : VK} {a : Addr} (ps : List (V × PyData)) (hs : SqL K H a (ps.map (·.1))) (hdp : ∀ p ∈ ps, Dp K H p.1 p.2) (hal : PySem.W.AllAlike (ps.map (·.2))) (hsr : PySem.W.Sortable (ps.map (·.2))) (hdep : ∀ p ∈ ps, p.2.depth ≤ 8)
    (q : ∀ (qs : List (V × PyData)) (b : Addr), qs.Perm ps → qs.Pairwise (fun x y => PySem.W.dataLe false (fun p : V × PyData => p.2) x y = true) → H b = none → Q (.ref b) (upd H b (.lst (qs.map (·.1))))) : rSortDt K [.ref a] H Q := ⟨a, ps, rfl, hs, hdp, hal, hsr, hdep, q⟩
theorem le_of_pair {x y : V × PyData} {i j : Int} {ds es : List PyData} (hx : x.2 = .tuple (.int i :: ds)) (hy : y.2 = .tuple (.int j :: es)) (h : PySem.W.dataLe false (fun p : V × PyData => p.2) x y = true) : i ≤ j := by
  have h2 : (!PyProof.Rows.lexLt itemOrd (PySem.W.keyToks y.2) (PySem.W.keyToks x.2)) = true := h
  rw [hx, hy] at h2
  have e1 : PySem.W.keyToks (.tuple (.int i :: ds)) = .inl 1 :: .inl i :: PySem.W.keyToksAll ds := by simp [PySem.W.keyToks, PySem.W.keyToksAll]
  have e2 : PySem.W.keyToks (.tuple (.int j :: es)) = .inl 1 :: .inl j :: PySem.W.keyToksAll es := by simp [PySem.W.keyToks, PySem.W.keyToksAll]
  rw [e1, e2, PyProof.Rows.lex_cons, PyProof.Rows.lex_cons] at h2
  refine Int.not_lt.mp fun c => ?_
  have b1 : itemOrd.blt (.inl j : Int ⊕ List Nat) (.inl i) = true := decide_eq_true c
  have b2 : itemOrd.blt (.inl 1 : Int ⊕ List Nat) (.inl 1) = false := by decide
  rw [b1, b2] at h2
  exact absurd h2 (by simp)
section
variable {K : PySem.W.Frag} {σ : L2.St} {H : Hp} {Q : VK} {tt : TT} {te : TE} {vs : List Nat} {j1 j2 k : Nat} {σx : V → V → L2.St} {a : Addr} {px py : Nat → V} {f : Nat → Bool} {g : Nat → V}
/-- a comprehension over a list of pairs -/
theorem lc_prL {xs : List V} (hk : k = 2) (hx : SqL K H a xs) (hz : xs.length ≤ 40000) (hp : ∀ i, i < xs.length → ∃ T, xs[i]? = some (.ref T) ∧ SqT K H T [px i, py i])
    (hσ : ∀ x y, ((wipe σ vs).set j1 (some x)).set j2 (some y) = σx x y) (hw : ∀ x y, wipe (σx x y) vs = wipe σ vs) (hs : ∀ i, i < xs.length → TurnP H tt te σx px py f g i)
    (hd : ∀ D H', Evl.Ex H H' → H D = none → H' D = some (.lst (((List.range xs.length).filter f).map g)) → Q (.ref D) H') : LcR (gTup K k (gCons (gName j1) (gCons (gName j2) gNil))) tt te vs σ Q (Itl K a) H := fun D hn =>
  lc_list (xs := xs) (fun i H' => Evl.Ex H H' ∧ H' D = some (.lst (((List.range i).filter f).map g))) ⟨Evl.Ex.new hn, upd_same⟩ (fun i H' _ ⟨ex, _⟩ => Evl.ex_l ex hx) (fun i x H' hi p => by
    obtain ⟨e, ed⟩ := p
    have hil := (List.getElem?_eq_some_iff.mp hi).1
    obtain ⟨T, hT, sT⟩ := hp i hil
    rw [hT] at hi
    cases hi
    have hlen : (((List.range i).filter f).map g).length < 100000 := by
      rw [List.length_map]
      have h1 := List.length_filter_le f (List.range i)
      rw [List.length_range] at h1
      omega
    refine rd_gtup2 (x := px i) (y := py i) (Evl.ex_t e sT) hk (hσ _ _) ⟨hw _ _, hs i hil _ _ _ e (fun hf H3 e3 => ?_) fun hf H3 e3 => ?_⟩
    · refine ⟨_, e3 D _ ed, Evl.sz_lt hlen, Evl.Ex.mut (e.trans e3) hn, ?_⟩
      rw [upd_same, range_snoc, if_pos hf]
    · refine ⟨e.trans e3, ?_⟩
      rw [range_snoc, if_neg (by rw [hf]; decide), List.append_nil]
      exact e3 D _ ed) fun H' p => hd D H' p.1 hn p.2
end
/-- pairs as cells: at place j a tuple of the int k and the value v -/
def Prs (H : Hp) (vs : List V) (ps : List (Int × V)) : Prop := vs.length = ps.length ∧ ∀ (j : Nat) (p : Int × V), ps[j]? = some p → ∃ b : Addr, vs[j]? = some (.ref b) ∧ H b = some (.tup [.int p.1, p.2])
theorem Prs.nil {H : Hp} : Prs H [] [] := ⟨rfl, fun j p h => by simp at h⟩
theorem Prs.ex {H H' : Hp} {vs : List V} {ps : List (Int × V)} (e : Evl.Ex H H') (h : Prs H vs ps) : Prs H' vs ps := ⟨h.1, fun j p hj => by
  obtain ⟨b, h3, h4⟩ := h.2 j p hj
  exact ⟨b, h3, e _ _ h4⟩⟩
theorem Prs.mut {H : Hp} {vs : List V} {ps : List (Int × V)} {D : Addr} {ys u : List V} (h : Prs H vs ps) (hD : H D = some (.lst ys)) : Prs (upd H D (.lst u)) vs ps := ⟨h.1, fun j p hj => by
  obtain ⟨b, h3, h4⟩ := h.2 j p hj
  refine ⟨b, h3, ?_⟩
  rw [upd_ne (fun e => by rw [e, hD] at h4; cases h4)]
  exact h4⟩
theorem Prs.snoc {H : Hp} {vs : List V} {ps : List (Int × V)} {b : Addr} {p : Int × V} (h : Prs H vs ps) (hb : H b = some (.tup [.int p.1, p.2])) : Prs H (vs ++ [.ref b]) (ps ++ [p]) := ⟨by rw [List.length_append, List.length_append, h.1] <;> rfl, fun j q hj => by
  rw [List.getElem?_append] at hj
  split at hj
  · next c =>
    obtain ⟨b2, h3, h4⟩ := h.2 j q hj
    exact ⟨b2, by rw [List.getElem?_append_left (by rw [h.1]; exact c)]; exact h3, h4⟩
  · next c =>
    have hj0 : j - ps.length = 0 := by
      have := (List.getElem?_eq_some_iff.mp hj).1
      rw [List.length_singleton] at this
      omega
    rw [hj0] at hj
    obtain rfl : p = q := Option.some.inj hj
    exact ⟨b, by rw [List.getElem?_append_right (by rw [h.1]; omega), h.1, hj0] <;> rfl, hb⟩⟩
/-- what is sorted: the pairs with their data -/
def prD (F : Int × V → PyData) (vs : List V) (ps : List (Int × V)) : List (V × PyData) := (vs.zip ps).map fun q => (q.1, F q.2)
theorem prD_fst {F : Int × V → PyData} {vs : List V} {ps : List (Int × V)} (h : vs.length = ps.length) : (prD F vs ps).map (·.1) = vs := by
  unfold prD
  rw [List.map_map]
  show (vs.zip ps).map Prod.fst = vs
  exact List.map_fst_zip (by omega)
/-- sorted(xs), xs a list of pairs (int, datum) -/
theorem rd_sortPrs {K : PySem.W.Frag} {H : Hp} {Q : VK} {a : Addr} {vs : List V} {ps : List (Int × V)} (E : V → PyData) (hs : SqL K H a vs) (hp : Prs H vs ps) (hE : ∀ p ∈ ps, Dp K H p.2 (E p.2)) (hal : ∀ p ∈ ps, ∀ q ∈ ps, PySem.W.alike (E p.2) (E q.2) = true) (hd : ∀ p ∈ ps, (E p.2).depth ≤ 4)
    (q : ∀ (us : List V) (qs : List (Int × V)) (b : Addr), qs.Perm ps → qs.Pairwise (fun x y => x.1 ≤ y.1) → Prs H us qs → H b = none → Q (.ref b) (upd H b (.lst us))) : rSortDt K [.ref a] H Q := by
  let F : Int × V → PyData := fun p => .tuple [.int p.1, E p.2]
  have hzip : ∀ t ∈ vs.zip ps, t.2 ∈ ps ∧ ∃ b, t.1 = .ref b ∧ H b = some (.tup [.int t.2.1, t.2.2]) := fun t ht => by
    obtain ⟨j, hj⟩ := List.mem_iff_getElem?.mp ht
    rw [List.getElem?_zip_eq_some] at hj
    obtain ⟨b, h3, h4⟩ := hp.2 j t.2 hj.2
    rw [hj.1] at h3
    exact ⟨List.mem_of_getElem? hj.2, b, Option.some.inj h3, h4⟩
  refine rd_sortDt (prD F vs ps) (by rw [prD_fst hp.1]; exact hs) (fun p hm => ?_) (fun d hm e hm2 => ?_) (.inl fun d hm => ?_) (fun p hm => ?_) fun qs b pm so hb => ?_
  · obtain ⟨t, ht, rfl⟩ := List.mem_map.mp hm
    obtain ⟨h1, b, h2, h3⟩ := hzip t ht
    show Dp K H t.1 (.tuple [.int t.2.1, E t.2.2])
    rw [h2]
    exact .tup (SqT.of h3) (.cons (.int _) (.cons (hE _ h1) .nil))
  · obtain ⟨p, hp1, rfl⟩ := List.mem_map.mp hm
    obtain ⟨t, ht, rfl⟩ := List.mem_map.mp hp1
    obtain ⟨p2, hp2, rfl⟩ := List.mem_map.mp hm2
    obtain ⟨t2, ht2, rfl⟩ := List.mem_map.mp hp2
    show PySem.W.alike (.tuple [.int t.2.1, E t.2.2]) (.tuple [.int t2.2.1, E t2.2.2]) = true
    have := hal _ (hzip t ht).1 _ (hzip t2 ht2).1
    simp [PySem.W.alike, PySem.W.alikeAll, this]
  · obtain ⟨p, hp1, rfl⟩ := List.mem_map.mp hm
    obtain ⟨t, ht, rfl⟩ := List.mem_map.mp hp1
    exact ⟨_, _, rfl⟩
  · obtain ⟨t, ht, rfl⟩ := List.mem_map.mp hm
    have h1 := hd _ (hzip t ht).1
    have e : (F t.2).depth = (PyData.tuple [.int t.2.1, E t.2.2]).depth := rfl
    show (PyData.tuple [.int t.2.1, E t.2.2]).depth ≤ 8
    simp only [PyData.depth, PyData.depthAll]
    omega
  · -- the pairs behind the sorted ones
    have hmem : ∀ x ∈ qs, ∃ t ∈ vs.zip ps, x = (t.1, F t.2) := fun x hx => by
      obtain ⟨t, ht, e⟩ := List.mem_map.mp (pm.mem_iff.mp hx)
      exact ⟨t, ht, e.symm⟩
    have pm2 : ∃ ts : List (V × (Int × V)), ts.Perm (vs.zip ps) ∧ qs = ts.map fun t => (t.1, F t.2) := perm_map_back _ pm
    obtain ⟨ts, pts, rfl⟩ := pm2
    have pz : (ts.map (·.2)).Perm ps := by
      have := pts.map (·.2)
      rwa [List.map_snd_zip (by rw [hp.1]; exact Nat.le_refl _)] at this
    have so2 : (ts.map (·.2)).Pairwise (fun x y => x.1 ≤ y.1) := by
      rw [List.pairwise_map] at so ⊢
      exact so.imp fun {x y} h => le_of_pair (x := (x.1, F x.2)) (y := (y.1, F y.2)) rfl rfl h
    have hu : Prs H (ts.map (·.1)) (ts.map (·.2)) := ⟨by rw [List.length_map, List.length_map], fun j p hj => by
      rw [List.getElem?_map] at hj
      obtain ⟨t, ht, rfl⟩ := Option.map_eq_some_iff.mp hj
      obtain ⟨_, b2, h2, h3⟩ := hzip t (pts.mem_iff.mp (List.mem_of_getElem? ht))
      exact ⟨b2, by rw [List.getElem?_map, ht]; show some t.1 = _; rw [h2], h3⟩⟩
    have e : (ts.map fun t => (t.1, F t.2)).map (·.1) = ts.map (·.1) := by rw [List.map_map] <;> rfl
    rw [e]
    exact q _ _ b pz so2 hu hb
end Ea
set_option Elab.async false
set_option linter.all false
set_option maxRecDepth 100000
set_option maxHeartbeats 400000
/-! Fors over enumerate and zip of lists with a pair within the pair; three names set at once. -/
namespace Ea
open PySem PySem.Spec PyProof PyProof.Rows L2
theorem pi_zipK {X : Cx} {K : PySem.W.Frag} (hKK : X.K = K) {e e2 : Expr} {ta : TA} {p pos tpos : Pos} {elts : List Expr} {kk : Nat} (hg : L2.Gl X "zip") (hm : X.mg "zip" = none) (ha : PA X [e, e2] ta)
    (hs : starEach [e, e2] X.env = (false, eval e X.env) :: starEach [e2] X.env := by rfl) (hpl : (backTo pos (starEach [e2] X.env)).any (·.1) = false := by rfl) :
    PI X (.Tuple elts kk tpos) (.Call (.Name "zip" p) [e, e2] [] pos) (iZip K ta) := hKK ▸ pi_zip hg hm ha hs hpl
theorem rd_iZipL {K : PySem.W.Frag} {ta : TA} {R : It → Hp → Prop} {σ : L2.St} {H : Hp} (h : ta σ H fun vs H1 => ∃ a b xs ys, vs = [.ref a, .ref b] ∧ SqL K H1 a xs ∧ SqL K H1 b ys ∧ R (Itz K a b) H1) : iZip K ta σ H R := h
section
variable {K : PySem.W.Frag} {σ : L2.St} {H : Hp} {tb : TS} {D : Ends} {j k : Nat} {g : TG}
/-- for i, (..) in enumerate(xs) -/
theorem fr_enumLN {a : Addr} {xs : List V} (hk : k = 2) (Pv : Nat → L2.St → Hp → Prop) (h0 : Pv 0 σ H) (hl : ∀ i σ H, Pv i σ H → SqL K H a xs)
    (hs : ∀ i σ H1 T, i < xs.length → Pv i σ H1 → H1 T = none → g (xs.getD i .non) (σ.set j (some (.int (i : Nat)))) (upd H1 T (.tup [.int (i : Nat), xs.getD i .non])) fun σ' H' => gNil [] σ' H' (tb { D with nx := Pv (i + 1), ct := Pv (i + 1), bk := D.nx }))
    (hd : ∀ σ H, Pv xs.length σ H → D.nx σ H) : ForR (gTup K k (gCons (gName j) (gCons g gNil))) tb D σ (Ite K a) H := by
  refine ⟨fun i m σ' H' => i + m = xs.length ∧ Pv i σ' H', ⟨xs.length, by omega, h0⟩, fun i m σ' H' hW => ?_⟩
  obtain ⟨em, hp⟩ := hW
  by_cases hi : i < xs.length
  · refine .inr ⟨⟨xs, xs[i], hl i σ' H' hp, List.getElem?_eq_getElem hi⟩, Pv (i + 1), fun σ2 H2 h2 => ⟨m - 1, by omega, by omega, h2⟩, fun x H2 hy => ?_⟩
    obtain ⟨T, y, rfl, hT, rfl, h⟩ := hy
    have h := h xs (hl i σ' H' hp)
    have ey : xs.getD i .non = y := by rw [List.getD_eq_getElem?_getD, h] <;> rfl
    have q := hs i σ' H' T hi hp hT
    rw [ey] at q
    exact ⟨T, _, rfl, SqT.of upd_same, hk.symm, _, _, rfl, _, _, rfl, q⟩
  · have hin : i = xs.length := by omega
    subst hin
    exact .inl ⟨⟨xs, hl _ σ' H' hp, Nat.le_refl _⟩, hd σ' H' hp⟩
/-- for (..), y in zip(xs, ys) -/
theorem fr_zipLN {a b : Addr} {xs ys : List V} (hk : k = 2) (he : xs.length = ys.length) (Pv : Nat → L2.St → Hp → Prop) (h0 : Pv 0 σ H) (hl : ∀ i σ H, Pv i σ H → SqL K H a xs ∧ SqL K H b ys)
    (hs : ∀ i σ H1 T, i < xs.length → Pv i σ H1 → H1 T = none → g (xs.getD i .non) σ (upd H1 T (.tup [xs.getD i .non, ys.getD i .non])) fun σ' H' => gCons (gName j) gNil [ys.getD i .non] σ' H' (tb { D with nx := Pv (i + 1), ct := Pv (i + 1), bk := D.nx }))
    (hd : ∀ σ H, Pv xs.length σ H → D.nx σ H) : ForR (gTup K k (gCons g (gCons (gName j) gNil))) tb D σ (Itz K a b) H := by
  refine ⟨fun i m σ' H' => i + m = xs.length ∧ Pv i σ' H', ⟨xs.length, by omega, h0⟩, fun i m σ' H' hW => ?_⟩
  obtain ⟨em, hp⟩ := hW
  by_cases hi : i < xs.length
  · refine .inr ⟨⟨xs, ys, xs[i], ys[i]'(by omega), (hl i σ' H' hp).1, (hl i σ' H' hp).2, List.getElem?_eq_getElem hi, List.getElem?_eq_getElem (by omega)⟩, Pv (i + 1), fun σ2 H2 h2 => ⟨m - 1, by omega, by omega, h2⟩, fun x H2 hy => ?_⟩
    obtain ⟨T, x, y, rfl, hT, rfl, hx, hy⟩ := hy
    have hx := hx xs (hl i σ' H' hp).1
    have hy := hy ys (hl i σ' H' hp).2
    have ex : xs.getD i .non = x := by rw [List.getD_eq_getElem?_getD, hx] <;> rfl
    have ey : ys.getD i .non = y := by rw [List.getD_eq_getElem?_getD, hy] <;> rfl
    have q := hs i σ' H' T hi hp hT
    rw [ex, ey] at q
    exact ⟨T, _, rfl, SqT.of upd_same, hk.symm, _, _, rfl, q⟩
  · have hin : i = xs.length := by omega
    subst hin
    exact .inl ⟨⟨xs, ys, (hl _ σ' H' hp).1, (hl _ σ' H' hp).2, .inl (Nat.le_refl _)⟩, hd σ' H' hp⟩
end
end Ea
set_option Elab.async false
set_option linter.all false
set_option maxRecDepth 100000
set_option maxHeartbeats 400000
set_option pp.maxSteps 300
namespace KA
open PySem PySem.Spec PyProof.Rows L2 Ea
abbrev slowered_sizes : Stmt := topS 16
theorem sclowered_sizes : FnScope ["formula", "found", "both", "part", "side", "sizes"] ["formula"] (defScope slowered_sizes) :=
  ⟨rfl, rfl, rfl, by decide +kernel, rfl, by decide +kernel, by decide +kernel⟩
theorem rd_ifI {tt : TT} {ts tz : TS} {D : Ends} {σ : L2.St} {H : Hp} (I : L2.St → Hp → Prop) (h1 : ∀ N : L2.St → Hp → Prop, (∀ σ' H', I σ' H' → N σ' H') → tIfS tt ts tz { D with nx := N } σ H) (h : ∀ σ' H', I σ' H' → D.nx σ' H') : tIfS tt ts tz D σ H := h1 D.nx h
/-- a comprehension of two clauses, behind its first row -/
def Lc2R (g : TG) (tt : TT) (wi1 : TI) (g1 : TG) (tt1 : TT) (te : TE) (vs vs1 : List Nat) (σ : L2.St) (Q : VK) (J : It) (H1 : Hp) : Prop := ∀ D, H1 D = none → ∃ W : Nat → Nat → Hp → Prop, (∃ m, W 0 m (upd H1 D (.lst []))) ∧ ∀ i m H, W i m H →
  (J.stop i H ∧ Q (.ref D) H) ∨ (J.go i H ∧ ∃ Nx : Hp → Prop, (∀ H', Nx H' → ∃ m', m' < m ∧ W (i + 1) m' H') ∧ ∀ x H', J.yld i H x H' → g x (wipe σ vs) H' fun σ2 H2 => wipe σ2 vs = wipe σ vs ∧ tt σ2 H2 fun b H3 =>
    if b = true then wi1 σ2 H3 fun J1 H4 => ∃ W1 : Nat → Nat → Hp → Prop, (∃ m, W1 0 m H4) ∧ ∀ j k H, W1 j k H →
      (J1.stop j H ∧ Nx H) ∨ (J1.go j H ∧ ∃ Nx1 : Hp → Prop, (∀ H', Nx1 H' → ∃ k', k' < k ∧ W1 (j + 1) k' H') ∧ ∀ x H', J1.yld j H x H' → g1 x (wipe σ2 vs1) H' fun σ3 H5 => wipe σ3 vs1 = wipe σ2 vs1 ∧ tt1 σ3 H5 fun b H6 =>
        if b = true then te σ3 H6 fun y H7 => ∃ acc, H7 D = some (.lst acc) ∧ acc.length < sizeLine ∧ Nx1 (upd H7 D (.lst (acc ++ [y]))) else Nx1 H6)
    else Nx H3)
theorem rd_lc2 {wi : TI} {g : TG} {tt : TT} {wi1 : TI} {g1 : TG} {tt1 : TT} {te : TE} {vs vs1 : List Nat} {σ : L2.St} {H : Hp} {Q : VK} (h : wi σ H (Lc2R g tt wi1 g1 tt1 te vs vs1 σ Q)) : tLc2 wi g tt wi1 g1 tt1 te vs vs1 σ H Q := h
local macro_rules | `(tactic| walk_at "rd") => `(tactic| first
  | (with_reducible refine rd_seq ?_) | (with_reducible refine rd_asg ?_) | (with_reducible refine rd_if ?_) | (with_reducible refine rd_ret ?_) | (with_reducible refine rd_next ?_)
  | (with_reducible refine rd_drop ?_) | ((with_reducible refine rd_name (σ' := ?ss) ?hs ?_); (case hs => (dsimp only [List.set]; exact rfl)))
  | ((with_reducible refine rd_var (v := ?vv) ?hv ?_); (case hv => exact rfl)) | (with_reducible refine rd_c ?_) | (with_reducible refine rd_op ?_) | (with_reducible refine rd_un ?_)
  | (with_reducible refine rd_I0 ?_) | (with_reducible refine rd_U ?_) | (with_reducible refine rd_test ?_) | (with_reducible refine rd_B ?_) | (with_reducible refine rd_k ?_)
  | (with_reducible refine rd_not ?_) | (with_reducible refine rd_and ?_) | (with_reducible refine rd_or ?_) | (with_reducible refine rd_ifE ?_)
  | (with_reducible refine rd_par ?_) | ((with_reducible refine rd_par2 (σ' := ?ss) ?hs ?_); (case hs => (dsimp only [List.set]; exact rfl)))
  | (with_reducible refine rd_gsub ?_) | (with_reducible refine rd_andV ?_) | (with_reducible refine rd_orV ?_) | (with_reducible refine rd_notV ?_)
  | (with_reducible refine rd_lc ?_) | (with_reducible refine rd_iTup ?_) | (with_reducible refine rd_iList ?_) | (with_reducible refine rd_iRng1 ?_) | (with_reducible refine rd_iRng2 ?_) | (with_reducible refine rd_iEnumT ?_) | (with_reducible refine rd_iEnum ?_) | (with_reducible refine rd_iZipM ?_) | (with_reducible refine rd_iEnumS ?_) | (with_reducible refine rd_iKeys ?_) | (with_reducible refine rd_din ?_) | (with_reducible refine rd_dnotin ?_)
  | (with_reducible refine rd_yes ?_) | (with_reducible refine rd_true ?_) | (with_reducible refine rd_false ?_) | (with_reducible refine rd_m1 ?_) | (with_reducible refine rd_isS ?_)
  | ((with_reducible refine rd_eq ?hs ?_); (case hs => exact rfl)) | ((with_reducible refine rd_ne ?hs ?_); (case hs => exact rfl))
  | (with_reducible refine rd_listRg ?_) | (with_reducible refine rd_rg2 ?_) | (with_reducible refine rd_rgk ?_)
  | (with_reducible refine rd_dnew ?_) | (with_reducible refine rd_ddel ?_) | (with_reducible refine rd_kw ?_) | (with_reducible refine rd_callS ?_) | (with_reducible refine rd_dc ?_) | (with_reducible refine rd_for ?_) | (with_reducible refine rd_tru ?_) | (with_reducible refine rd_truI ?_)
  | (with_reducible refine rd_nil ?_) | (with_reducible refine rd_cons ?_) | (with_reducible refine rd_call ?_) | (with_reducible refine rd_cb ?_)
  | (with_reducible refine rd_tup ?_) | (with_reducible refine rd_lst ?_) | (with_reducible refine rd_dget ?_) | (with_reducible refine rd_dput ?_) | (with_reducible refine rd_dget2 ?_) | (with_reducible refine rd_sl ?_)
  | (with_reducible refine rd_nopart ?_) | (with_reducible refine rd_part ?_) | (with_reducible refine rd_parti ?_) | (with_reducible refine rd_bm ?_) | (with_reducible refine rd_bm0 ?_)
  | (with_reducible refine rd_int ?_) | (with_reducible refine rd_intb ?_) | (with_reducible refine rd_abs ?_) | (with_reducible refine rd_min2 ?_) | (with_reducible refine rd_max2 ?_))
local macro_rules | `(tactic| walk_at "rds") => `(tactic| repeat (walk_at "rd"))
local macro_rules | `(tactic| walk_at "rq") => `(tactic| first
  | (with_reducible refine rd_seq ?_) | (with_reducible refine rd_asg ?_) | (with_reducible refine rd_ret ?_) | (with_reducible refine rd_next ?_)
  | (with_reducible refine rd_drop ?_) | ((with_reducible refine rd_name (σ' := ?ss) ?hs ?_); (case hs => (dsimp only [List.set]; exact rfl)))
  | ((with_reducible refine rd_var (v := ?vv) ?hv ?_); (case hv => exact rfl)) | (with_reducible refine rd_c ?_) | (with_reducible refine rd_op ?_) | (with_reducible refine rd_un ?_)
  | (with_reducible refine rd_I0 ?_) | (with_reducible refine rd_U ?_) | (with_reducible refine rd_test ?_) | (with_reducible refine rd_B ?_) | (with_reducible refine rd_k ?_)
  | (with_reducible refine rd_not ?_) | (with_reducible refine rd_and ?_) | (with_reducible refine rd_or ?_) | (with_reducible refine rd_ifE ?_)
  | (with_reducible refine rd_par ?_) | ((with_reducible refine rd_par2 (σ' := ?ss) ?hs ?_); (case hs => (dsimp only [List.set]; exact rfl)))
  | (with_reducible refine rd_gsub ?_) | (with_reducible refine rd_andV ?_) | (with_reducible refine rd_orV ?_) | (with_reducible refine rd_notV ?_)
  | (with_reducible refine rd_lc ?_) | (with_reducible refine rd_iTup ?_) | (with_reducible refine rd_iList ?_) | (with_reducible refine rd_iRng1 ?_) | (with_reducible refine rd_iRng2 ?_) | (with_reducible refine rd_iEnumT ?_) | (with_reducible refine rd_iEnum ?_) | (with_reducible refine rd_iZipM ?_) | (with_reducible refine rd_iEnumS ?_) | (with_reducible refine rd_iKeys ?_) | (with_reducible refine rd_din ?_) | (with_reducible refine rd_dnotin ?_)
  | (with_reducible refine rd_yes ?_) | (with_reducible refine rd_true ?_) | (with_reducible refine rd_false ?_) | (with_reducible refine rd_m1 ?_) | (with_reducible refine rd_isS ?_)
  | ((with_reducible refine rd_eq ?hs ?_); (case hs => exact rfl)) | ((with_reducible refine rd_ne ?hs ?_); (case hs => exact rfl))
  | (with_reducible refine rd_listRg ?_) | (with_reducible refine rd_rg2 ?_) | (with_reducible refine rd_rgk ?_)
  | (with_reducible refine rd_dnew ?_) | (with_reducible refine rd_ddel ?_) | (with_reducible refine rd_kw ?_) | (with_reducible refine rd_callS ?_) | (with_reducible refine rd_dc ?_) | (with_reducible refine rd_for ?_) | (with_reducible refine rd_tru ?_) | (with_reducible refine rd_truI ?_)
  | (with_reducible refine rd_nil ?_) | (with_reducible refine rd_cons ?_) | (with_reducible refine rd_call ?_) | (with_reducible refine rd_cb ?_)
  | (with_reducible refine rd_tup ?_) | (with_reducible refine rd_lst ?_) | (with_reducible refine rd_dget ?_) | (with_reducible refine rd_dput ?_) | (with_reducible refine rd_dget2 ?_) | (with_reducible refine rd_sl ?_)
  | (with_reducible refine rd_nopart ?_) | (with_reducible refine rd_part ?_) | (with_reducible refine rd_parti ?_) | (with_reducible refine rd_bm ?_) | (with_reducible refine rd_bm0 ?_)
  | (with_reducible refine rd_int ?_) | (with_reducible refine rd_intb ?_) | (with_reducible refine rd_abs ?_) | (with_reducible refine rd_min2 ?_) | (with_reducible refine rd_max2 ?_))
local macro_rules | `(tactic| walk_at "rqs") => `(tactic| repeat (walk_at "rq"))
local macro_rules | `(tactic| walk_at "rv") => `(tactic| first
  | (with_reducible refine rd_seq ?_) | (with_reducible refine rd_asg ?_) | (with_reducible refine rd_ret ?_) | (with_reducible refine rd_next ?_)
  | (with_reducible refine rd_drop ?_) | ((with_reducible refine rd_name (σ' := ?ss) ?hs ?_); (case hs => (dsimp only [List.set]; exact rfl)))
  | ((with_reducible refine rd_var (v := ?vv) ?hv ?_); (case hv => exact rfl)) | (with_reducible refine rd_c ?_) | (with_reducible refine rd_op ?_) | (with_reducible refine rd_un ?_)
  | (with_reducible refine rd_I0 ?_) | (with_reducible refine rd_U ?_) | (with_reducible refine rd_test ?_) | (with_reducible refine rd_B ?_) | (with_reducible refine rd_k ?_)
  | (with_reducible refine rd_not ?_) | (with_reducible refine rd_and ?_) | (with_reducible refine rd_or ?_)
  | (with_reducible refine rd_par ?_) | ((with_reducible refine rd_par2 (σ' := ?ss) ?hs ?_); (case hs => (dsimp only [List.set]; exact rfl)))
  | (with_reducible refine rd_gsub ?_) | (with_reducible refine rd_andV ?_) | (with_reducible refine rd_orV ?_) | (with_reducible refine rd_notV ?_)
  | (with_reducible refine rd_lc ?_) | (with_reducible refine rd_iTup ?_) | (with_reducible refine rd_iList ?_) | (with_reducible refine rd_iRng1 ?_) | (with_reducible refine rd_iRng2 ?_) | (with_reducible refine rd_iEnumT ?_) | (with_reducible refine rd_iEnum ?_) | (with_reducible refine rd_iZipM ?_) | (with_reducible refine rd_iEnumS ?_) | (with_reducible refine rd_iKeys ?_) | (with_reducible refine rd_din ?_) | (with_reducible refine rd_dnotin ?_)
  | (with_reducible refine rd_yes ?_) | (with_reducible refine rd_true ?_) | (with_reducible refine rd_false ?_) | (with_reducible refine rd_m1 ?_) | (with_reducible refine rd_isS ?_)
  | ((with_reducible refine rd_eq ?hs ?_); (case hs => exact rfl)) | ((with_reducible refine rd_ne ?hs ?_); (case hs => exact rfl))
  | (with_reducible refine rd_listRg ?_) | (with_reducible refine rd_rg2 ?_) | (with_reducible refine rd_rgk ?_)
  | (with_reducible refine rd_dnew ?_) | (with_reducible refine rd_ddel ?_) | (with_reducible refine rd_kw ?_) | (with_reducible refine rd_callS ?_) | (with_reducible refine rd_dc ?_) | (with_reducible refine rd_for ?_) | (with_reducible refine rd_tru ?_) | (with_reducible refine rd_truI ?_)
  | (with_reducible refine rd_nil ?_) | (with_reducible refine rd_cons ?_) | (with_reducible refine rd_call ?_) | (with_reducible refine rd_cb ?_)
  | (with_reducible refine rd_tup ?_) | (with_reducible refine rd_lst ?_) | (with_reducible refine rd_dget ?_) | (with_reducible refine rd_dput ?_) | (with_reducible refine rd_dget2 ?_) | (with_reducible refine rd_sl ?_)
  | (with_reducible refine rd_nopart ?_) | (with_reducible refine rd_part ?_) | (with_reducible refine rd_parti ?_) | (with_reducible refine rd_bm ?_) | (with_reducible refine rd_bm0 ?_)
  | (with_reducible refine rd_int ?_) | (with_reducible refine rd_intb ?_) | (with_reducible refine rd_abs ?_) | (with_reducible refine rd_min2 ?_) | (with_reducible refine rd_max2 ?_))
local macro_rules | `(tactic| walk_at "rvs") => `(tactic| repeat (walk_at "rv"))

theorem rd_disp2 {t1 t2 t3 t4 : TE} {σ : L2.St} {H : Hp} {Q : VK} (h : ∀ p, H p = none → t1 σ (upd H p (.dK [])) fun x1 H1 => t2 σ H1 fun y1 H2 => t3 σ H2 fun x2 H3 => t4 σ H3 fun y2 H4 =>
    H4 p = some (.dK []) ∧ ∃ kvs : List (Key × V), [(x1, y1), (x2, y2)] = kvs.map (fun kv => (kV kv.1, kv.2)) ∧ kvs.length ≤ 15 ∧ Q (.ref p) (upd H4 p (.dK (mergeK [] kvs)))) : tDisp [(t1, t2), (t3, t4)] σ H Q := h
/-- over a list, and within over a tuple of two that is made anew each time -/
theorem lc2_two {K : PySem.W.Frag} {wi1 : TI} {te : TE} {j j1 : Nat} {vs vs1 : List Nat} {σ : L2.St} {H : Hp} {Q : VK} {a : Addr} {xs : List V} {y0 y1 : V} {σx : V → L2.St} {σy : V → V → L2.St} (G : Nat → Nat → V)
    (hx : SqL K H a xs) (hz : xs.length ≤ 20000) (hσ : ∀ x, (wipe σ vs).set j (some x) = σx x) (hw : ∀ x, wipe (σx x) vs = wipe σ vs) (hσ1 : ∀ x y, (wipe (σx x) vs1).set j1 (some y) = σy x y) (hw1 : ∀ x y, wipe (σy x y) vs1 = wipe (σx x) vs1)
    (hin : ∀ x H' (R : It → Hp → Prop), (∀ t, H' t = none → R (Itt K t) (upd H' t (.tup [y0, y1]))) → wi1 (σx x) H' R)
    (hs0 : ∀ i x, xs[i]? = some x → ∀ (H' : Hp) (N : VK), Evl.Ex H H' → (∀ H3, Evl.Ex H' H3 → N (G i 0) H3) → te (σy x y0) H' N)
    (hs1 : ∀ i x, xs[i]? = some x → ∀ (H' : Hp) (N : VK), Evl.Ex H H' → (∀ H3, Evl.Ex H' H3 → N (G i 1) H3) → te (σy x y1) H' N)
    (hd : ∀ D H', Evl.Ex H H' → H D = none → H' D = some (.lst ((List.range xs.length).flatMap fun i => [G i 0, G i 1])) → Q (.ref D) H') :
    Lc2R (gName j) tYes wi1 (gName j1) tYes te vs vs1 σ Q (Itl K a) H := fun D hn => by
  have res_succ : ∀ i, ((List.range (i + 1)).flatMap fun i => [G i 0, G i 1]) = ((List.range i).flatMap fun i => [G i 0, G i 1]) ++ [G i 0, G i 1] := fun i => by
    rw [List.range_succ, List.flatMap_append] <;> simp
  have res_len : ∀ i, ((List.range i).flatMap fun i => [G i 0, G i 1]).length = 2 * i := fun i => by
    induction i with
    | zero => rfl
    | succ i ih => rw [res_succ, List.length_append, ih]; show 2 * i + 2 = _; omega
  refine ⟨fun i m H' => m = xs.length - i ∧ i ≤ xs.length ∧ Evl.Ex H H' ∧ H' D = some (.lst ((List.range i).flatMap fun i => [G i 0, G i 1])), ⟨xs.length, by simp, Nat.zero_le _, Evl.Ex.new hn, upd_same⟩, ?_⟩
  rintro i m H1 ⟨rfl, hi, e1, hD1⟩
  by_cases hlt : i < xs.length
  · refine .inr ⟨⟨xs, xs[i], Evl.ex_l e1 hx, by simp [hlt]⟩, fun H' => i + 1 ≤ xs.length ∧ Evl.Ex H H' ∧ H' D = some (.lst ((List.range (i + 1)).flatMap fun i => [G i 0, G i 1])), fun H' p' => ⟨xs.length - (i + 1), by omega, rfl, p'.1, p'.2⟩, fun x H' y => ?_⟩
    obtain ⟨rfl, y⟩ := y
    have hxi := y xs (Evl.ex_l e1 hx)
    rw [show gName j x (wipe σ vs) H' = fun N => N (σx x) H' from funext fun N => by rw [← hσ x] <;> rfl]
    refine ⟨hw x, ?_⟩
    refine rd_yes ?_
    rw [if_pos rfl]
    refine hin x H' _ fun t ht => ?_
    have et := Evl.Ex.new (o := .tup [y0, y1]) ht
    have tD : t ≠ D := fun z => by rw [z, hD1] at ht; cases ht
    refine ⟨fun j' k H2 => k = 2 - j' ∧ j' ≤ 2 ∧ Evl.Ex H H2 ∧ SqT K H2 t [y0, y1] ∧ H2 D = some (.lst (((List.range i).flatMap fun i => [G i 0, G i 1]) ++ [G i 0, G i 1].take j')), ⟨2, rfl, by decide, e1.trans et, SqT.of upd_same, by rw [List.take_zero, List.append_nil]; exact et _ _ hD1⟩, ?_⟩
    rintro j' k H2 ⟨rfl, hj, e2, st, hD2⟩
    have hl2 : (((List.range i).flatMap fun i => [G i 0, G i 1]) ++ [G i 0, G i 1].take j').length < 100000 := by
      rw [List.length_append, res_len, List.length_take]
      show 2 * i + min j' 2 < _
      omega
    by_cases h2 : j' < 2
    · refine .inr ⟨⟨[y0, y1], [y0, y1][j']'h2, st, by simp [h2]⟩, fun H3 => j' + 1 ≤ 2 ∧ Evl.Ex H H3 ∧ SqT K H3 t [y0, y1] ∧ H3 D = some (.lst (((List.range i).flatMap fun i => [G i 0, G i 1]) ++ [G i 0, G i 1].take (j' + 1))), fun H3 p' => ⟨2 - (j' + 1), by omega, rfl, p'.1, p'.2⟩, fun y H3 z => ?_⟩
      obtain ⟨rfl, z⟩ := z
      have hy := z _ st
      rw [show gName j1 y (wipe (σx x) vs1) H3 = fun N => N (σy x y) H3 from funext fun N => by rw [← hσ1 x y] <;> rfl]
      refine ⟨hw1 x y, ?_⟩
      refine rd_yes ?_
      rw [if_pos rfl]
      have fin : ∀ v, [G i 0, G i 1].take (j' + 1) = [G i 0, G i 1].take j' ++ [v] → ∀ H4, Evl.Ex H3 H4 → ∃ acc, H4 D = some (.lst acc) ∧ acc.length < sizeLine ∧ (j' + 1 ≤ 2 ∧ Evl.Ex H (upd H4 D (.lst (acc ++ [v]))) ∧ SqT K (upd H4 D (.lst (acc ++ [v]))) t [y0, y1] ∧ (upd H4 D (.lst (acc ++ [v]))) D = some (.lst (((List.range i).flatMap fun i => [G i 0, G i 1]) ++ [G i 0, G i 1].take (j' + 1)))) := fun v hv H4 e4 => by
        refine ⟨_, e4 _ _ hD2, Evl.sz_lt hl2, h2, Evl.Ex.mut (e2.trans e4) hn, tup_upd (e4 _ _ hD2) lst_not (Evl.ex_t e4 st), ?_⟩
        rw [upd_same, hv, List.append_assoc]
      match j', h2, hy with
      | 0, _, hy =>
        obtain rfl : y0 = y := Option.some.inj hy
        exact hs0 i x hxi H3 _ e2 (fin _ rfl)
      | 1, _, hy =>
        obtain rfl : y1 = y := Option.some.inj hy
        exact hs1 i x hxi H3 _ e2 (fin _ rfl)
    · have hj2 : j' = 2 := by omega
      subst hj2
      refine .inl ⟨⟨_, st, Nat.le_refl _⟩, hlt, e2, ?_⟩
      rw [res_succ]
      exact hD2
  · have : i = xs.length := by omega
    subst this
    exact .inl ⟨⟨xs, Evl.ex_l e1 hx, Nat.le_refl _⟩, hd D _ e1 hn hD1⟩
/-- sizes as values -/
def Pz (K : PySem.W.Frag) (H : Hp) (vs : List V) (ps : List (Nat × Nat)) : Prop := vs.length = ps.length ∧ ∀ (j : Nat) (p : Nat × Nat), ps[j]? = some p → ∃ b : Addr, vs[j]? = some (.ref b) ∧ SqT K H b [.int (p.1 : Int), .int (p.2 : Int)]
theorem Pz.ex {K : PySem.W.Frag} {H H' : Hp} {vs : List V} {ps : List (Nat × Nat)} (e : Evl.Ex H H') (h : Pz K H vs ps) : Pz K H' vs ps := ⟨h.1, fun j p hj => by
  obtain ⟨b, h3, h4⟩ := h.2 j p hj
  exact ⟨b, h3, Evl.ex_t e h4⟩⟩
theorem dk_not {kvs : List (Key × V)} (zs : List V) : HO.dK kvs ≠ .tup zs ∧ ∀ f, HO.dK kvs ≠ .frz f (.tup zs) := ⟨fun h => HO.noConfusion h, fun f h => HO.noConfusion h⟩
def mx : List (Nat × Nat) → Nat
  | [] => 0
  | p :: t => max p.2 (mx t)
theorem mx_ge {ps : List (Nat × Nat)} {p : Nat × Nat} (h : p ∈ ps) : p.2 ≤ mx ps := by
  induction ps with
  | nil => cases h
  | cons a t ih =>
    rw [mx]
    rcases List.mem_cons.mp h with rfl | h
    · omega
    · have := ih h
      omega
theorem mx_at (ps : List (Nat × Nat)) : mx ps = 0 ∨ ∃ p ∈ ps, mx ps = p.2 := by
  induction ps with
  | nil => exact .inl rfl
  | cons a t ih =>
    rw [mx]
    rcases ih with e | ⟨p, hp, e⟩
    · exact .inr ⟨a, List.mem_cons_self, by omega⟩
    · by_cases c : a.2 ≤ mx t
      · exact .inr ⟨p, List.mem_cons_of_mem _ hp, by omega⟩
      · exact .inr ⟨a, List.mem_cons_self, by omega⟩
theorem sum_cast (ps : List (Nat × Nat)) : (ps.map fun p => (p.1 : Int)).sum = (((ps.map fun p => p.1).sum : Nat) : Int) := by
  induction ps with
  | nil => rfl
  | cons a t ih => rw [List.map_cons, List.sum_cons, List.map_cons, List.sum_cons, ih, Int.natCast_add]
section
variable {P : Program} {w : World} {K : PySem.W.Frag} {mg : Str → Option Value} {base : Heap}
def spJoined (K : PySem.W.Frag) : Sp := fun vs H Q _ => ∃ (S : Addr) (us : List V) (ps : List (Nat × Nat)) (n e : Nat), vs = [.ref S, .int (n : Int), .int (e : Int)] ∧ SqL K H S us ∧ Pz K H us ps ∧ us.length ≤ 20000 ∧
  ∀ (q : Addr) (H' : Hp), Evl.Ex H H' → SqT K H' q [.int ((n + (ps.map fun p => p.1).sum : Nat) : Int), .int ((e + mx ps : Nat) : Int)] → Q (.ref q) H'
theorem ok_joined {f : Addr} {fd : FuncData} (F : Fun K "joined_size" "joined_size" sjoined_size f fd) (T : Bl mg) : FnOk P w K mg base CX0 1 f fd ["sizes", "nodes", "deep"] (spJoined K) := by
  refine F.ok scjoined_size (fun vs H Q E h => ?_) (fun cdv A outer s H vs Q E hr h => ?_)
  · obtain ⟨S, us, ps, n, e, rfl, _⟩ := h
    rfl
  · obtain ⟨S, us, ps, n, e, rfl, hS, hp, hz, q⟩ := h
    refine ⟨_, (pss_one (ps_ret (pe_tup (pa_cons (pe_op op_add (pv 1) (pe_callB (c_sum (K := K) rfl rfl) (by rfl) T.sum (by decide +kernel) (pa_cons (pe_lc (own := [("size", 3)]) (g := gName 3) rfl scjoined_size.nd (ik_listI (K := K) rfl (pv 0)) (blkOk_by (own := [("size", 3)]) (N := ["sizes", "nodes", "deep", "size"]) (sc := defScope sjoined_size) (by decide +kernel)) (fun _ _ _ _ _ => (pg_name (i := 3) scjoined_size.nd rfl (Or.inl rfl))) (fun _ _ _ _ _ => pts_nil) (fun _ _ _ _ _ => (pe_ix (ik_tup (K := K) rfl) (pv 3) pe_int (fun _ _ => rfl)))) pa_nil))) (pa_cons (pe_op op_add (pv 2) (pe_callB (c_max (K := K) rfl rfl) (by rfl) T.max (by decide +kernel) (pa_cons (pe_op op_cat (pe_lst (pa_cons pe_int pa_nil)) (pe_lc (own := [("size", 3)]) (g := gName 3) rfl scjoined_size.nd (ik_listI (K := K) rfl (pv 0)) (blkOk_by (own := [("size", 3)]) (N := ["sizes", "nodes", "deep", "size"]) (sc := defScope sjoined_size) (by decide +kernel)) (fun _ _ _ _ _ => (pg_name (i := 3) scjoined_size.nd rfl (Or.inl rfl))) (fun _ _ _ _ _ => pts_nil) (fun _ _ _ _ _ => (pe_ix (ik_tup (K := K) rfl) (pv 3) pe_int (fun _ _ => rfl))))) pa_nil))) pa_nil))))), ?_⟩
    refine rd_start (σ' := [some (.ref S), some (.int (n : Int)), some (.int (e : Int)), none]) rfl ?_
    walk_at "rds"
    refine rd_refL hS ?_
    refine lc_lsL (K := K) (xs := us) (fun D i acc H' => acc = (ps.take i).map fun p => V.int (p.1 : Int)) (fun i acc H1 D u e h => h) (σx := fun x => [some (.ref S), some (.int (n : Int)), some (.int (e : Int)), some x]) hS (by omega) (fun _ => rfl) (fun _ => rfl) (fun D H' _ => rfl) (fun i x hi D acc H' N ex hDa hP kN => ?_) fun D acc H1 e1 eD hD hacc => ?_
    · have hil := (List.getElem?_eq_some_iff.mp hi).1
      obtain ⟨p, hpi⟩ : ∃ p, ps[i]? = some p := ⟨_, List.getElem?_eq_getElem (by rw [← hp.1]; exact hil)⟩
      obtain ⟨b, h1, h2⟩ := hp.2 i p hpi
      rw [hi] at h1
      obtain rfl : x = .ref b := Option.some.inj h1
      walk_at "rds"
      refine rd_ixT (Evl.ex_t ex h2) rfl ?_
      refine kN _ _ (Evl.Ex.refl _) ?_
      rw [hP, List.take_add_one, hpi, List.map_append] <;> rfl
    rw [hp.1, List.take_length] at hacc
    walk_at "rds"
    refine ⟨D, ps.map fun p => (p.1 : Int), rfl, SqL.of (by rw [hD, hacc, List.map_map] <;> rfl), ?_⟩
    rw [sum_cast]
    walk_at "rds"
    refine ⟨(by show 1 ≤ sizeLine; decide), fun z0 hz0 => ?_⟩
    have e2 := e1.trans (Evl.Ex.new (o := .lst [V.int 0]) hz0)
    walk_at "rds"
    refine rd_refL (Evl.ex_l e2 hS) ?_
    refine lc_lsL (K := K) (xs := us) (fun D i acc H' => acc = (ps.take i).map fun p => V.int (p.2 : Int)) (fun i acc H1 D u e h => h) (σx := fun x => [some (.ref S), some (.int (n : Int)), some (.int (e : Int)), some x]) (Evl.ex_l e2 hS) (by omega) (fun _ => rfl) (fun _ => rfl) (fun D H' _ => rfl) (fun i x hi D acc H' N ex hDa hP kN => ?_) fun D2 acc2 H3 e3 eD2 hD2 hacc2 => ?_
    · have hil := (List.getElem?_eq_some_iff.mp hi).1
      obtain ⟨p, hpi⟩ : ∃ p, ps[i]? = some p := ⟨_, List.getElem?_eq_getElem (by rw [← hp.1]; exact hil)⟩
      obtain ⟨b, h1, h2⟩ := hp.2 i p hpi
      rw [hi] at h1
      obtain rfl : x = .ref b := Option.some.inj h1
      walk_at "rds"
      refine rd_ixT (Evl.ex_t (e2.trans ex) h2) rfl ?_
      refine kN _ _ (Evl.Ex.refl _) ?_
      rw [hP, List.take_add_one, hpi, List.map_append] <;> rfl
    rw [hp.1, List.take_length] at hacc2
    walk_at "rds"
    refine rd_catL (e3 _ _ upd_same) hD2 (by rw [hacc2, List.length_map, ← hp.1, sizeLine_eq]; show 1 + _ ≤ _; omega) fun C hC => ?_
    have e4 := (e2.trans e3).trans (Evl.Ex.new (o := .lst ([V.int 0] ++ acc2)) hC)
    walk_at "rds"
    refine ⟨C, 0 :: ps.map fun p => (p.2 : Int), rfl, SqL.of ?_, Nat.succ_pos _, fun m hm hall => ?_⟩
    · rw [upd_same, hacc2, List.map_cons, List.map_map] <;> rfl
    have em : m = ((mx ps : Nat) : Int) := by
      have h1 : m ≤ ((mx ps : Nat) : Int) := by
        rcases List.mem_cons.mp hm with rfl | hm
        · omega
        · obtain ⟨p, hp, rfl⟩ := List.mem_map.mp hm
          have := mx_ge hp
          omega
      have h2 : ((mx ps : Nat) : Int) ≤ m := by
        rcases mx_at ps with e | ⟨p, hp, e⟩
        · rw [e]
          exact hall 0 List.mem_cons_self
        · rw [e]
          exact hall _ (List.mem_cons_of_mem _ (List.mem_map.mpr ⟨p, hp, rfl⟩))
      omega
    rw [em]
    walk_at "rds"
    refine ⟨(by show 2 ≤ sizeLine; decide), fun o ho => ?_⟩
    exact q o _ (e4.trans (Evl.Ex.new (o := .tup [V.int ((n : Int) + ((ps.map fun p => p.1).sum : Nat)), .int ((e : Int) + (mx ps : Nat))]) ho)) (SqT.of upd_same)
/-- the sizes of a formula as a dict -/
def DSz (K : PySem.W.Frag) (H : Hp) (D : Addr) (f : Fm) : Prop := ∃ p q : Addr, H D = some (.dK [(.inr "yes", .ref p), (.inr "no", .ref q)]) ∧ SqT K H p [.int (nn true f : Int), .int (dd true f : Int)] ∧ SqT K H q [.int (nn false f : Int), .int (dd false f : Int)]
theorem DSz.ex {H H' : Hp} {D : Addr} {f : Fm} (e : Evl.Ex H H') (h : DSz K H D f) : DSz K H' D f := by
  obtain ⟨p, q, h1, h2, h3⟩ := h
  exact ⟨p, q, e _ _ h1, Evl.ex_t e h2, Evl.ex_t e h3⟩
theorem DSz.upd {H : Hp} {D L : Addr} {f : Fm} {ys u : List V} (hL : H L = some (.lst ys)) (h : DSz K H D f) : DSz K (upd H L (.lst u)) D f := by
  obtain ⟨p, q, h1, h2, h3⟩ := h
  exact ⟨p, q, by rw [upd_ne (fun z => by rw [z, hL] at h1; cases h1)]; exact h1, tup_upd hL lst_not h2, tup_upd hL lst_not h3⟩
def Szs (K : PySem.W.Frag) (H : Hp) (us : List V) (fs : List Fm) : Prop := us.length = fs.length ∧ ∀ (j : Nat) (g : Fm), fs[j]? = some g → ∃ D : Addr, us[j]? = some (.ref D) ∧ DSz K H D g
theorem Szs.ex {H H' : Hp} {us : List V} {fs : List Fm} (e : Evl.Ex H H') (h : Szs K H us fs) : Szs K H' us fs := ⟨h.1, fun j g hj => by
  obtain ⟨D, h1, h2⟩ := h.2 j g hj
  exact ⟨D, h1, h2.ex e⟩⟩
def spSizes (K : PySem.W.Frag) (m : Nat) : Sp := fun vs H Q _ => ∃ (v : V) (f : Fm), vs = [v] ∧ Dp K H v (dat f) ∧ dp f ≤ m ∧ nd f ≤ 1000 ∧ ∀ (D : Addr) (H' : Hp), Evl.Ex H H' → DSz K H' D f → Q (.ref D) H'
theorem sum_nn (s : Bool) (fs : List Fm) : ((fs.map fun g => (nn s g, dd s g)).map fun p => p.1).sum = nns s fs := by
  rw [nns_map, List.map_map] <;> rfl
theorem mx_dd (s : Bool) (fs : List Fm) : mx (fs.map fun g => (nn s g, dd s g)) = dds s fs := by
  induction fs with
  | nil => rfl
  | cons a t ih => rw [List.map_cons, mx, dds, ih]
theorem ok_sizes1 {f fP fJ : Addr} {fd fdP fdJ : FuncData} (F : Fun K "lowered_sizes" "lowered_sizes" slowered_sizes f fd) (T : Bl mg) {m k : Nat} (hk : 1 ≤ k)
    (Gparts_of : FnOk P w K mg base CX0 1 fP fdP ["formula"] (spPartsOf K)) (Cparts_of : Callee K mg "parts_of" fP fdP ["formula"])
    (Gjoined_size : FnOk P w K mg base CX0 1 fJ fdJ ["sizes", "nodes", "deep"] (spJoined K)) (Cjoined_size : Callee K mg "joined_size" fJ fdJ ["sizes", "nodes", "deep"])
    (Glowered_sizes : FnOk P w K mg base CX0 k f fd ["formula"] (spSizes K m)) (Clowered_sizes : Callee K mg "lowered_sizes" f fd ["formula"]) :
    FnOk P w K mg base CX0 (k + 1) f fd ["formula"] (spSizes K (m + 1)) := by
  refine F.ok sclowered_sizes (fun vs H Q E h => ?_) (fun cdv A outer s H vs Q E hr h => ?_)
  · obtain ⟨v, f, rfl, _⟩ := h
    rfl
  · obtain ⟨v, f, rfl, hv, hm, hn, q⟩ := h
    refine ⟨_, (pss_cons (ps_if (pt_cmpR op_eq (pe_ix (ik_tup (K := K) rfl) (pv 0) pe_int (fun _ _ => rfl)) pe_str (nomark _)) (pss_one (ps_ret (pe_disp (pps_cons pe_str (pe_tup (pa_cons pe_int (pa_cons pe_int pa_nil))) (pps_cons pe_str (pe_tup (pa_cons pe_int (pa_cons pe_int pa_nil))) pps_nil)) (by rfl) (by rfl) (fun z => by cases z) (by decide)))) pss_nil)
 (pss_cons (ps_set (i := 1) sclowered_sizes.nd rfl (Or.inr rfl) (pe_lc (own := [("part", 3)]) (g := gName 3) rfl sclowered_sizes.nd (ik_tupI (K := K) rfl (pe_call Gparts_of (hr.mono hk) (by rfl) Cparts_of.m Cparts_of.k Cparts_of.b .nil pass0 (pa_cons (pv 0) pa_nil))) (blkOk_by (own := [("part", 3)]) (N := ["formula", "found", "both", "part", "side", "sizes"]) (sc := defScope slowered_sizes) (by decide +kernel)) (fun _ _ _ _ _ => (pg_name (i := 3) sclowered_sizes.nd rfl (Or.inl rfl))) (fun _ _ _ _ _ => pts_nil) (fun _ _ _ _ _ => (pe_call Glowered_sizes hr (by rfl) Clowered_sizes.m Clowered_sizes.k Clowered_sizes.b .nil pass0 (pa_cons (pv 3) pa_nil)))))
 (pss_cons (ps_if (pt_cmpR op_eq (pe_ix (ik_tup (K := K) rfl) (pv 0) pe_int (fun _ _ => rfl)) pe_str (nomark _)) (pss_one (ps_ret (pe_disp (pps_cons pe_str (pe_dget (hu_of hr) (pe_ix (ik_list (K := K) rfl) (pv 1) pe_int (fun _ _ => rfl)) pe_str (fun _ _ => rfl)) (pps_cons pe_str (pe_dget (hu_of hr) (pe_ix (ik_list (K := K) rfl) (pv 1) pe_int (fun _ _ => rfl)) pe_str (fun _ _ => rfl)) pps_nil)) (by rfl) (by rfl) (fun z => by cases z) (by decide)))) pss_nil)
 (pss_cons (ps_if (pt_cmpR op_eq (pe_ix (ik_tup (K := K) rfl) (pv 0) pe_int (fun _ _ => rfl)) pe_str (nomark _)) (pss_cons (ps_set (i := 2) sclowered_sizes.nd rfl (Or.inl rfl) (pe_call Gjoined_size (hr.mono hk) (by rfl) Cjoined_size.m Cjoined_size.k Cjoined_size.b .nil pass0 (pa_cons (pe_lc2 (own := [("sizes", 5), ("side", 4)]) (vs1 := [4]) (g := gName 5) (g1 := gName 4) rfl sclowered_sizes.nd (ik_listI (K := K) rfl (pv 1)) (blkOk_by (own := [("sizes", 5), ("side", 4)]) (N := ["formula", "found", "both", "part", "side", "sizes"]) (sc := defScope slowered_sizes) (by decide +kernel)) (by decide) (fun _ _ _ _ _ => (pg_name (i := 5) sclowered_sizes.nd rfl (Or.inl rfl))) (fun _ _ _ _ _ => pts_nil) (fun _ _ _ _ _ => (ik_tupI (K := K) rfl (pe_tup (pa_cons pe_str (pa_cons pe_str pa_nil))))) (fun _ _ _ _ _ => (pg_name (i := 4) sclowered_sizes.nd rfl (Or.inl rfl))) (fun _ _ _ _ _ => pts_nil) (fun _ _ _ _ _ => (pe_dget (hu_of hr) (pv 5) (pv 4) (fun _ _ => rfl)))) (pa_cons pe_int (pa_cons pe_int pa_nil)))))
 (pss_one (ps_ret (pe_disp (pps_cons pe_str (pv 2) (pps_cons pe_str (pv 2) pps_nil)) (by rfl) (by rfl) (fun z => by cases z) (by decide))))) pss_nil)
 (pss_one (ps_ret (pe_dc (own := [("side", 4)]) (g := gName 4) rfl sclowered_sizes.nd (ik_tupI (K := K) rfl (pe_tup (pa_cons pe_str (pa_cons pe_str pa_nil)))) (blkOk_by (own := [("side", 4)]) (N := ["formula", "found", "both", "part", "side", "sizes"]) (sc := defScope slowered_sizes) (by decide +kernel)) (fun _ _ _ _ _ => (pg_name (i := 4) sclowered_sizes.nd rfl (Or.inr rfl))) (fun _ _ _ _ _ => pts_nil) (fun _ _ _ _ _ => (pv 4)) (fun _ _ _ _ _ => (pe_call Gjoined_size (hr.mono hk) (by rfl) Cjoined_size.m Cjoined_size.k Cjoined_size.b .nil pass0 (pa_cons (pe_lc (own := [("sizes", 5)]) (g := gName 5) rfl sclowered_sizes.nd (ik_listI (K := K) rfl (pv 1)) (blkOk_by (own := [("sizes", 5)]) (N := ["formula", "found", "both", "part", "side", "sizes"]) (sc := _) (by rfl)) (fun _ _ _ _ _ => (pg_name (i := 5) sclowered_sizes.nd rfl (Or.inl rfl))) (fun _ _ _ _ _ => pts_nil) (fun _ _ _ _ _ => (pe_dget (hu_of hr) (pv 5) (pv 4) (fun _ _ => rfl)))) (pa_cons pe_int (pa_cons pe_int pa_nil)))))))))))), ?_⟩
    refine rd_start (σ' := [some v, none, none, none, none, none]) rfl ?_
    have hsz : (kids f).length ≤ 20000 := by have := kids_len f; omega
    have hkn : ∀ g ∈ kids f, nd g ≤ 1000 := fun g hg => by have := kids_nd hg; omega
    have hkid : ∀ g ∈ kids f, dp g ≤ m := fun g hg => by
      cases f with
      | letter z => cases hg
      | no f =>
        rw [List.mem_singleton.mp hg]
        rw [dp] at hm
        omega
      | conn b fs =>
        have := dps_ge (show g ∈ fs from hg)
        rw [dp] at hm
        omega
      | same f g2 =>
        rw [dp] at hm
        have hg : g ∈ [f, g2] := hg
        simp only [List.mem_cons, List.not_mem_nil, or_false] at hg
        rcases hg with rfl | rfl <;> omega
    have hw : ∃ a x t, v = .ref a ∧ SqT K H a (.str (wd f) :: x :: t) := by
      cases f with
      | letter z =>
        obtain ⟨a, rfl, sa⟩ := dp_letter hv
        exact ⟨a, _, _, rfl, sa⟩
      | no f =>
        obtain ⟨a, x, rfl, sa, hx⟩ := dp_no hv
        exact ⟨a, _, _, rfl, sa⟩
      | conn b fs =>
        obtain ⟨a, c, xs, rfl, sa, sc, hx⟩ := dp_conn hv
        exact ⟨a, _, _, rfl, sa⟩
      | same f g =>
        obtain ⟨a, x, y, rfl, sa, hx, hy⟩ := dp_same hv
        exact ⟨a, _, _, rfl, sa⟩
    obtain ⟨a, x, t, rfl, sa⟩ := hw
    walk_at "rqs"
    refine rd_ifI (fun σ' H' => σ' = [some (.ref a), none, none, none, none, none] ∧ H' = H ∧ ∀ z, f ≠ .letter z) (fun N kN => ?_) fun σ' H' hI => ?_
    · refine rd_if ?_
      walk_at "rds"
      refine rd_ixT (x := .str (wd f)) sa (atI_nat (j := 0) rfl) ?_
      walk_at "rds"
      refine rd_ite (fun c => ?_) (fun c => ?_)
      · obtain ⟨z, rfl⟩ : ∃ z, f = .letter z := by
          cases f with
          | letter z => exact ⟨z, rfl⟩
          | no f => exact absurd c (by simp only [wd]; decide)
          | conn b fs => exact absurd c (by cases b <;> (simp only [wd, cw]; decide))
          | same f g => exact absurd c (by simp only [wd]; decide)
        walk_at "rds"
        refine rd_disp2 fun D hD => ?_
        have e1 := Evl.Ex.new (o := .dK []) hD
        walk_at "rds"
        refine ⟨(by show 2 ≤ sizeLine; decide), fun p hp => ?_⟩
        have e2 := Evl.Ex.new (o := .tup [V.int 1, .int 1]) hp
        walk_at "rds"
        refine ⟨(by show 2 ≤ sizeLine; decide), fun o ho => ?_⟩
        have e3 := Evl.Ex.new (o := .tup [V.int 2, .int 2]) ho
        have hD3 := (e2.trans e3) _ _ (upd_same (H := H) (a := D) (o := .dK []))
        have npD : p ≠ D := fun z => by rw [z, upd_same] at hp; cases hp
        have noD : o ≠ D := fun z => by rw [z, e2 _ _ (upd_same (H := H) (a := D) (o := .dK []))] at ho; cases ho
        refine ⟨hD3, [(.inr "yes", .ref p), (.inr "no", .ref o)], rfl, (by show 2 ≤ 15; decide), ?_⟩
        refine q D _ (Evl.Ex.mut ((e1.trans e2).trans e3) hD) ⟨p, o, upd_same, SqT.of ?_, SqT.of ?_⟩
        · rw [upd_ne npD]
          exact e3 _ _ upd_same
        · rw [upd_ne noD]
          exact upd_same
      · walk_at "rds"
        exact kN _ _ ⟨rfl, rfl, fun z e => c (by rw [e] <;> rfl)⟩
    obtain ⟨rfl, rfl, hnl⟩ := hI
    walk_at "rqs"
    refine ⟨.ref a, f, rfl, hv, fun p xs H1 e1 sp hx => ?_⟩
    have lx : xs.length = (kids f).length := by rw [dps_len hx, dats_map, List.length_map]
    walk_at "rqs"
    refine rd_ref sp ?_
    refine lc_lsT (K := K) (xs := xs) (fun D i acc H' => Szs K H' acc ((kids f).take i)) (fun i acc H1 D u e h => ⟨h.1, fun j g hj => ?_⟩) (σx := fun x => [some (.ref a), none, none, some x, none, none]) sp (by omega) (fun _ => rfl) (fun _ => rfl) (fun D H' _ => ⟨rfl, fun j g hj => by simp at hj⟩) (fun i x hi D acc H' N ex hDa hP kN => ?_) fun FD acc H2 e2 eF hF hsz2 => ?_
    · obtain ⟨D5, h1, h2⟩ := h.2 j g hj
      exact ⟨D5, h1, h2.upd e⟩
    · obtain ⟨g, hg, hdg⟩ := dps_get hx hi
      walk_at "rqs"
      refine ⟨x, g, rfl, dpF_ex ex hdg, hkid g (List.mem_of_getElem? hg), hkn g (List.mem_of_getElem? hg), fun D5 H5 e5 hd5 => kN _ _ e5 ?_⟩
      have hD5 := e5 _ _ hDa
      have lacc : acc.length = i := by
        have := hP.1
        have := (List.getElem?_eq_some_iff.mp hg).1
        rw [List.length_take] at *
        omega
      have etk : (kids f).take (i + 1) = (kids f).take i ++ [g] := by rw [List.take_add_one, hg] <;> rfl
      rw [etk]
      refine ⟨by rw [List.length_append, List.length_append, hP.1] <;> rfl, fun j g2 hj => ?_⟩
      rw [List.getElem?_append] at hj
      split at hj
      · next c =>
        obtain ⟨D6, h1, h2⟩ := hP.2 j g2 hj
        exact ⟨D6, by rw [List.getElem?_append_left (by rw [hP.1]; exact c)]; exact h1, (h2.ex e5).upd hD5⟩
      · next c =>
        have hj0 : j - ((kids f).take i).length = 0 := by
          have := (List.getElem?_eq_some_iff.mp hj).1
          rw [List.length_singleton] at this
          omega
        rw [hj0] at hj
        obtain rfl : g = g2 := Option.some.inj hj
        exact ⟨D5, by rw [List.getElem?_append_right (by rw [hP.1]; omega), hP.1, hj0] <;> rfl, hd5.upd hD5⟩
    rw [lx, List.take_length] at hsz2
    have e12 := e1.trans e2
    walk_at "rqs"
    refine rd_ifI (fun σ' H' => σ' = [some (.ref a), some (.ref FD), none, none, none, none] ∧ H' = H2 ∧ ∀ g, f ≠ .no g) (fun N kN => ?_) fun σ' H' hI => ?_
    · refine rd_if ?_
      walk_at "rds"
      refine rd_ixT (x := .str (wd f)) (Evl.ex_t e12 sa) (atI_nat (j := 0) rfl) ?_
      walk_at "rds"
      refine rd_ite (fun c => ?_) (fun c => ?_)
      · obtain ⟨g, rfl⟩ : ∃ g, f = .no g := by
          cases f with
          | letter z => exact absurd rfl (hnl z)
          | no f => exact ⟨f, rfl⟩
          | conn b fs => exact absurd c (by cases b <;> (simp only [wd, cw]; decide))
          | same f g => exact absurd c (by simp only [wd]; decide)
        obtain ⟨D1, h1, p1, q1, h2, h3, h4⟩ := hsz2.2 0 g rfl
        walk_at "rds"
        refine rd_disp2 fun D hD => ?_
        have e3 := Evl.Ex.new (o := .dK []) hD
        walk_at "rds"
        refine rd_ixL (x := .ref D1) (SqL.of (e3 _ _ hF)) (atI_nat (j := 0) h1) ?_
        walk_at "rds"
        refine ⟨D1, .ref q1, rfl, DGet.k (k := Sum.inr "no") (e3 _ _ h2), ?_⟩
        walk_at "rds"
        refine rd_ixL (x := .ref D1) (SqL.of (e3 _ _ hF)) (atI_nat (j := 0) h1) ?_
        walk_at "rds"
        refine ⟨D1, .ref p1, rfl, DGet.k (k := Sum.inr "yes") (e3 _ _ h2), ?_⟩
        refine ⟨upd_same, [(.inr "yes", .ref q1), (.inr "no", .ref p1)], rfl, (by show 2 ≤ 15; decide), ?_⟩
        have eM := Evl.Ex.mut (o := .dK (mergeK [] [(.inr "yes", .ref q1), (.inr "no", .ref p1)])) e3 hD
        refine q D _ (e12.trans eM) ⟨q1, p1, upd_same, ?_, ?_⟩
        · rw [nn, dd]
          exact Evl.ex_t eM h4
        · rw [nn, dd]
          exact Evl.ex_t eM h3
      · walk_at "rds"
        exact kN _ _ ⟨rfl, rfl, fun g e => c (by rw [e] <;> rfl)⟩
    obtain ⟨rfl, rfl, hnn⟩ := hI
    walk_at "rqs"
    refine rd_ifI (fun σ' Hb => σ' = [some (.ref a), some (.ref FD), none, none, none, none] ∧ Hb = H' ∧ ∀ g g2, f ≠ .same g g2) (fun N kN => ?_) fun σ' Hb hI => ?_
    · refine rd_if ?_
      walk_at "rds"
      refine rd_ixT (x := .str (wd f)) (Evl.ex_t e12 sa) (atI_nat (j := 0) rfl) ?_
      walk_at "rds"
      refine rd_ite (fun c => ?_) (fun c => ?_)
      · obtain ⟨g, g2, rfl⟩ : ∃ g g2, f = .same g g2 := by
          cases f with
          | letter z => exact absurd rfl (hnl z)
          | no f => exact absurd rfl (hnn f)
          | conn b fs => exact absurd c (by cases b <;> (simp only [wd, cw]; decide))
          | same f g => exact ⟨f, g, rfl⟩
        obtain ⟨D1, h1, p1, q1, h2, h3, h4⟩ := hsz2.2 0 g rfl
        obtain ⟨D2, k1, p2, q2, k2, k3, k4⟩ := hsz2.2 1 g2 rfl
        walk_at "rds"
        refine rd_lc2 ?_
        walk_at "rds"
        have lac : acc.length = 2 := hsz2.1
        refine rd_refL (SqL.of hF) ?_
        refine lc2_two (K := K) (xs := acc) (y0 := .str "yes") (y1 := .str "no") (fun i j => if i = 0 then (if j = 0 then .ref p1 else .ref q1) else (if j = 0 then .ref p2 else .ref q2))
          (σx := fun x => [some (.ref a), some (.ref FD), none, none, none, some x]) (σy := fun x y => [some (.ref a), some (.ref FD), none, none, some y, some x]) (SqL.of hF) (by omega) (fun _ => rfl) (fun _ => rfl) (fun _ _ => rfl) (fun _ _ => rfl) (fun x H5 R hR => ?_) (fun i x hi H5 N ex kN => ?_) (fun i x hi H5 N ex kN => ?_) fun L H5 e5 eL hL => ?_
        · walk_at "rds"
          refine ⟨(by show 2 ≤ sizeLine; decide), fun t ht => ?_⟩
          exact rd_ref (SqT.of upd_same) (hR t ht)
        · have hi2 : i < 2 := by rw [← lac]; exact (List.getElem?_eq_some_iff.mp hi).1
          have hi3 : i = 0 ∨ i = 1 := by omega
          rcases hi3 with rfl | rfl
          · rw [h1] at hi
            obtain rfl : V.ref D1 = x := Option.some.inj hi
            walk_at "rds"
            exact ⟨D1, .ref p1, rfl, DGet.k (k := Sum.inr "yes") (ex _ _ h2), kN _ (Evl.Ex.refl _)⟩
          · rw [k1] at hi
            obtain rfl : V.ref D2 = x := Option.some.inj hi
            walk_at "rds"
            exact ⟨D2, .ref p2, rfl, DGet.k (k := Sum.inr "yes") (ex _ _ k2), kN _ (Evl.Ex.refl _)⟩
        · have hi2 : i < 2 := by rw [← lac]; exact (List.getElem?_eq_some_iff.mp hi).1
          have hi3 : i = 0 ∨ i = 1 := by omega
          rcases hi3 with rfl | rfl
          · rw [h1] at hi
            obtain rfl : V.ref D1 = x := Option.some.inj hi
            walk_at "rds"
            exact ⟨D1, .ref q1, rfl, DGet.k (k := Sum.inr "no") (ex _ _ h2), kN _ (Evl.Ex.refl _)⟩
          · rw [k1] at hi
            obtain rfl : V.ref D2 = x := Option.some.inj hi
            walk_at "rds"
            exact ⟨D2, .ref q2, rfl, DGet.k (k := Sum.inr "no") (ex _ _ k2), kN _ (Evl.Ex.refl _)⟩
        rw [lac] at hL
        have hL4 : H5 L = some (.lst [.ref p1, .ref q1, .ref p2, .ref q2]) := hL
        walk_at "rds"
        refine ⟨L, _, [(nn true g, dd true g), (nn false g, dd false g), (nn true g2, dd true g2), (nn false g2, dd false g2)], 3, 2, rfl, SqL.of hL4, ⟨rfl, fun j p hj => ?_⟩, by show 4 ≤ 20000; decide, fun o H6 e6 so => ?_⟩
        · have hj4 : j < 4 := (List.getElem?_eq_some_iff.mp hj).1
          have hj5 : j = 0 ∨ j = 1 ∨ j = 2 ∨ j = 3 := by omega
          rcases hj5 with rfl | rfl | rfl | rfl <;> obtain rfl := Option.some.inj hj
          · exact ⟨p1, rfl, Evl.ex_t e5 h3⟩
          · exact ⟨q1, rfl, Evl.ex_t e5 h4⟩
          · exact ⟨p2, rfl, Evl.ex_t e5 k3⟩
          · exact ⟨q2, rfl, Evl.ex_t e5 k4⟩
        walk_at "rds"
        refine rd_disp2 fun D hD => ?_
        have e7 := Evl.Ex.new (o := .dK []) hD
        walk_at "rds"
        refine ⟨upd_same, [(.inr "yes", .ref o), (.inr "no", .ref o)], rfl, (by show 2 ≤ 15; decide), ?_⟩
        have eM := Evl.Ex.mut (o := .dK (mergeK [] [(.inr "yes", .ref o), (.inr "no", .ref o)])) e7 hD
        have en : ∀ s, nn s (.same g g2) = 3 + (nn true g + (nn false g + (nn true g2 + (nn false g2 + 0)))) := fun s => by rw [nn]; omega
        have ed : ∀ s, dd s (.same g g2) = 2 + max (dd true g) (max (dd false g) (max (dd true g2) (max (dd false g2) 0))) := fun s => by rw [dd]; omega
        have so2 : ∀ s, SqT K (upd (upd H6 D (.dK [])) D (.dK (mergeK [] [(.inr "yes", .ref o), (.inr "no", .ref o)]))) o [.int (nn s (.same g g2) : Int), .int (dd s (.same g g2) : Int)] := fun s => by
          rw [en s, ed s]
          exact Evl.ex_t eM so
        exact q D _ (((e12.trans e5).trans e6).trans eM) ⟨o, o, upd_same, so2 true, so2 false⟩
      · walk_at "rds"
        exact kN _ _ ⟨rfl, rfl, fun g g2 e => c (by rw [e] <;> rfl)⟩
    obtain ⟨rfl, rfl, hns⟩ := hI
    obtain ⟨b, fs, rfl⟩ : ∃ b fs, f = .conn b fs := by
      cases f with
      | letter z => exact absurd rfl (hnl z)
      | no f => exact absurd rfl (hnn f)
      | conn b fs => exact ⟨b, fs, rfl⟩
      | same f g => exact absurd rfl (hns f g)
    have hfs : kids (.conn b fs) = fs := rfl
    rw [hfs] at hsz2
    walk_at "rqs"
    refine ⟨(by show 2 ≤ sizeLine; decide), fun t0 ht0 => ?_⟩
    have e3 := Evl.Ex.new (o := .tup [V.str "yes", .str "no"]) ht0
    refine rd_ref (SqT.of upd_same) ?_
    intro D hD
    have eD := Evl.Ex.new (o := .dK []) hD
    have hbD : Hb D = none := by
      cases hq : Hb D with
      | none => rfl
      | some o => rw [e3 _ _ hq] at hD; cases hD
    refine dc_tup (xs := [.str "yes", .str "no"]) (fun i H' => Evl.Ex Hb H' ∧ SqT K H' t0 [.str "yes", .str "no"] ∧ (i = 0 → H' D = some (.dK [])) ∧ (i = 1 → ∃ p : Addr, H' D = some (.dK [(.inr "yes", .ref p)]) ∧ SqT K H' p [.int (nn true (.conn b fs) : Int), .int (dd true (.conn b fs) : Int)]) ∧ (i = 2 → DSz K H' D (.conn b fs)))
      ⟨e3.trans eD, Evl.ex_t eD (SqT.of upd_same), fun _ => upd_same, fun h => absurd h (by decide), fun h => absurd h (by decide)⟩ (fun i H' _ p => p.2.1) (fun i x H5 hi p => ?_) fun H5 p => ?_
    · obtain ⟨e5, st, p0, p1, _⟩ := p
      refine ⟨rfl, ?_⟩
      refine rd_yes ?_
      rw [if_pos rfl]
      obtain ⟨s, rfl, his⟩ : ∃ s : Bool, x = .str (if s = true then Str.ofString "yes" else Str.ofString "no") ∧ i = (if s = true then 0 else 1) := by
        match i, hi with
        | 0, hi => exact ⟨true, (Option.some.inj hi).symm, rfl⟩
        | 1, hi => exact ⟨false, (Option.some.inj hi).symm, rfl⟩
        | i + 2, hi => exact absurd hi (by simp)
      walk_at "rqs"
      have laf : acc.length = fs.length := hsz2.1
      have lfs : fs.length ≤ 20000 := hsz
      refine rd_refL (SqL.of (e5 _ _ hF)) ?_
      refine lc_lsL (K := K) (xs := acc) (fun L j bcc H' => Pz K H' bcc ((fs.take j).map fun g => (nn s g, dd s g))) (fun j bcc H1 L u e h => ⟨h.1, fun c g hc => ?_⟩) (σx := fun y => [some (.ref a), some (.ref FD), none, none, some (.str (if s = true then Str.ofString "yes" else Str.ofString "no")), some y]) (SqL.of (e5 _ _ hF)) (by omega) (fun _ => rfl) (fun _ => rfl) (fun L H' _ => ⟨rfl, fun c g hc => by simp at hc⟩) (fun j y hj L bcc H' N ex hDa hP kN => ?_) fun L bcc H6 e6 eL hL hsz3 => ?_
      · obtain ⟨b5, h1, h2⟩ := h.2 c g hc
        exact ⟨b5, h1, tup_upd e lst_not h2⟩
      · have hjl := (List.getElem?_eq_some_iff.mp hj).1
        obtain ⟨g, hg⟩ : ∃ g, fs[j]? = some g := ⟨_, List.getElem?_eq_getElem (by omega)⟩
        obtain ⟨D1, h1, p1, q1, h2, h3, h4⟩ := hsz2.2 j g hg
        rw [hj] at h1
        obtain rfl : y = V.ref D1 := Option.some.inj h1
        have e7 := e5.trans ex
        walk_at "rqs"
        have etk : (fs.take (j + 1)).map (fun g => (nn s g, dd s g)) = (fs.take j).map (fun g => (nn s g, dd s g)) ++ [(nn s g, dd s g)] := by rw [List.take_add_one, hg, List.map_append] <;> rfl
        have lb : bcc.length = ((fs.take j).map fun g => (nn s g, dd s g)).length := hP.1
        have fin : ∀ b5 : Addr, SqT K H' b5 [.int (nn s g : Int), .int (dd s g : Int)] → N (.ref b5) H' := fun b5 hb5 => by
          refine kN _ _ (Evl.Ex.refl _) ?_
          rw [etk]
          refine ⟨by rw [List.length_append, List.length_append, lb] <;> rfl, fun c g2 hc => ?_⟩
          rw [List.getElem?_append] at hc
          split at hc
          · next cc =>
            obtain ⟨b6, h5, h6⟩ := hP.2 c g2 hc
            exact ⟨b6, by rw [List.getElem?_append_left (by rw [lb]; exact cc)]; exact h5, tup_upd hDa lst_not h6⟩
          · next cc =>
            have hj0 : c - ((fs.take j).map fun g => (nn s g, dd s g)).length = 0 := by
              have := (List.getElem?_eq_some_iff.mp hc).1
              rw [List.length_singleton] at this
              omega
            rw [hj0] at hc
            obtain rfl : (nn s g, dd s g) = g2 := Option.some.inj hc
            exact ⟨b5, by rw [List.getElem?_append_right (by rw [lb]; omega), lb, hj0] <;> rfl, tup_upd hDa lst_not hb5⟩
        cases s with
        | true => exact ⟨D1, .ref p1, rfl, DGet.k (k := Sum.inr "yes") (e7 _ _ h2), fin p1 (Evl.ex_t e7 h3)⟩
        | false => exact ⟨D1, .ref q1, rfl, DGet.k (k := Sum.inr "no") (e7 _ _ h2), fin q1 (Evl.ex_t e7 h4)⟩
      rw [laf, List.take_length] at hsz3
      walk_at "rqs"
      refine ⟨L, bcc, fs.map (fun g => (nn s g, dd s g)), 1, 1, rfl, SqL.of hL, hsz3, by rw [hsz3.1, List.length_map]; exact lfs, fun o H7 e7 so => ?_⟩
      have e57 := e6.trans e7
      rw [sum_nn, mx_dd] at so
      have en : nn s (.conn b fs) = 1 + nns s fs := by rw [nn]
      have ed : dd s (.conn b fs) = 1 + dds s fs := by rw [dd]
      rw [← en, ← ed] at so
      cases s with
      | true =>
        obtain rfl : i = 0 := his
        have h0 := e57 _ _ (p0 rfl)
        refine ⟨[], .inr "yes", rfl, h0, (by show 0 < sizeLine; decide), Evl.Ex.mut (e5.trans e57) hbD, tup_upd h0 dk_not (Evl.ex_t e57 st), fun h => absurd h (by decide), fun _ => ⟨o, upd_same, tup_upd h0 dk_not so⟩, fun h => absurd h (by decide)⟩
      | false =>
        obtain rfl : i = 1 := his
        obtain ⟨pp, h0, h1⟩ := p1 rfl
        have h0 := e57 _ _ h0
        refine ⟨_, .inr "no", rfl, h0, (by show 1 < sizeLine; decide), Evl.Ex.mut (e5.trans e57) hbD, tup_upd h0 dk_not (Evl.ex_t e57 st), fun h => absurd h (by decide), fun h => absurd h (by decide), fun _ => ⟨pp, o, upd_same, tup_upd h0 dk_not (Evl.ex_t e57 h1), tup_upd h0 dk_not so⟩⟩
    · exact q D _ (e12.trans p.1) (p.2.2.2.2 rfl)
end
end KA
set_option Elab.async false
set_option linter.all false
set_option maxRecDepth 100000
set_option maxHeartbeats 400000
set_option pp.maxSteps 300
namespace KA
open PySem PySem.Spec PyProof.Rows L2 Ea
abbrev scheck_size : Stmt := topS 12
theorem sccheck_size : FnScope ["size"] ["size"] (defScope scheck_size) :=
  ⟨rfl, rfl, rfl, by decide +kernel, rfl, by decide +kernel, by decide +kernel⟩
abbrev slowered_same : Stmt := topS 17
theorem sclowered_same : FnScope ["formula", "side", "_", "one", "other", "first", "second"] ["formula", "side"] (defScope slowered_same) :=
  ⟨rfl, rfl, rfl, by decide +kernel, rfl, by decide +kernel, by decide +kernel⟩
abbrev slowered_on : Stmt := topS 18
theorem sclowered_on : FnScope ["formula", "side", "word", "parts", "part"] ["formula", "side"] (defScope slowered_on) :=
  ⟨rfl, rfl, rfl, by decide +kernel, rfl, by decide +kernel, by decide +kernel⟩
abbrev slowered : Stmt := topS 19
theorem sclowered : FnScope ["formula"] ["formula"] (defScope slowered) :=
  ⟨rfl, rfl, rfl, by decide +kernel, rfl, by decide +kernel, by decide +kernel⟩
local macro_rules | `(tactic| walk_at "rd") => `(tactic| first
  | (with_reducible refine rd_seq ?_) | (with_reducible refine rd_asg ?_) | (with_reducible refine rd_if ?_) | (with_reducible refine rd_ret ?_) | (with_reducible refine rd_next ?_)
  | (with_reducible refine rd_drop ?_) | ((with_reducible refine rd_name (σ' := ?ss) ?hs ?_); (case hs => (dsimp only [List.set]; exact rfl)))
  | ((with_reducible refine rd_var (v := ?vv) ?hv ?_); (case hv => exact rfl)) | (with_reducible refine rd_c ?_) | (with_reducible refine rd_op ?_) | (with_reducible refine rd_un ?_)
  | (with_reducible refine rd_I0 ?_) | (with_reducible refine rd_U ?_) | (with_reducible refine rd_test ?_) | (with_reducible refine rd_B ?_) | (with_reducible refine rd_k ?_)
  | (with_reducible refine rd_not ?_) | (with_reducible refine rd_and ?_) | (with_reducible refine rd_or ?_) | (with_reducible refine rd_ifE ?_)
  | (with_reducible refine rd_par ?_) | ((with_reducible refine rd_par2 (σ' := ?ss) ?hs ?_); (case hs => (dsimp only [List.set]; exact rfl)))
  | (with_reducible refine rd_gsub ?_) | (with_reducible refine rd_andV ?_) | (with_reducible refine rd_orV ?_) | (with_reducible refine rd_notV ?_)
  | (with_reducible refine rd_lc ?_) | (with_reducible refine rd_iTup ?_) | (with_reducible refine rd_iList ?_) | (with_reducible refine rd_iRng1 ?_) | (with_reducible refine rd_iRng2 ?_) | (with_reducible refine rd_iEnumT ?_) | (with_reducible refine rd_iEnum ?_) | (with_reducible refine rd_iZipM ?_) | (with_reducible refine rd_iEnumS ?_) | (with_reducible refine rd_iKeys ?_) | (with_reducible refine rd_din ?_) | (with_reducible refine rd_dnotin ?_)
  | (with_reducible refine rd_yes ?_) | (with_reducible refine rd_true ?_) | (with_reducible refine rd_false ?_) | (with_reducible refine rd_m1 ?_) | (with_reducible refine rd_isS ?_)
  | ((with_reducible refine rd_eq ?hs ?_); (case hs => exact rfl)) | ((with_reducible refine rd_ne ?hs ?_); (case hs => exact rfl))
  | (with_reducible refine rd_listRg ?_) | (with_reducible refine rd_rg2 ?_) | (with_reducible refine rd_rgk ?_)
  | (with_reducible refine rd_dnew ?_) | (with_reducible refine rd_ddel ?_) | (with_reducible refine rd_kw ?_) | (with_reducible refine rd_callS ?_) | (with_reducible refine rd_dc ?_) | (with_reducible refine rd_for ?_) | (with_reducible refine rd_tru ?_) | (with_reducible refine rd_truI ?_)
  | (with_reducible refine rd_nil ?_) | (with_reducible refine rd_cons ?_) | (with_reducible refine rd_call ?_) | (with_reducible refine rd_cb ?_)
  | (with_reducible refine rd_tup ?_) | (with_reducible refine rd_lst ?_) | (with_reducible refine rd_dget ?_) | (with_reducible refine rd_dput ?_) | (with_reducible refine rd_dget2 ?_) | (with_reducible refine rd_sl ?_)
  | (with_reducible refine rd_nopart ?_) | (with_reducible refine rd_part ?_) | (with_reducible refine rd_parti ?_) | (with_reducible refine rd_bm ?_) | (with_reducible refine rd_bm0 ?_)
  | (with_reducible refine rd_int ?_) | (with_reducible refine rd_intb ?_) | (with_reducible refine rd_abs ?_) | (with_reducible refine rd_min2 ?_) | (with_reducible refine rd_max2 ?_))
local macro_rules | `(tactic| walk_at "rds") => `(tactic| repeat (walk_at "rd"))
local macro_rules | `(tactic| walk_at "rq") => `(tactic| first
  | (with_reducible refine rd_seq ?_) | (with_reducible refine rd_asg ?_) | (with_reducible refine rd_ret ?_) | (with_reducible refine rd_next ?_)
  | (with_reducible refine rd_drop ?_) | ((with_reducible refine rd_name (σ' := ?ss) ?hs ?_); (case hs => (dsimp only [List.set]; exact rfl)))
  | ((with_reducible refine rd_var (v := ?vv) ?hv ?_); (case hv => exact rfl)) | (with_reducible refine rd_c ?_) | (with_reducible refine rd_op ?_) | (with_reducible refine rd_un ?_)
  | (with_reducible refine rd_I0 ?_) | (with_reducible refine rd_U ?_) | (with_reducible refine rd_test ?_) | (with_reducible refine rd_B ?_) | (with_reducible refine rd_k ?_)
  | (with_reducible refine rd_not ?_) | (with_reducible refine rd_and ?_) | (with_reducible refine rd_or ?_) | (with_reducible refine rd_ifE ?_)
  | (with_reducible refine rd_par ?_) | ((with_reducible refine rd_par2 (σ' := ?ss) ?hs ?_); (case hs => (dsimp only [List.set]; exact rfl)))
  | (with_reducible refine rd_gsub ?_) | (with_reducible refine rd_andV ?_) | (with_reducible refine rd_orV ?_) | (with_reducible refine rd_notV ?_)
  | (with_reducible refine rd_lc ?_) | (with_reducible refine rd_iTup ?_) | (with_reducible refine rd_iList ?_) | (with_reducible refine rd_iRng1 ?_) | (with_reducible refine rd_iRng2 ?_) | (with_reducible refine rd_iEnumT ?_) | (with_reducible refine rd_iEnum ?_) | (with_reducible refine rd_iZipM ?_) | (with_reducible refine rd_iEnumS ?_) | (with_reducible refine rd_iKeys ?_) | (with_reducible refine rd_din ?_) | (with_reducible refine rd_dnotin ?_)
  | (with_reducible refine rd_yes ?_) | (with_reducible refine rd_true ?_) | (with_reducible refine rd_false ?_) | (with_reducible refine rd_m1 ?_) | (with_reducible refine rd_isS ?_)
  | ((with_reducible refine rd_eq ?hs ?_); (case hs => exact rfl)) | ((with_reducible refine rd_ne ?hs ?_); (case hs => exact rfl))
  | (with_reducible refine rd_listRg ?_) | (with_reducible refine rd_rg2 ?_) | (with_reducible refine rd_rgk ?_)
  | (with_reducible refine rd_dnew ?_) | (with_reducible refine rd_ddel ?_) | (with_reducible refine rd_kw ?_) | (with_reducible refine rd_callS ?_) | (with_reducible refine rd_dc ?_) | (with_reducible refine rd_for ?_) | (with_reducible refine rd_tru ?_) | (with_reducible refine rd_truI ?_)
  | (with_reducible refine rd_nil ?_) | (with_reducible refine rd_cons ?_) | (with_reducible refine rd_call ?_) | (with_reducible refine rd_cb ?_)
  | (with_reducible refine rd_tup ?_) | (with_reducible refine rd_lst ?_) | (with_reducible refine rd_dget ?_) | (with_reducible refine rd_dput ?_) | (with_reducible refine rd_dget2 ?_) | (with_reducible refine rd_sl ?_)
  | (with_reducible refine rd_nopart ?_) | (with_reducible refine rd_part ?_) | (with_reducible refine rd_parti ?_) | (with_reducible refine rd_bm ?_) | (with_reducible refine rd_bm0 ?_)
  | (with_reducible refine rd_int ?_) | (with_reducible refine rd_intb ?_) | (with_reducible refine rd_abs ?_) | (with_reducible refine rd_min2 ?_) | (with_reducible refine rd_max2 ?_))
local macro_rules | `(tactic| walk_at "rqs") => `(tactic| repeat (walk_at "rq"))
local macro_rules | `(tactic| walk_at "rv") => `(tactic| first
  | (with_reducible refine rd_seq ?_) | (with_reducible refine rd_asg ?_) | (with_reducible refine rd_ret ?_) | (with_reducible refine rd_next ?_)
  | (with_reducible refine rd_drop ?_) | ((with_reducible refine rd_name (σ' := ?ss) ?hs ?_); (case hs => (dsimp only [List.set]; exact rfl)))
  | ((with_reducible refine rd_var (v := ?vv) ?hv ?_); (case hv => exact rfl)) | (with_reducible refine rd_c ?_) | (with_reducible refine rd_op ?_) | (with_reducible refine rd_un ?_)
  | (with_reducible refine rd_I0 ?_) | (with_reducible refine rd_U ?_) | (with_reducible refine rd_test ?_) | (with_reducible refine rd_B ?_) | (with_reducible refine rd_k ?_)
  | (with_reducible refine rd_not ?_) | (with_reducible refine rd_and ?_) | (with_reducible refine rd_or ?_)
  | (with_reducible refine rd_par ?_) | ((with_reducible refine rd_par2 (σ' := ?ss) ?hs ?_); (case hs => (dsimp only [List.set]; exact rfl)))
  | (with_reducible refine rd_gsub ?_) | (with_reducible refine rd_andV ?_) | (with_reducible refine rd_orV ?_) | (with_reducible refine rd_notV ?_)
  | (with_reducible refine rd_lc ?_) | (with_reducible refine rd_iTup ?_) | (with_reducible refine rd_iList ?_) | (with_reducible refine rd_iRng1 ?_) | (with_reducible refine rd_iRng2 ?_) | (with_reducible refine rd_iEnumT ?_) | (with_reducible refine rd_iEnum ?_) | (with_reducible refine rd_iZipM ?_) | (with_reducible refine rd_iEnumS ?_) | (with_reducible refine rd_iKeys ?_) | (with_reducible refine rd_din ?_) | (with_reducible refine rd_dnotin ?_)
  | (with_reducible refine rd_yes ?_) | (with_reducible refine rd_true ?_) | (with_reducible refine rd_false ?_) | (with_reducible refine rd_m1 ?_) | (with_reducible refine rd_isS ?_)
  | ((with_reducible refine rd_eq ?hs ?_); (case hs => exact rfl)) | ((with_reducible refine rd_ne ?hs ?_); (case hs => exact rfl))
  | (with_reducible refine rd_listRg ?_) | (with_reducible refine rd_rg2 ?_) | (with_reducible refine rd_rgk ?_)
  | (with_reducible refine rd_dnew ?_) | (with_reducible refine rd_ddel ?_) | (with_reducible refine rd_kw ?_) | (with_reducible refine rd_callS ?_) | (with_reducible refine rd_dc ?_) | (with_reducible refine rd_for ?_) | (with_reducible refine rd_tru ?_) | (with_reducible refine rd_truI ?_)
  | (with_reducible refine rd_nil ?_) | (with_reducible refine rd_cons ?_) | (with_reducible refine rd_call ?_) | (with_reducible refine rd_cb ?_)
  | (with_reducible refine rd_tup ?_) | (with_reducible refine rd_lst ?_) | (with_reducible refine rd_dget ?_) | (with_reducible refine rd_dput ?_) | (with_reducible refine rd_dget2 ?_) | (with_reducible refine rd_sl ?_)
  | (with_reducible refine rd_nopart ?_) | (with_reducible refine rd_part ?_) | (with_reducible refine rd_parti ?_) | (with_reducible refine rd_bm ?_) | (with_reducible refine rd_bm0 ?_)
  | (with_reducible refine rd_int ?_) | (with_reducible refine rd_intb ?_) | (with_reducible refine rd_abs ?_) | (with_reducible refine rd_min2 ?_) | (with_reducible refine rd_max2 ?_))
local macro_rules | `(tactic| walk_at "rvs") => `(tactic| repeat (walk_at "rv"))

theorem dp_pos (f : Fm) : 1 ≤ dp f := by cases f <;> (rw [dp] <;> omega)
structure Cty (K : PySem.W.Frag) (w : World) (mg : Str → Option Value) (hd : Addr) : Prop where
  m : mg "CONTRARY" = some (.ref hd)
  a : KDct K w hd "and" (.str "or")
  o : KDct K w hd "or" (.str "and")
theorem mk_conn {K : PySem.W.Frag} {H : Hp} {b : Bool} {xs : List V} {fs : List Fm} {p q : Addr} (s1 : SqT K H p xs) (h : DpAll K H xs (dats fs)) (s2 : SqT K H q [.str (cw b), .ref p]) : Dp K H (.ref q) (dat (.conn b fs)) := by
  rw [dat]
  exact .tup s2 (.cons (.str _) (.cons (.tup s1 h) .nil))
theorem mk_no {K : PySem.W.Frag} {H : Hp} {x : V} {f : Fm} {q : Addr} (s : SqT K H q [.str "not", x]) (h : Dp K H x (dat f)) : Dp K H (.ref q) (dat (.no f)) := by
  rw [dat]
  exact .tup s (.cons (.str _) (.cons h .nil))
theorem dpF_upd {K : PySem.W.Frag} {H : Hp} {D : Addr} {ys u : List V} {x : V} {f : Fm} (e : H D = some (.lst ys)) (h : Dp K H x (dat f)) : Dp K (upd H D (.lst u)) x (dat f) := dp_mono (fun _ _ t => tup_upd e lst_not t) _ _ (noL_dat f) h
theorem dps_upd {K : PySem.W.Frag} {H : Hp} {D : Addr} {ys u : List V} {xs : List V} {fs : List Fm} (e : H D = some (.lst ys)) (h : DpAll K H xs (dats fs)) : DpAll K (upd H D (.lst u)) xs (dats fs) := dps_mono (fun _ _ t => tup_upd e lst_not t) _ _ (noL_dat2 fs) h
theorem dps_snoc {K : PySem.W.Frag} {H : Hp} : ∀ {xs : List V} {fs : List Fm} {x : V} {f : Fm}, DpAll K H xs (dats fs) → Dp K H x (dat f) → DpAll K H (xs ++ [x]) (dats (fs ++ [f]))
  | _, [], _, _, .nil, h => .cons h .nil
  | _, _ :: _, _, _, .cons a b, h => .cons a (dps_snoc b h)
section
variable {P : Program} {w : World} {K : PySem.W.Frag} {mg : Str → Option Value} {base : Heap}
theorem ok_sizes0 {f : Addr} {fd : FuncData} {k : Nat} : FnOk P w K mg base CX0 k f fd ["formula"] (spSizes K 0) :=
  ⟨fun vs H Q E h => by
    obtain ⟨v, f, _, _, hm, _⟩ := h
    have := dp_pos f
    omega, fun A outer s H args us vs Q E hr e0 hb r hsp => by
    obtain ⟨v, f, _, _, hm, _⟩ := hsp
    have := dp_pos f
    omega⟩
theorem ok_sizes {f fP fJ : Addr} {fd fdP fdJ : FuncData} (F : Fun K "lowered_sizes" "lowered_sizes" slowered_sizes f fd) (T : Bl mg)
    (Gparts_of : FnOk P w K mg base CX0 1 fP fdP ["formula"] (spPartsOf K)) (Cparts_of : Callee K mg "parts_of" fP fdP ["formula"])
    (Gjoined_size : FnOk P w K mg base CX0 1 fJ fdJ ["sizes", "nodes", "deep"] (spJoined K)) (Cjoined_size : Callee K mg "joined_size" fJ fdJ ["sizes", "nodes", "deep"])
    (Clowered_sizes : Callee K mg "lowered_sizes" f fd ["formula"]) : ∀ m, FnOk P w K mg base CX0 (m + 1) f fd ["formula"] (spSizes K m)
  | 0 => ok_sizes0
  | m + 1 => ok_sizes1 F T (by omega) Gparts_of Cparts_of Gjoined_size Cjoined_size (ok_sizes F T Gparts_of Cparts_of Gjoined_size Cjoined_size Clowered_sizes m) Clowered_sizes
theorem ok_plain0 {f : Addr} {fd : FuncData} {k : Nat} : FnOk P w K mg base CX0 k f fd ["formula"] (spPlain K 0) :=
  ⟨fun vs H Q E h => by
    obtain ⟨v, f, _, _, hm, _⟩ := h
    have := dp_pos f
    omega, fun A outer s H args us vs Q E hr e0 hb r hsp => by
    obtain ⟨v, f, _, _, hm, _⟩ := hsp
    have := dp_pos f
    omega⟩
theorem ok_plain {f fP jj nj qj : Addr} {fd fdP : FuncData} (F : Fun K "is_plain" "is_plain" sis_plain f fd) (T : Bl mg) (GL : Gls K mg jj nj qj)
    (Gparts_of : FnOk P w K mg base CX0 1 fP fdP ["formula"] (spPartsOf K)) (Cparts_of : Callee K mg "parts_of" fP fdP ["formula"])
    (Cis_plain : Callee K mg "is_plain" f fd ["formula"]) : ∀ m, FnOk P w K mg base CX0 (m + 1) f fd ["formula"] (spPlain K m)
  | 0 => ok_plain0
  | m + 1 => ok_plain1 F T GL (by omega) Gparts_of Cparts_of (ok_plain F T GL Gparts_of Cparts_of Cis_plain m) Cis_plain
def spCheck (K : PySem.W.Frag) : Sp := fun vs H Q _ => ∃ (a : Addr) (n e : Int), vs = [.ref a] ∧ SqT K H a [.int n, .int e] ∧ n ≤ 400 ∧ e ≤ 40 ∧ Q .non H
theorem ok_check {f : Addr} {fd : FuncData} (F : Fun K "check_size" "check_size" scheck_size f fd) (T : Bl mg) (mMN : ∃ u, mg "MAX_NODES" = some u ∧ RelV (.int 400) u) (mMD : ∃ u, mg "MAX_NEST" = some u ∧ RelV (.int 40) u) :
    FnOk P w K mg base CX0 1 f fd ["size"] (spCheck K) := by
  refine F.ok sccheck_size (fun vs H Q E h => ?_) (fun cdv A outer s H vs Q E hr h => ?_)
  · obtain ⟨a, n, e, rfl, _⟩ := h
    rfl
  · obtain ⟨a, n, e, rfl, ha, h1, h2, q⟩ := h
    refine ⟨_, (pss_cons (ps_if (pt_cmpR op_gt (pe_ix (ik_tup (K := K) rfl) (pv 0) pe_int (fun _ _ => rfl)) (C8.pe_gc (v := .int 400) (by rfl) mMN) (nomark _)) (pss_one ps_off) pss_nil)
 (pss_one (ps_if (pt_cmpR op_gt (pe_ix (ik_tup (K := K) rfl) (pv 0) pe_int (fun _ _ => rfl)) (C8.pe_gc (v := .int 40) (by rfl) mMD) (nomark _)) (pss_one ps_off) pss_nil))), ?_⟩
    refine rd_start (σ' := [some (.ref a)]) rfl ?_
    walk_at "rds"
    refine rd_ixT ha rfl ?_
    walk_at "rds"
    refine rd_ite (fun c => by omega) (fun c => ?_)
    walk_at "rds"
    refine rd_ixT ha rfl ?_
    walk_at "rds"
    refine rd_ite (fun c => by omega) (fun c => ?_)
    walk_at "rds"
    exact q
def sd (s : Bool) : Str := if s = true then "yes" else "no"
def spOn (K : PySem.W.Frag) (m : Nat) : Sp := fun vs H Q _ => ∃ (v : V) (f : Fm) (s : Bool), vs = [v, .str (sd s)] ∧ Dp K H v (dat f) ∧ dp f ≤ m ∧ nd f ≤ 1000 ∧ ∀ (x : V) (H' : Hp), Evl.Ex H H' → Dp K H' x (dat (low s f)) → Q x H'
def spSame (K : PySem.W.Frag) (m : Nat) : Sp := fun vs H Q _ => ∃ (v : V) (f g : Fm) (s : Bool), vs = [v, .str (sd s)] ∧ Dp K H v (dat (.same f g)) ∧ dp f ≤ m ∧ dp g ≤ m ∧ nd f ≤ 1000 ∧ nd g ≤ 1000 ∧ ∀ (x : V) (H' : Hp), Evl.Ex H H' → Dp K H' x (dat (low s (.same f g))) → Q x H'
theorem ok_on0 {f : Addr} {fd : FuncData} {k : Nat} : FnOk P w K mg base CX0 k f fd ["formula", "side"] (spOn K 0) :=
  ⟨fun vs H Q E h => by
    obtain ⟨v, f, s, _, _, hm, _⟩ := h
    have := dp_pos f
    omega, fun A outer s H args us vs Q E hr e0 hb r hsp => by
    obtain ⟨v, f, s, _, _, hm, _⟩ := hsp
    have := dp_pos f
    omega⟩
theorem ok_same1 {f fO : Addr} {fd fdO : FuncData} (F : Fun K "lowered_same" "lowered_same" slowered_same f fd) (T : Bl mg) {m k : Nat}
    (Glowered_on : FnOk P w K mg base CX0 k fO fdO ["formula", "side"] (spOn K m)) (Clowered_on : Callee K mg "lowered_on" fO fdO ["formula", "side"]) :
    FnOk P w K mg base CX0 (k + 1) f fd ["formula", "side"] (spSame K m) := by
  refine F.ok sclowered_same (fun vs H Q E h => ?_) (fun cdv A outer s H vs Q E hr h => ?_)
  · obtain ⟨v, f, g, s, rfl, _⟩ := h
    rfl
  · obtain ⟨v, f, g, s, rfl, hv, hm1, hm2, hn1, hn2, q⟩ := h
    refine ⟨_, (pss_cons (ps_asg (pv 0) (pgk_tup (K := K) rfl rfl (pgs_cons (pg_name (i := 2) sclowered_same.nd rfl (Or.inl rfl)) (pgs_cons (pg_name (i := 3) sclowered_same.nd rfl (Or.inl rfl)) (pgs_cons (pg_name (i := 4) sclowered_same.nd rfl (Or.inl rfl)) pgs_nil)))))
 (pss_cons (ps_par (i := 5) (j := 6) rfl sclowered_same.nd rfl rfl (by decide) rfl rfl (pa_cons (pe_call Glowered_on hr (by rfl) Clowered_on.m Clowered_on.k Clowered_on.b .nil pass0 (pa_cons (pv 3) (pa_cons pe_str pa_nil))) (pa_cons (pe_call Glowered_on hr (by rfl) Clowered_on.m Clowered_on.k Clowered_on.b .nil pass0 (pa_cons (pv 3) (pa_cons pe_str pa_nil))) pa_nil)) (by rfl))
 (pss_cons (ps_if (pt_cmpR op_eq (pv 1) pe_str (nomark _)) (pss_one (ps_par (i := 5) (j := 6) rfl sclowered_same.nd rfl rfl (by decide) rfl rfl (pa_cons (pv 6) (pa_cons (pv 5) pa_nil)) (by rfl))) pss_nil)
 (pss_one (ps_ret (pe_tup (pa_cons pe_str (pa_cons (pe_tup (pa_cons (pe_tup (pa_cons pe_str (pa_cons (pe_tup (pa_cons (pv 5) (pa_cons (pe_call Glowered_on hr (by rfl) Clowered_on.m Clowered_on.k Clowered_on.b .nil pass0 (pa_cons (pv 4) (pa_cons pe_str pa_nil))) pa_nil))) pa_nil))) (pa_cons (pe_tup (pa_cons pe_str (pa_cons (pe_tup (pa_cons (pv 6) (pa_cons (pe_call Glowered_on hr (by rfl) Clowered_on.m Clowered_on.k Clowered_on.b .nil pass0 (pa_cons (pv 4) (pa_cons pe_str pa_nil))) pa_nil))) pa_nil))) pa_nil))) pa_nil)))))))), ?_⟩
    obtain ⟨a, x, y, rfl, sa, hx, hy⟩ := dp_same hv
    refine rd_start (σ' := [some (.ref a), some (.str (sd s)), none, none, none, none, none]) rfl ?_
    walk_at "rds"
    refine rd_gtup3 sa rfl rfl ?_
    walk_at "rds"
    refine ⟨x, f, false, rfl, hx, hm1, hn1, fun x1 H1 e1 d1 => ?_⟩
    walk_at "rds"
    refine ⟨x, f, true, rfl, dpF_ex e1 hx, hm1, hn1, fun x2 H2 e2 d2 => ?_⟩
    walk_at "rqs"
    refine rd_ifI (fun σ' H' => ∃ p1 p2 : V, σ' = [some (.ref a), some (.str (sd s)), some (.str "same"), some x, some y, some p1, some p2] ∧ H' = H2 ∧ Dp K H2 p1 (dat (low (!s) f)) ∧ Dp K H2 p2 (dat (low s f))) (fun N kN => ?_) fun σ' H' hI => ?_
    · refine rd_if ?_
      walk_at "rds"
      refine rd_ite (fun c => ?_) (fun c => ?_)
      · obtain rfl : s = false := by cases s <;> first | rfl | exact absurd c (by decide)
        walk_at "rds"
        exact kN _ _ ⟨x2, x1, rfl, rfl, d2, dpF_ex e2 d1⟩
      · obtain rfl : s = true := by cases s <;> first | rfl | exact absurd rfl c
        walk_at "rds"
        exact kN _ _ ⟨x1, x2, rfl, rfl, dpF_ex e2 d1, d2⟩
    obtain ⟨p1, p2, rfl, rfl, d3, d4⟩ := hI
    have e12 := e1.trans e2
    walk_at "rds"
    refine ⟨y, g, true, rfl, dpF_ex e12 hy, hm2, hn2, fun y1 H3 e3 d5 => ?_⟩
    walk_at "rds"
    refine ⟨(by show 2 ≤ sizeLine; decide), fun r1 hr1 => ?_⟩
    have a1 := Evl.Ex.new (o := .tup [p1, y1]) hr1
    walk_at "rds"
    refine ⟨(by show 2 ≤ sizeLine; decide), fun r2 hr2 => ?_⟩
    have a2 := Evl.Ex.new (o := .tup [V.str "or", .ref r1]) hr2
    have a12 := a1.trans a2
    have k1 : Dp K _ (.ref r2) (dat (.conn false [low (!s) f, low true g])) := mk_conn (b := false) (Evl.ex_t a2 (SqT.of upd_same)) (.cons (dpF_ex (e3.trans a12) d3) (.cons (dpF_ex a12 d5) .nil)) (SqT.of upd_same)
    walk_at "rds"
    refine ⟨y, g, false, rfl, dpF_ex (e12.trans (e3.trans a12)) hy, hm2, hn2, fun y2 H4 e4 d6 => ?_⟩
    walk_at "rds"
    refine ⟨(by show 2 ≤ sizeLine; decide), fun r3 hr3 => ?_⟩
    have a3 := Evl.Ex.new (o := .tup [p2, y2]) hr3
    walk_at "rds"
    refine ⟨(by show 2 ≤ sizeLine; decide), fun r4 hr4 => ?_⟩
    have a4 := Evl.Ex.new (o := .tup [V.str "or", .ref r3]) hr4
    have a34 := a3.trans a4
    have k2 : Dp K _ (.ref r4) (dat (.conn false [low s f, low false g])) := mk_conn (b := false) (Evl.ex_t a4 (SqT.of upd_same)) (.cons (dpF_ex (e3.trans (a12.trans (e4.trans a34))) d4) (.cons (dpF_ex a34 d6) .nil)) (SqT.of upd_same)
    walk_at "rds"
    refine ⟨(by show 2 ≤ sizeLine; decide), fun r5 hr5 => ?_⟩
    have a5 := Evl.Ex.new (o := .tup [V.ref r2, .ref r4]) hr5
    walk_at "rds"
    refine ⟨(by show 2 ≤ sizeLine; decide), fun r6 hr6 => ?_⟩
    have a6 := Evl.Ex.new (o := .tup [V.str "and", .ref r5]) hr6
    have a56 := a5.trans a6
    refine q _ _ (e12.trans (e3.trans (a12.trans (e4.trans (a34.trans a56))))) ?_
    rw [low]
    exact mk_conn (b := true) (Evl.ex_t a6 (SqT.of upd_same)) (.cons (dpF_ex (e4.trans (a34.trans a56)) k1) (.cons (dpF_ex a56 k2) .nil)) (SqT.of upd_same)
theorem ok_on1 {f fS : Addr} {fd fdS : FuncData} {hd : Addr} (F : Fun K "lowered_on" "lowered_on" slowered_on f fd) (T : Bl mg) (hH : Cty K w mg hd) {m k : Nat}
    (Glowered_on : FnOk P w K mg base CX0 k f fd ["formula", "side"] (spOn K m)) (Clowered_on : Callee K mg "lowered_on" f fd ["formula", "side"])
    (Glowered_same : FnOk P w K mg base CX0 (k + 1) fS fdS ["formula", "side"] (spSame K m)) (Clowered_same : Callee K mg "lowered_same" fS fdS ["formula", "side"]) :
    FnOk P w K mg base CX0 (k + 2) f fd ["formula", "side"] (spOn K (m + 1)) := by
  refine F.ok sclowered_on (fun vs H Q E h => ?_) (fun cdv A outer s H vs Q E hr h => ?_)
  · obtain ⟨v, f, s, rfl, _⟩ := h
    rfl
  · obtain ⟨v, f, s, rfl, hv, hm, hn, q⟩ := h
    refine ⟨_, (pss_cons (ps_set (i := 2) sclowered_on.nd rfl (Or.inl rfl) (pe_ix (ik_tup (K := K) rfl) (pv 0) pe_int (fun _ _ => rfl)))
 (pss_cons (ps_if (pt_cmpR op_eq (pv 2) pe_str (nomark _)) (pss_one (ps_ret (pe_ifExp (pt_cmpR op_eq (pv 1) pe_str (nomark _)) (pv 0) (pe_tup (pa_cons pe_str (pa_cons (pv 0) pa_nil)))))) pss_nil)
 (pss_cons (ps_if (pt_cmpR op_eq (pv 2) pe_str (nomark _)) (pss_one (ps_ret (pe_call Glowered_on (hr.mono (Nat.le_succ k)) (by rfl) Clowered_on.m Clowered_on.k Clowered_on.b .nil pass0 (pa_cons (pe_ix (ik_tup (K := K) rfl) (pv 0) pe_int (fun _ _ => rfl)) (pa_cons (pe_ifExp (pt_cmpR op_eq (pv 1) pe_str (nomark _)) pe_str pe_str) pa_nil))))) pss_nil)
 (pss_cons (ps_if (pt_cmpR op_eq (pv 2) pe_str (nomark _)) (pss_one (ps_ret (pe_call Glowered_same hr (by rfl) Clowered_same.m Clowered_same.k Clowered_same.b .nil pass0 (pa_cons (pv 0) (pa_cons (pv 1) pa_nil))))) pss_nil)
 (pss_cons (ps_set (i := 3) sclowered_on.nd rfl (Or.inl rfl) (pe_callTy (c_tuple (K := K) rfl) (by rfl) T.tuple (by decide +kernel) (pa_cons (pe_lc (own := [("part", 4)]) (g := gName 4) rfl sclowered_on.nd (ik_tupI (K := K) rfl (pe_ix (ik_tup (K := K) rfl) (pv 0) pe_int (fun _ _ => rfl))) (blkOk_by (own := [("part", 4)]) (N := ["formula", "side", "word", "parts", "part"]) (sc := defScope slowered_on) (by decide +kernel)) (fun _ _ _ _ _ => (pg_name (i := 4) sclowered_on.nd rfl (Or.inl rfl))) (fun _ _ _ _ _ => pts_nil) (fun _ _ _ _ _ => (pe_call Glowered_on (hr.mono (Nat.le_succ k)) (by rfl) Clowered_on.m Clowered_on.k Clowered_on.b .nil pass0 (pa_cons (pv 4) (pa_cons (pv 1) pa_nil))))) pa_nil)))
 (pss_one (ps_ret (pe_tup (pa_cons (pe_ifExp (pt_cmpR op_eq (pv 1) pe_str (nomark _)) (pv 2) (pe_ix (ik_dict (K := K) (w := w) rfl rfl) (pe_glob (v := .ref hd) (by rfl) hH.m rfl) (pv 2) (fun _ _ => rfl))) (pa_cons (pv 3) pa_nil)))))))))), ?_⟩
    refine rd_start (σ' := [some v, some (.str (sd s)), none, none, none]) rfl ?_
    cases f with
    | letter z =>
      obtain ⟨a, rfl, sa⟩ := dp_letter hv
      walk_at "rds"
      refine rd_ixT sa rfl ?_
      walk_at "rds"
      refine rd_ite (fun _ => ?_) (fun c => absurd rfl c)
      walk_at "rds"
      cases s with
      | true =>
        refine rd_ite (fun _ => ?_) (fun c => absurd rfl c)
        walk_at "rds"
        exact q _ _ (Evl.Ex.refl _) hv
      | false =>
        refine rd_ite (fun c => absurd c (by decide)) (fun _ => ?_)
        walk_at "rds"
        refine ⟨(by show 2 ≤ sizeLine; decide), fun r hr0 => ?_⟩
        have e1 := Evl.Ex.new (o := .tup [V.str "not", .ref a]) hr0
        exact q _ _ e1 (mk_no (SqT.of upd_same) (dpF_ex e1 hv))
    | no f =>
      obtain ⟨a, x, rfl, sa, hx⟩ := dp_no hv
      rw [dp] at hm
      rw [nd] at hn
      walk_at "rds"
      refine rd_ixT sa rfl ?_
      walk_at "rds"
      refine rd_ite (fun c => absurd c (by decide)) (fun _ => ?_)
      walk_at "rds"
      refine rd_ite (fun _ => ?_) (fun c => absurd rfl c)
      walk_at "rds"
      refine rd_ixT sa rfl ?_
      walk_at "rds"
      cases s with
      | true =>
        refine rd_ite (fun _ => ?_) (fun c => absurd rfl c)
        walk_at "rds"
        exact ⟨x, f, false, rfl, hx, by omega, by omega, fun y H1 e1 d1 => q _ _ e1 (by rw [low]; exact d1)⟩
      | false =>
        refine rd_ite (fun c => absurd c (by decide)) (fun _ => ?_)
        walk_at "rds"
        exact ⟨x, f, true, rfl, hx, by omega, by omega, fun y H1 e1 d1 => q _ _ e1 (by rw [low]; exact d1)⟩
    | same f g =>
      obtain ⟨a, x, y, rfl, sa, hx, hy⟩ := dp_same hv
      rw [dp] at hm
      rw [nd] at hn
      walk_at "rds"
      refine rd_ixT sa rfl ?_
      walk_at "rds"
      refine rd_ite (fun c => absurd c (by decide)) (fun _ => ?_)
      walk_at "rds"
      refine rd_ite (fun c => absurd c (by decide)) (fun _ => ?_)
      walk_at "rds"
      refine rd_ite (fun _ => ?_) (fun c => absurd rfl c)
      walk_at "rds"
      exact ⟨.ref a, f, g, s, rfl, hv, by omega, by omega, by omega, by omega, fun y H1 e1 d1 => q _ _ e1 d1⟩
    | conn b fs =>
      obtain ⟨a, c, xs, rfl, sa, sc, hx⟩ := dp_conn hv
      rw [dp] at hm
      rw [nd] at hn
      have lx : xs.length = fs.length := by rw [dps_len hx, dats_map, List.length_map]
      have hl := nds_len fs
      walk_at "rds"
      refine rd_ixT sa rfl ?_
      walk_at "rds"
      refine rd_ite (fun c => absurd c (by cases b <;> decide)) (fun _ => ?_)
      walk_at "rds"
      refine rd_ite (fun c => absurd c (by cases b <;> decide)) (fun _ => ?_)
      walk_at "rds"
      refine rd_ite (fun c => absurd c (by cases b <;> decide)) (fun _ => ?_)
      walk_at "rds"
      refine rd_ixT sa rfl ?_
      refine rd_ref sc ?_
      refine lc_lsT (K := K) (xs := xs) (fun D i acc H' => DpAll K H' acc (dats ((fs.take i).map (low s)))) (fun i acc H1 D u e h => dps_upd e h) (σx := fun y => [some (.ref a), some (.str (sd s)), some (.str (cw b)), none, some y]) sc (by omega) (fun _ => rfl) (fun _ => rfl) (fun D H' _ => .nil) (fun i y hi D acc H' N ex hDa hP kN => ?_) fun D acc H1 e1 eD hD hacc => ?_
      · obtain ⟨g, hg, hdg⟩ := dps_get hx hi
        have hgm := List.mem_of_getElem? hg
        have h1 := dps_ge hgm
        have h2 := nds_ge hgm
        walk_at "rds"
        refine ⟨y, g, s, rfl, dpF_ex ex hdg, by omega, by omega, fun y2 H3 e3 d3 => kN _ _ e3 ?_⟩
        have hD3 := e3 _ _ hDa
        rw [List.take_add_one, hg, List.map_append]
        exact dps_snoc (dps_upd hD3 (dpsF_ex e3 hP)) (dpF_upd hD3 d3)
      rw [lx, List.take_length, ← lows_map] at hacc
      walk_at "rds"
      refine rd_tupL (SqL.of hD) fun t ht => ?_
      have e2 := e1.trans (Evl.Ex.new (o := .tup acc) ht)
      have d2 := dpsF_ex (Evl.Ex.new (o := .tup acc) ht) hacc
      walk_at "rds"
      have fin : ∀ (r : Addr), (upd H1 t (.tup acc)) r = none → Dp K (upd (upd H1 t (.tup acc)) r (.tup [.str (cw (b == s)), .ref t])) (.ref r) (dat (low s (.conn b fs))) := fun r hr0 => by
        have e3 := Evl.Ex.new (o := .tup [V.str (cw (b == s)), .ref t]) hr0
        rw [low]
        exact mk_conn (Evl.ex_t e3 (SqT.of upd_same)) (dpsF_ex e3 d2) (SqT.of upd_same)
      cases s with
      | true =>
        refine rd_ite (fun _ => ?_) (fun c => absurd rfl c)
        walk_at "rds"
        refine ⟨(by show 2 ≤ sizeLine; decide), fun r hr0 => ?_⟩
        have e3 := Evl.Ex.new (o := .tup [V.str (cw b), .ref t]) hr0
        have := fin r hr0
        rw [show (b == true) = b by cases b <;> rfl] at this
        exact q _ _ (e2.trans e3) this
      | false =>
        refine rd_ite (fun c => absurd c (by decide)) (fun _ => ?_)
        walk_at "rds"
        refine ⟨hd, cw b, .str (cw (!b)), rfl, rfl, (by cases b <;> first | exact hH.o | exact hH.a), ?_⟩
        walk_at "rds"
        refine ⟨(by show 2 ≤ sizeLine; decide), fun r hr0 => ?_⟩
        have e3 := Evl.Ex.new (o := .tup [V.str (cw (!b)), .ref t]) hr0
        have := fin r hr0
        rw [show (b == false) = (!b) by cases b <;> rfl] at this
        exact q _ _ (e2.trans e3) this
theorem ok_on {f fS : Addr} {fd fdS : FuncData} {hd : Addr} (F : Fun K "lowered_on" "lowered_on" slowered_on f fd) (T : Bl mg) (FS : Fun K "lowered_same" "lowered_same" slowered_same fS fdS) (hH : Cty K w mg hd)
    (Clowered_on : Callee K mg "lowered_on" f fd ["formula", "side"]) (Clowered_same : Callee K mg "lowered_same" fS fdS ["formula", "side"]) : ∀ m, FnOk P w K mg base CX0 (2 * m + 1) f fd ["formula", "side"] (spOn K m)
  | 0 => ok_on0
  | m + 1 => ok_on1 F T hH (ok_on F T FS hH Clowered_on Clowered_same m) Clowered_on (ok_same1 FS T (ok_on F T FS hH Clowered_on Clowered_same m) Clowered_on) Clowered_same
def spLowered (K : PySem.W.Frag) (m : Nat) : Sp := fun vs H Q _ => ∃ (v : V) (f : Fm), vs = [v] ∧ Dp K H v (dat f) ∧ dp f ≤ m ∧ nd f ≤ 1000 ∧ nn true f ≤ 400 ∧ dd true f ≤ 40 ∧ ∀ (x : V) (H' : Hp), Evl.Ex H H' → Dp K H' x (dat (low true f)) → Q x H'
theorem ok_lowered {f fp fc fs fo : Addr} {fd fdp fdc fds fdo : FuncData} (F : Fun K "lowered" "lowered" slowered f fd) (T : Bl mg) {m : Nat}
    (Gis_plain : FnOk P w K mg base CX0 (m + 1) fp fdp ["formula"] (spPlain K m)) (Cis_plain : Callee K mg "is_plain" fp fdp ["formula"])
    (Gcheck_size : FnOk P w K mg base CX0 1 fc fdc ["size"] (spCheck K)) (Ccheck_size : Callee K mg "check_size" fc fdc ["size"])
    (Glowered_sizes : FnOk P w K mg base CX0 (m + 1) fs fds ["formula"] (spSizes K m)) (Clowered_sizes : Callee K mg "lowered_sizes" fs fds ["formula"])
    (Glowered_on : FnOk P w K mg base CX0 (2 * m + 1) fo fdo ["formula", "side"] (spOn K m)) (Clowered_on : Callee K mg "lowered_on" fo fdo ["formula", "side"]) :
    FnOk P w K mg base CX0 (2 * m + 2) f fd ["formula"] (spLowered K m) := by
  refine F.ok sclowered (fun vs H Q E h => ?_) (fun cdv A outer s H vs Q E hr h => ?_)
  · obtain ⟨v, f, rfl, _⟩ := h
    rfl
  · obtain ⟨v, f, rfl, hv, hm, hn, h1, h2, q⟩ := h
    have hk1 : m + 1 ≤ 2 * m + 1 := by omega
    have hk2 : 1 ≤ 2 * m + 1 := by omega
    refine ⟨_, (pss_cons (ps_if (pt_not (pt_val (pe_call Gis_plain (hr.mono hk1) (by rfl) Cis_plain.m Cis_plain.k Cis_plain.b .nil pass0 (pa_cons (pv 0) pa_nil)))) (pss_one ps_off) pss_nil)
 (pss_cons (ps_expr (pe_call Gcheck_size (hr.mono hk2) (by rfl) Ccheck_size.m Ccheck_size.k Ccheck_size.b .nil pass0 (pa_cons (pe_dget (hu_of hr) (pe_call Glowered_sizes (hr.mono hk1) (by rfl) Clowered_sizes.m Clowered_sizes.k Clowered_sizes.b .nil pass0 (pa_cons (pv 0) pa_nil)) pe_str (fun _ _ => rfl)) pa_nil)))
 (pss_one (ps_ret (pe_call Glowered_on hr (by rfl) Clowered_on.m Clowered_on.k Clowered_on.b .nil pass0 (pa_cons (pv 0) (pa_cons pe_str pa_nil))))))), ?_⟩
    refine rd_start (σ' := [some v]) rfl ?_
    walk_at "rds"
    refine ⟨v, f, rfl, hv, hm, hn, fun H1 e1 => ?_⟩
    refine ⟨true, rfl, ?_⟩
    rw [if_neg (by decide)]
    walk_at "rds"
    refine ⟨v, f, rfl, dpF_ex e1 hv, hm, hn, fun D H2 e2 hD => ?_⟩
    obtain ⟨p, q0, h3, h4, h5⟩ := hD
    walk_at "rds"
    refine ⟨D, .ref p, rfl, DGet.k (k := Sum.inr "yes") h3, ?_⟩
    walk_at "rds"
    refine ⟨p, _, _, rfl, h4, by omega, by omega, ?_⟩
    walk_at "rds"
    exact ⟨v, f, true, rfl, dpF_ex (e1.trans e2) hv, hm, hn, fun x H3 e3 d3 => q _ _ ((e1.trans e2).trans e3) d3⟩
end
end KA
set_option Elab.async false
set_option linter.all false
set_option maxRecDepth 100000
set_option maxHeartbeats 400000
set_option pp.maxSteps 300
namespace KA
open PySem PySem.Spec PyProof.Rows L2 Ea
abbrev s_law_parts_of : Stmt := topS 24
theorem sc_law_parts_of : FnScope ["f"] ["f"] (defScope s_law_parts_of) :=
  ⟨rfl, rfl, rfl, by decide +kernel, rfl, by decide +kernel, by decide +kernel⟩
abbrev s_law_low : Stmt := topS 26
theorem sc_law_low : FnScope ["f", "side", "word", "one", "other", "turned", "own"] ["f", "side"] (defScope s_law_low) :=
  ⟨rfl, rfl, rfl, by decide +kernel, rfl, by decide +kernel, by decide +kernel⟩
abbrev s_law_low_sizes : Stmt := topS 27
theorem sc_law_low_sizes : FnScope ["f", "told", "many", "deep", "found", "side", "own"] ["f"] (defScope s_law_low_sizes) :=
  ⟨rfl, rfl, rfl, by decide +kernel, rfl, by decide +kernel, by decide +kernel⟩
local macro_rules | `(tactic| walk_at "rd") => `(tactic| first
  | (with_reducible refine rd_seq ?_) | (with_reducible refine rd_asg ?_) | (with_reducible refine rd_if ?_) | (with_reducible refine rd_ret ?_) | (with_reducible refine rd_next ?_)
  | (with_reducible refine rd_drop ?_) | ((with_reducible refine rd_name (σ' := ?ss) ?hs ?_); (case hs => (dsimp only [List.set]; exact rfl)))
  | ((with_reducible refine rd_var (v := ?vv) ?hv ?_); (case hv => exact rfl)) | (with_reducible refine rd_c ?_) | (with_reducible refine rd_op ?_) | (with_reducible refine rd_un ?_)
  | (with_reducible refine rd_I0 ?_) | (with_reducible refine rd_U ?_) | (with_reducible refine rd_test ?_) | (with_reducible refine rd_B ?_) | (with_reducible refine rd_k ?_)
  | (with_reducible refine rd_not ?_) | (with_reducible refine rd_and ?_) | (with_reducible refine rd_or ?_) | (with_reducible refine rd_ifE ?_)
  | (with_reducible refine rd_par ?_) | ((with_reducible refine rd_par2 (σ' := ?ss) ?hs ?_); (case hs => (dsimp only [List.set]; exact rfl)))
  | (with_reducible refine rd_gsub ?_) | (with_reducible refine rd_andV ?_) | (with_reducible refine rd_orV ?_) | (with_reducible refine rd_notV ?_)
  | (with_reducible refine rd_lc ?_) | (with_reducible refine rd_iTup ?_) | (with_reducible refine rd_iList ?_) | (with_reducible refine rd_iRng1 ?_) | (with_reducible refine rd_iRng2 ?_) | (with_reducible refine rd_iEnumT ?_) | (with_reducible refine rd_iEnum ?_) | (with_reducible refine rd_iZipM ?_) | (with_reducible refine rd_iEnumS ?_) | (with_reducible refine rd_iKeys ?_) | (with_reducible refine rd_din ?_) | (with_reducible refine rd_dnotin ?_)
  | (with_reducible refine rd_yes ?_) | (with_reducible refine rd_true ?_) | (with_reducible refine rd_false ?_) | (with_reducible refine rd_m1 ?_) | (with_reducible refine rd_isS ?_)
  | ((with_reducible refine rd_eq ?hs ?_); (case hs => exact rfl)) | ((with_reducible refine rd_ne ?hs ?_); (case hs => exact rfl))
  | (with_reducible refine rd_listRg ?_) | (with_reducible refine rd_rg2 ?_) | (with_reducible refine rd_rgk ?_)
  | (with_reducible refine rd_dnew ?_) | (with_reducible refine rd_ddel ?_) | (with_reducible refine rd_kw ?_) | (with_reducible refine rd_callS ?_) | (with_reducible refine rd_dc ?_) | (with_reducible refine rd_for ?_) | (with_reducible refine rd_tru ?_) | (with_reducible refine rd_truI ?_)
  | (with_reducible refine rd_nil ?_) | (with_reducible refine rd_cons ?_) | (with_reducible refine rd_call ?_) | (with_reducible refine rd_cb ?_)
  | (with_reducible refine rd_tup ?_) | (with_reducible refine rd_lst ?_) | (with_reducible refine rd_dget ?_) | (with_reducible refine rd_dput ?_) | (with_reducible refine rd_dget2 ?_) | (with_reducible refine rd_sl ?_)
  | (with_reducible refine rd_nopart ?_) | (with_reducible refine rd_part ?_) | (with_reducible refine rd_parti ?_) | (with_reducible refine rd_bm ?_) | (with_reducible refine rd_bm0 ?_)
  | (with_reducible refine rd_int ?_) | (with_reducible refine rd_intb ?_) | (with_reducible refine rd_abs ?_) | (with_reducible refine rd_min2 ?_) | (with_reducible refine rd_max2 ?_))
local macro_rules | `(tactic| walk_at "rds") => `(tactic| repeat (walk_at "rd"))
local macro_rules | `(tactic| walk_at "rq") => `(tactic| first
  | (with_reducible refine rd_seq ?_) | (with_reducible refine rd_asg ?_) | (with_reducible refine rd_ret ?_) | (with_reducible refine rd_next ?_)
  | (with_reducible refine rd_drop ?_) | ((with_reducible refine rd_name (σ' := ?ss) ?hs ?_); (case hs => (dsimp only [List.set]; exact rfl)))
  | ((with_reducible refine rd_var (v := ?vv) ?hv ?_); (case hv => exact rfl)) | (with_reducible refine rd_c ?_) | (with_reducible refine rd_op ?_) | (with_reducible refine rd_un ?_)
  | (with_reducible refine rd_I0 ?_) | (with_reducible refine rd_U ?_) | (with_reducible refine rd_test ?_) | (with_reducible refine rd_B ?_) | (with_reducible refine rd_k ?_)
  | (with_reducible refine rd_not ?_) | (with_reducible refine rd_and ?_) | (with_reducible refine rd_or ?_) | (with_reducible refine rd_ifE ?_)
  | (with_reducible refine rd_par ?_) | ((with_reducible refine rd_par2 (σ' := ?ss) ?hs ?_); (case hs => (dsimp only [List.set]; exact rfl)))
  | (with_reducible refine rd_gsub ?_) | (with_reducible refine rd_andV ?_) | (with_reducible refine rd_orV ?_) | (with_reducible refine rd_notV ?_)
  | (with_reducible refine rd_lc ?_) | (with_reducible refine rd_iTup ?_) | (with_reducible refine rd_iList ?_) | (with_reducible refine rd_iRng1 ?_) | (with_reducible refine rd_iRng2 ?_) | (with_reducible refine rd_iEnumT ?_) | (with_reducible refine rd_iEnum ?_) | (with_reducible refine rd_iZipM ?_) | (with_reducible refine rd_iEnumS ?_) | (with_reducible refine rd_iKeys ?_) | (with_reducible refine rd_din ?_) | (with_reducible refine rd_dnotin ?_)
  | (with_reducible refine rd_yes ?_) | (with_reducible refine rd_true ?_) | (with_reducible refine rd_false ?_) | (with_reducible refine rd_m1 ?_) | (with_reducible refine rd_isS ?_)
  | ((with_reducible refine rd_eq ?hs ?_); (case hs => exact rfl)) | ((with_reducible refine rd_ne ?hs ?_); (case hs => exact rfl))
  | (with_reducible refine rd_listRg ?_) | (with_reducible refine rd_rg2 ?_) | (with_reducible refine rd_rgk ?_)
  | (with_reducible refine rd_dnew ?_) | (with_reducible refine rd_ddel ?_) | (with_reducible refine rd_kw ?_) | (with_reducible refine rd_callS ?_) | (with_reducible refine rd_dc ?_) | (with_reducible refine rd_for ?_) | (with_reducible refine rd_tru ?_) | (with_reducible refine rd_truI ?_)
  | (with_reducible refine rd_nil ?_) | (with_reducible refine rd_cons ?_) | (with_reducible refine rd_call ?_) | (with_reducible refine rd_cb ?_)
  | (with_reducible refine rd_tup ?_) | (with_reducible refine rd_lst ?_) | (with_reducible refine rd_dget ?_) | (with_reducible refine rd_dput ?_) | (with_reducible refine rd_dget2 ?_) | (with_reducible refine rd_sl ?_)
  | (with_reducible refine rd_nopart ?_) | (with_reducible refine rd_part ?_) | (with_reducible refine rd_parti ?_) | (with_reducible refine rd_bm ?_) | (with_reducible refine rd_bm0 ?_)
  | (with_reducible refine rd_int ?_) | (with_reducible refine rd_intb ?_) | (with_reducible refine rd_abs ?_) | (with_reducible refine rd_min2 ?_) | (with_reducible refine rd_max2 ?_))
local macro_rules | `(tactic| walk_at "rqs") => `(tactic| repeat (walk_at "rq"))
local macro_rules | `(tactic| walk_at "rv") => `(tactic| first
  | (with_reducible refine rd_seq ?_) | (with_reducible refine rd_asg ?_) | (with_reducible refine rd_ret ?_) | (with_reducible refine rd_next ?_)
  | (with_reducible refine rd_drop ?_) | ((with_reducible refine rd_name (σ' := ?ss) ?hs ?_); (case hs => (dsimp only [List.set]; exact rfl)))
  | ((with_reducible refine rd_var (v := ?vv) ?hv ?_); (case hv => exact rfl)) | (with_reducible refine rd_c ?_) | (with_reducible refine rd_op ?_) | (with_reducible refine rd_un ?_)
  | (with_reducible refine rd_I0 ?_) | (with_reducible refine rd_U ?_) | (with_reducible refine rd_test ?_) | (with_reducible refine rd_B ?_) | (with_reducible refine rd_k ?_)
  | (with_reducible refine rd_not ?_) | (with_reducible refine rd_and ?_) | (with_reducible refine rd_or ?_)
  | (with_reducible refine rd_par ?_) | ((with_reducible refine rd_par2 (σ' := ?ss) ?hs ?_); (case hs => (dsimp only [List.set]; exact rfl)))
  | (with_reducible refine rd_gsub ?_) | (with_reducible refine rd_andV ?_) | (with_reducible refine rd_orV ?_) | (with_reducible refine rd_notV ?_)
  | (with_reducible refine rd_lc ?_) | (with_reducible refine rd_iTup ?_) | (with_reducible refine rd_iList ?_) | (with_reducible refine rd_iRng1 ?_) | (with_reducible refine rd_iRng2 ?_) | (with_reducible refine rd_iEnumT ?_) | (with_reducible refine rd_iEnum ?_) | (with_reducible refine rd_iZipM ?_) | (with_reducible refine rd_iEnumS ?_) | (with_reducible refine rd_iKeys ?_) | (with_reducible refine rd_din ?_) | (with_reducible refine rd_dnotin ?_)
  | (with_reducible refine rd_yes ?_) | (with_reducible refine rd_true ?_) | (with_reducible refine rd_false ?_) | (with_reducible refine rd_m1 ?_) | (with_reducible refine rd_isS ?_)
  | ((with_reducible refine rd_eq ?hs ?_); (case hs => exact rfl)) | ((with_reducible refine rd_ne ?hs ?_); (case hs => exact rfl))
  | (with_reducible refine rd_listRg ?_) | (with_reducible refine rd_rg2 ?_) | (with_reducible refine rd_rgk ?_)
  | (with_reducible refine rd_dnew ?_) | (with_reducible refine rd_ddel ?_) | (with_reducible refine rd_kw ?_) | (with_reducible refine rd_callS ?_) | (with_reducible refine rd_dc ?_) | (with_reducible refine rd_for ?_) | (with_reducible refine rd_tru ?_) | (with_reducible refine rd_truI ?_)
  | (with_reducible refine rd_nil ?_) | (with_reducible refine rd_cons ?_) | (with_reducible refine rd_call ?_) | (with_reducible refine rd_cb ?_)
  | (with_reducible refine rd_tup ?_) | (with_reducible refine rd_lst ?_) | (with_reducible refine rd_dget ?_) | (with_reducible refine rd_dput ?_) | (with_reducible refine rd_dget2 ?_) | (with_reducible refine rd_sl ?_)
  | (with_reducible refine rd_nopart ?_) | (with_reducible refine rd_part ?_) | (with_reducible refine rd_parti ?_) | (with_reducible refine rd_bm ?_) | (with_reducible refine rd_bm0 ?_)
  | (with_reducible refine rd_int ?_) | (with_reducible refine rd_intb ?_) | (with_reducible refine rd_abs ?_) | (with_reducible refine rd_min2 ?_) | (with_reducible refine rd_max2 ?_))
local macro_rules | `(tactic| walk_at "rvs") => `(tactic| repeat (walk_at "rv"))

theorem kids_dp {f g : Fm} {m : Nat} (hm : dp f ≤ m + 1) (hg : g ∈ kids f) : dp g ≤ m := by
  cases f with
  | letter z => cases hg
  | no f =>
    rw [List.mem_singleton.mp hg]
    rw [dp] at hm
    omega
  | conn b fs =>
    have := dps_ge (show g ∈ fs from hg)
    rw [dp] at hm
    omega
  | same f g2 =>
    rw [dp] at hm
    have hg : g ∈ [f, g2] := hg
    simp only [List.mem_cons, List.not_mem_nil, or_false] at hg
    rcases hg with rfl | rfl <;> omega
theorem dp_word {K : PySem.W.Frag} {H : Hp} {v : V} {f : Fm} (hv : Dp K H v (dat f)) : ∃ a x t, v = .ref a ∧ SqT K H a (.str (wd f) :: x :: t) := by
  cases f with
  | letter z =>
    obtain ⟨a, rfl, sa⟩ := dp_letter hv
    exact ⟨a, _, _, rfl, sa⟩
  | no f =>
    obtain ⟨a, x, rfl, sa, hx⟩ := dp_no hv
    exact ⟨a, _, _, rfl, sa⟩
  | conn b fs =>
    obtain ⟨a, c, xs, rfl, sa, sc, hx⟩ := dp_conn hv
    exact ⟨a, _, _, rfl, sa⟩
  | same f g =>
    obtain ⟨a, x, y, rfl, sa, hx, hy⟩ := dp_same hv
    exact ⟨a, _, _, rfl, sa⟩
theorem wd_letter {f : Fm} (c : V.str (wd f) = V.str "letter") : ∃ z, f = .letter z := by
  cases f with
  | letter z => exact ⟨z, rfl⟩
  | no f => exact absurd c (by simp only [wd]; decide)
  | conn b fs => exact absurd c (by cases b <;> (simp only [wd, cw]; decide))
  | same f g => exact absurd c (by simp only [wd]; decide)
theorem wd_no {f : Fm} (c : V.str (wd f) = V.str "not") : ∃ g, f = .no g := by
  cases f with
  | letter z => exact absurd c (by simp only [wd]; decide)
  | no f => exact ⟨f, rfl⟩
  | conn b fs => exact absurd c (by cases b <;> (simp only [wd, cw]; decide))
  | same f g => exact absurd c (by simp only [wd]; decide)
theorem wd_same {f : Fm} (c : V.str (wd f) = V.str "same") : ∃ g g2, f = .same g g2 := by
  cases f with
  | letter z => exact absurd c (by simp only [wd]; decide)
  | no f => exact absurd c (by simp only [wd]; decide)
  | conn b fs => exact absurd c (by cases b <;> (simp only [wd, cw]; decide))
  | same f g => exact ⟨f, g, rfl⟩
theorem rd_revL {K : PySem.W.Frag} {te : TE} {σ : L2.St} {H : Hp} {Q : VK} (h : te σ H fun x H1 => ∃ a xs, x = .ref a ∧ SqL K H1 a xs ∧ ∀ p, H1 p = none → Q (.ref p) (upd H1 p (.lst xs.reverse))) : tRevL K te σ H Q := h
theorem max_dds {s : Bool} {fs : List Fm} {m : Int} (hm : m ∈ (0 : Int) :: fs.map fun g => (dd s g : Int)) (hall : ∀ y, y ∈ (0 : Int) :: fs.map (fun g => (dd s g : Int)) → y ≤ m) : m = (dds s fs : Int) := by
  have h1 : m ≤ (dds s fs : Int) := by
    rcases List.mem_cons.mp hm with rfl | hm
    · omega
    · obtain ⟨p, hp, rfl⟩ := List.mem_map.mp hm
      have := dds_ge (s := s) hp
      omega
  have h2 : (dds s fs : Int) ≤ m := by
    rcases dds_at (s := s) (fs := fs) with e | ⟨p, hp, e⟩
    · rw [e]
      exact hall 0 List.mem_cons_self
    · rw [e]
      exact hall _ (List.mem_cons_of_mem _ (List.mem_map.mpr ⟨p, hp, rfl⟩))
  omega
theorem sum_nns (s : Bool) (fs : List Fm) : (fs.map fun g => (nn s g : Int)).sum = (nns s fs : Int) := by
  induction fs with
  | nil => rfl
  | cons a t ih => rw [List.map_cons, List.sum_cons, ih, nns] <;> omega
theorem max_if (a b : Nat) : (if (b : Int) > (a : Int) then (b : Int) else (a : Int)) = ((max a b : Nat) : Int) := by split <;> omega
section
variable {P : Program} {w : World} {K : PySem.W.Frag} {mg : Str → Option Value} {base : Heap}
theorem ok_lparts {f : Addr} {fd : FuncData} (F : Fun K "_law_parts_of" "_law_parts_of" s_law_parts_of f fd) (T : Bl mg) : FnOk P w K mg base CX0 1 f fd ["f"] (spPartsOf K) := by
  refine F.ok sc_law_parts_of (fun vs H Q E h => ?_) (fun cdv A outer s H vs Q E hr h => ?_)
  · obtain ⟨v, f, rfl, _⟩ := h
    rfl
  · obtain ⟨v, f, rfl, hv, q⟩ := h
    refine ⟨_, (pss_cons (ps_if (pt_cmpR op_eq (pe_ix (ik_tup (K := K) rfl) (pv 0) pe_int (fun _ _ => rfl)) pe_str (nomark _)) (pss_one (ps_ret (pe_tup pa_nil))) pss_nil)
 (pss_cons (ps_if (pt_cmpR (ok_in (K := K) rfl) (pe_ix (ik_tup (K := K) rfl) (pv 0) pe_int (fun _ _ => rfl)) (pe_tup (pa_cons pe_str (pa_cons pe_str pa_nil))) (by rfl)) (pss_one (ps_ret (pe_ix (ik_tup (K := K) rfl) (pv 0) pe_int (fun _ _ => rfl)))) pss_nil)
 (pss_one (ps_ret (pe_ifExp (pt_cmpR (ok_in (K := K) rfl) (pe_ix (ik_tup (K := K) rfl) (pv 0) pe_int (fun _ _ => rfl)) (pe_tup (pa_cons pe_str (pa_cons pe_str pa_nil))) (by rfl)) (pe_slice (sk_tup (K := K) rfl) (pv 0) (po_some pe_int) po_none) (pe_slice (sk_tup (K := K) rfl) (pv 0) (po_some pe_int) po_none)))))), ?_⟩
    refine rd_start (σ' := [some v]) rfl ?_
    cases f with
    | letter z =>
      obtain ⟨a, rfl, sa⟩ := dp_letter hv
      walk_at "rds"
      refine rd_ixT sa rfl ?_
      walk_at "rds"
      refine rd_ite (fun _ => ?_) (fun c => absurd rfl c)
      walk_at "rds"
      refine ⟨Nat.zero_le _, fun t ht => ?_⟩
      exact q t [] _ (Evl.Ex.new ht) (SqT.of upd_same) .nil
    | no f =>
      obtain ⟨a, x, rfl, sa, hx⟩ := dp_no hv
      walk_at "rds"
      refine rd_ixT sa rfl ?_
      walk_at "rds"
      refine rd_ite (fun c => absurd c (by decide)) (fun _ => ?_)
      walk_at "rds"
      refine rd_ixT sa rfl ?_
      walk_at "rds"
      refine ⟨(by show 2 ≤ sizeLine; decide), fun t ht => ?_⟩
      have e1 := Evl.Ex.new (o := .tup [V.str "and", .str "or"]) ht
      refine rd_inS (zs := ["and", "or"]) (SqT.of upd_same) ?_
      refine rd_bno (by decide) ?_
      walk_at "rds"
      refine rd_ixT (Evl.ex_t e1 sa) rfl ?_
      walk_at "rds"
      refine ⟨(by show 2 ≤ sizeLine; decide), fun t2 ht2 => ?_⟩
      have e2 := Evl.Ex.new (o := .tup [V.str "not", .str "same"]) ht2
      refine rd_inS (zs := ["not", "same"]) (SqT.of upd_same) ?_
      refine rd_byes (by decide) ?_
      walk_at "rds"
      refine rd_slT (Evl.ex_t (e1.trans e2) sa) fun p H1 e3 s1 => ?_
      have e := (e1.trans e2).trans e3
      exact q p _ _ e s1 (.cons (dpF_ex e hx) .nil)
    | conn b fs =>
      obtain ⟨a, c, xs, rfl, sa, sc, hx⟩ := dp_conn hv
      walk_at "rds"
      refine rd_ixT sa rfl ?_
      walk_at "rds"
      refine rd_ite (fun c => absurd c (by cases b <;> decide)) (fun _ => ?_)
      walk_at "rds"
      refine rd_ixT sa rfl ?_
      walk_at "rds"
      refine ⟨(by show 2 ≤ sizeLine; decide), fun t ht => ?_⟩
      have e1 := Evl.Ex.new (o := .tup [V.str "and", .str "or"]) ht
      refine rd_inS (zs := ["and", "or"]) (SqT.of upd_same) ?_
      refine rd_byes (by cases b <;> decide) ?_
      walk_at "rds"
      refine rd_ixT (Evl.ex_t e1 sa) rfl ?_
      exact q c xs _ e1 (Evl.ex_t e1 sc) (dpsF_ex e1 hx)
    | same f g =>
      obtain ⟨a, x, y, rfl, sa, hx, hy⟩ := dp_same hv
      walk_at "rds"
      refine rd_ixT sa rfl ?_
      walk_at "rds"
      refine rd_ite (fun c => absurd c (by decide)) (fun _ => ?_)
      walk_at "rds"
      refine rd_ixT sa rfl ?_
      walk_at "rds"
      refine ⟨(by show 2 ≤ sizeLine; decide), fun t ht => ?_⟩
      have e1 := Evl.Ex.new (o := .tup [V.str "and", .str "or"]) ht
      refine rd_inS (zs := ["and", "or"]) (SqT.of upd_same) ?_
      refine rd_bno (by decide) ?_
      walk_at "rds"
      refine rd_ixT (Evl.ex_t e1 sa) rfl ?_
      walk_at "rds"
      refine ⟨(by show 2 ≤ sizeLine; decide), fun t2 ht2 => ?_⟩
      have e2 := Evl.Ex.new (o := .tup [V.str "not", .str "same"]) ht2
      refine rd_inS (zs := ["not", "same"]) (SqT.of upd_same) ?_
      refine rd_byes (by decide) ?_
      walk_at "rds"
      refine rd_slT (Evl.ex_t (e1.trans e2) sa) fun p H1 e3 s1 => ?_
      have e := (e1.trans e2).trans e3
      exact q p _ _ e s1 (.cons (dpF_ex e hx) (.cons (dpF_ex e hy) .nil))
def spLow (K : PySem.W.Frag) (m : Nat) : Sp := fun vs H Q _ => ∃ (v : V) (f : Fm) (s : Bool), vs = [v, .bl s] ∧ Dp K H v (dat f) ∧ dp f ≤ m ∧ nd f ≤ 1000 ∧ ∀ (x : V) (H' : Hp), Evl.Ex H H' → Dp K H' x (dat (low s f)) → Q x H'
theorem ok_low1 {f : Addr} {fd : FuncData} (F : Fun K "_law_low" "_law_low" s_law_low f fd) (T : Bl mg) {m k : Nat}
    (G_law_low : FnOk P w K mg base CX0 k f fd ["f", "side"] (spLow K m)) (C_law_low : Callee K mg "_law_low" f fd ["f", "side"]) : FnOk P w K mg base CX0 (k + 1) f fd ["f", "side"] (spLow K (m + 1)) := by
  refine F.ok sc_law_low (fun vs H Q E h => ?_) (fun cdv A outer s H vs Q E hr h => ?_)
  · obtain ⟨v, f, s, rfl, _⟩ := h
    rfl
  · obtain ⟨v, f, s, rfl, hv, hm, hn, q⟩ := h
    refine ⟨_, (pss_cons (ps_set (i := 2) sc_law_low.nd rfl (Or.inl rfl) (pe_ix (ik_tup (K := K) rfl) (pv 0) pe_int (fun _ _ => rfl)))
 (pss_cons (ps_if (pt_cmpR op_eq (pv 2) pe_str (nomark _)) (pss_one (ps_ret (pe_ifExp (pt_val (pv 1)) (pv 0) (pe_tup (pa_cons pe_str (pa_cons (pv 0) pa_nil)))))) pss_nil)
 (pss_cons (ps_if (pt_cmpR op_eq (pv 2) pe_str (nomark _)) (pss_one (ps_ret (pe_call G_law_low hr (by rfl) C_law_low.m C_law_low.k C_law_low.b .nil pass0 (pa_cons (pe_ix (ik_tup (K := K) rfl) (pv 0) pe_int (fun _ _ => rfl)) (pa_cons (pe_not (pv 1)) pa_nil))))) pss_nil)
 (pss_cons (ps_if (pt_cmpR op_eq (pv 2) pe_str (nomark _)) (pss_cons (ps_par (i := 3) (j := 4) rfl sc_law_low.nd rfl rfl (by decide) rfl rfl (pa_cons (pe_lst (pa_cons (pe_call G_law_low hr (by rfl) C_law_low.m C_law_low.k C_law_low.b .nil pass0 (pa_cons (pe_ix (ik_tup (K := K) rfl) (pv 0) pe_int (fun _ _ => rfl)) (pa_cons pe_bl pa_nil))) (pa_cons (pe_call G_law_low hr (by rfl) C_law_low.m C_law_low.k C_law_low.b .nil pass0 (pa_cons (pe_ix (ik_tup (K := K) rfl) (pv 0) pe_int (fun _ _ => rfl)) (pa_cons pe_bl pa_nil))) pa_nil))) (pa_cons (pe_lst (pa_cons (pe_call G_law_low hr (by rfl) C_law_low.m C_law_low.k C_law_low.b .nil pass0 (pa_cons (pe_ix (ik_tup (K := K) rfl) (pv 0) pe_int (fun _ _ => rfl)) (pa_cons pe_bl pa_nil))) (pa_cons (pe_call G_law_low hr (by rfl) C_law_low.m C_law_low.k C_law_low.b .nil pass0 (pa_cons (pe_ix (ik_tup (K := K) rfl) (pv 0) pe_int (fun _ _ => rfl)) (pa_cons pe_bl pa_nil))) pa_nil))) pa_nil)) (by rfl))
 (pss_cons (ps_if (pt_val (pv 1)) (pss_one (ps_ret (pe_tup (pa_cons pe_str (pa_cons (pe_tup (pa_cons (pe_tup (pa_cons pe_str (pa_cons (pe_tup (pa_cons (pe_ix (ik_list (K := K) rfl) (pv 3) pe_int (fun _ _ => rfl)) (pa_cons (pe_ix (ik_list (K := K) rfl) (pv 4) pe_int (fun _ _ => rfl)) pa_nil))) pa_nil))) (pa_cons (pe_tup (pa_cons pe_str (pa_cons (pe_tup (pa_cons (pe_ix (ik_list (K := K) rfl) (pv 3) pe_int (fun _ _ => rfl)) (pa_cons (pe_ix (ik_list (K := K) rfl) (pv 4) pe_int (fun _ _ => rfl)) pa_nil))) pa_nil))) pa_nil))) pa_nil))))) pss_nil)
 (pss_one (ps_ret (pe_tup (pa_cons pe_str (pa_cons (pe_tup (pa_cons (pe_tup (pa_cons pe_str (pa_cons (pe_tup (pa_cons (pe_ix (ik_list (K := K) rfl) (pv 3) pe_int (fun _ _ => rfl)) (pa_cons (pe_ix (ik_list (K := K) rfl) (pv 4) pe_int (fun _ _ => rfl)) pa_nil))) pa_nil))) (pa_cons (pe_tup (pa_cons pe_str (pa_cons (pe_tup (pa_cons (pe_ix (ik_list (K := K) rfl) (pv 3) pe_int (fun _ _ => rfl)) (pa_cons (pe_ix (ik_list (K := K) rfl) (pv 4) pe_int (fun _ _ => rfl)) pa_nil))) pa_nil))) pa_nil))) pa_nil))))))) pss_nil)
 (pss_cons (ps_set (i := 5) sc_law_low.nd rfl (Or.inl rfl) (pe_ifExp (pt_cmpR op_eq (pv 2) pe_str (nomark _)) pe_str pe_str))
 (pss_one (ps_ret (pe_tup (pa_cons (pe_ifExp (pt_val (pv 1)) (pv 2) (pv 5)) (pa_cons (pe_callTy (c_tuple (K := K) rfl) (by rfl) T.tuple (by decide +kernel) (pa_cons (pe_lc (own := [("own", 6)]) (g := gName 6) rfl sc_law_low.nd (ik_tupI (K := K) rfl (pe_ix (ik_tup (K := K) rfl) (pv 0) pe_int (fun _ _ => rfl))) (blkOk_by (own := [("own", 6)]) (N := ["f", "side", "word", "one", "other", "turned", "own"]) (sc := defScope s_law_low) (by decide +kernel)) (fun _ _ _ _ _ => (pg_name (i := 6) sc_law_low.nd rfl (Or.inl rfl))) (fun _ _ _ _ _ => pts_nil) (fun _ _ _ _ _ => (pe_call G_law_low hr (by rfl) C_law_low.m C_law_low.k C_law_low.b .nil pass0 (pa_cons (pv 6) (pa_cons (pv 1) pa_nil))))) pa_nil)) pa_nil)))))))))), ?_⟩
    refine rd_start (σ' := [some v, some (.bl s), none, none, none, none, none]) rfl ?_
    cases f with
    | letter z =>
      obtain ⟨a, rfl, sa⟩ := dp_letter hv
      walk_at "rds"
      refine rd_ixT sa rfl ?_
      walk_at "rds"
      refine rd_ite (fun _ => ?_) (fun c => absurd rfl c)
      walk_at "rds"
      refine rd_iteb (fun c => ?_) (fun c => ?_)
      · subst c
        walk_at "rds"
        exact q _ _ (Evl.Ex.refl _) hv
      · subst c
        walk_at "rds"
        refine ⟨(by show 2 ≤ sizeLine; decide), fun r hr0 => ?_⟩
        have e1 := Evl.Ex.new (o := .tup [V.str "not", .ref a]) hr0
        exact q _ _ e1 (mk_no (SqT.of upd_same) (dpF_ex e1 hv))
    | no f =>
      obtain ⟨a, x, rfl, sa, hx⟩ := dp_no hv
      rw [dp] at hm
      rw [nd] at hn
      walk_at "rds"
      refine rd_ixT sa rfl ?_
      walk_at "rds"
      refine rd_ite (fun c => absurd c (by decide)) (fun _ => ?_)
      walk_at "rds"
      refine rd_ite (fun _ => ?_) (fun c => absurd rfl c)
      walk_at "rds"
      refine rd_ixT sa rfl ?_
      walk_at "rds"
      exact ⟨x, f, !s, rfl, hx, by omega, by omega, fun y H1 e1 d1 => q _ _ e1 (by rw [low]; exact d1)⟩
    | same f g =>
      obtain ⟨a, x, y, rfl, sa, hx, hy⟩ := dp_same hv
      rw [dp] at hm
      rw [nd] at hn
      walk_at "rds"
      refine rd_ixT sa rfl ?_
      walk_at "rds"
      refine rd_ite (fun c => absurd c (by decide)) (fun _ => ?_)
      walk_at "rds"
      refine rd_ite (fun c => absurd c (by decide)) (fun _ => ?_)
      walk_at "rds"
      refine rd_ite (fun _ => ?_) (fun c => absurd rfl c)
      walk_at "rds"
      refine rd_ixT sa rfl ?_
      walk_at "rds"
      refine ⟨x, f, false, rfl, hx, by omega, by omega, fun x0 H1 e1 d1 => ?_⟩
      walk_at "rds"
      refine rd_ixT (Evl.ex_t e1 sa) rfl ?_
      walk_at "rds"
      refine ⟨x, f, true, rfl, dpF_ex e1 hx, by omega, by omega, fun x1 H2 e2 d2 => ?_⟩
      walk_at "rds"
      refine ⟨(by show 2 ≤ sizeLine; decide), fun l1 hl1 => ?_⟩
      have e3 := (e1.trans e2).trans (Evl.Ex.new (o := .lst [x0, x1]) hl1)
      have b3 := Evl.Ex.new (o := .lst [x0, x1]) hl1
      walk_at "rds"
      refine rd_ixT (Evl.ex_t e3 sa) rfl ?_
      walk_at "rds"
      refine ⟨y, g, false, rfl, dpF_ex e3 hy, by omega, by omega, fun y0 H3 e4 d3 => ?_⟩
      walk_at "rds"
      refine rd_ixT (Evl.ex_t (e3.trans e4) sa) rfl ?_
      walk_at "rds"
      refine ⟨y, g, true, rfl, dpF_ex (e3.trans e4) hy, by omega, by omega, fun y1 H4 e5 d4 => ?_⟩
      walk_at "rds"
      refine ⟨(by show 2 ≤ sizeLine; decide), fun l2 hl2 => ?_⟩
      have b6 := Evl.Ex.new (o := .lst [y0, y1]) hl2
      have e6 := (e3.trans (e4.trans e5)).trans b6
      have hl1' := b6 _ _ (e5 _ _ (e4 _ _ (upd_same (H := H2) (a := l1) (o := .lst [x0, x1]))))
      have hl2' : (upd H4 l2 (.lst [y0, y1])) l2 = some (.lst [y0, y1]) := upd_same
      have d1 := dpF_ex ((e2.trans b3).trans ((e4.trans e5).trans b6)) d1
      have d2 := dpF_ex (b3.trans ((e4.trans e5).trans b6)) d2
      have d3 := dpF_ex (e5.trans b6) d3
      have d4 := dpF_ex b6 d4
      refine ⟨.ref l1, .ref l2, rfl, ?_⟩
      walk_at "rds"
      refine rd_iteb (fun c => ?_) (fun c => ?_)
      · subst c
        walk_at "rds"
        refine rd_ixL (x := x0) (SqL.of hl1') (atI_nat (j := 0) rfl) ?_
        walk_at "rds"
        refine rd_ixL (x := y1) (SqL.of hl2') (atI_nat (j := 1) rfl) ?_
        walk_at "rds"
        refine ⟨(by show 2 ≤ sizeLine; decide), fun r1 hr1 => ?_⟩
        have a1 := Evl.Ex.new (o := .tup [x0, y1]) hr1
        walk_at "rds"
        refine ⟨(by show 2 ≤ sizeLine; decide), fun r2 hr2 => ?_⟩
        have a2 := Evl.Ex.new (o := .tup [V.str "or", .ref r1]) hr2
        have a12 := a1.trans a2
        have k1 : Dp K _ (.ref r2) (dat (.conn false [low (!true) f, low true g])) := mk_conn (b := false) (Evl.ex_t a2 (SqT.of upd_same)) (.cons (dpF_ex a12 d1) (.cons (dpF_ex a12 d4) .nil)) (SqT.of upd_same)
        walk_at "rds"
        refine rd_ixL (x := x1) (SqL.of (a12 _ _ hl1')) (atI_nat (j := 1) rfl) ?_
        walk_at "rds"
        refine rd_ixL (x := y0) (SqL.of (a12 _ _ hl2')) (atI_nat (j := 0) rfl) ?_
        walk_at "rds"
        refine ⟨(by show 2 ≤ sizeLine; decide), fun r3 hr3 => ?_⟩
        have a3 := Evl.Ex.new (o := .tup [x1, y0]) hr3
        walk_at "rds"
        refine ⟨(by show 2 ≤ sizeLine; decide), fun r4 hr4 => ?_⟩
        have a4 := Evl.Ex.new (o := .tup [V.str "or", .ref r3]) hr4
        have a34 := a3.trans a4
        have k2 : Dp K _ (.ref r4) (dat (.conn false [low true f, low false g])) := mk_conn (b := false) (Evl.ex_t a4 (SqT.of upd_same)) (.cons (dpF_ex (a12.trans a34) d2) (.cons (dpF_ex (a12.trans a34) d3) .nil)) (SqT.of upd_same)
        walk_at "rds"
        refine ⟨(by show 2 ≤ sizeLine; decide), fun r5 hr5 => ?_⟩
        have a5 := Evl.Ex.new (o := .tup [V.ref r2, .ref r4]) hr5
        walk_at "rds"
        refine ⟨(by show 2 ≤ sizeLine; decide), fun r6 hr6 => ?_⟩
        have a6 := Evl.Ex.new (o := .tup [V.str "and", .ref r5]) hr6
        have a56 := a5.trans a6
        refine q _ _ (e6.trans (a12.trans (a34.trans a56))) ?_
        rw [low]
        exact mk_conn (b := true) (Evl.ex_t a6 (SqT.of upd_same)) (.cons (dpF_ex (a34.trans a56) k1) (.cons (dpF_ex a56 k2) .nil)) (SqT.of upd_same)
      · subst c
        walk_at "rds"
        refine rd_ixL (x := x1) (SqL.of hl1') (atI_nat (j := 1) rfl) ?_
        walk_at "rds"
        refine rd_ixL (x := y1) (SqL.of hl2') (atI_nat (j := 1) rfl) ?_
        walk_at "rds"
        refine ⟨(by show 2 ≤ sizeLine; decide), fun r1 hr1 => ?_⟩
        have a1 := Evl.Ex.new (o := .tup [x1, y1]) hr1
        walk_at "rds"
        refine ⟨(by show 2 ≤ sizeLine; decide), fun r2 hr2 => ?_⟩
        have a2 := Evl.Ex.new (o := .tup [V.str "or", .ref r1]) hr2
        have a12 := a1.trans a2
        have k1 : Dp K _ (.ref r2) (dat (.conn false [low (!false) f, low true g])) := mk_conn (b := false) (Evl.ex_t a2 (SqT.of upd_same)) (.cons (dpF_ex a12 d2) (.cons (dpF_ex a12 d4) .nil)) (SqT.of upd_same)
        walk_at "rds"
        refine rd_ixL (x := x0) (SqL.of (a12 _ _ hl1')) (atI_nat (j := 0) rfl) ?_
        walk_at "rds"
        refine rd_ixL (x := y0) (SqL.of (a12 _ _ hl2')) (atI_nat (j := 0) rfl) ?_
        walk_at "rds"
        refine ⟨(by show 2 ≤ sizeLine; decide), fun r3 hr3 => ?_⟩
        have a3 := Evl.Ex.new (o := .tup [x0, y0]) hr3
        walk_at "rds"
        refine ⟨(by show 2 ≤ sizeLine; decide), fun r4 hr4 => ?_⟩
        have a4 := Evl.Ex.new (o := .tup [V.str "or", .ref r3]) hr4
        have a34 := a3.trans a4
        have k2 : Dp K _ (.ref r4) (dat (.conn false [low false f, low false g])) := mk_conn (b := false) (Evl.ex_t a4 (SqT.of upd_same)) (.cons (dpF_ex (a12.trans a34) d1) (.cons (dpF_ex (a12.trans a34) d3) .nil)) (SqT.of upd_same)
        walk_at "rds"
        refine ⟨(by show 2 ≤ sizeLine; decide), fun r5 hr5 => ?_⟩
        have a5 := Evl.Ex.new (o := .tup [V.ref r2, .ref r4]) hr5
        walk_at "rds"
        refine ⟨(by show 2 ≤ sizeLine; decide), fun r6 hr6 => ?_⟩
        have a6 := Evl.Ex.new (o := .tup [V.str "and", .ref r5]) hr6
        have a56 := a5.trans a6
        refine q _ _ (e6.trans (a12.trans (a34.trans a56))) ?_
        rw [low]
        exact mk_conn (b := true) (Evl.ex_t a6 (SqT.of upd_same)) (.cons (dpF_ex (a34.trans a56) k1) (.cons (dpF_ex a56 k2) .nil)) (SqT.of upd_same)
    | conn b fs =>
      obtain ⟨a, c, xs, rfl, sa, sc, hx⟩ := dp_conn hv
      rw [dp] at hm
      rw [nd] at hn
      have lx : xs.length = fs.length := by rw [dps_len hx, dats_map, List.length_map]
      have hl := nds_len fs
      walk_at "rds"
      refine rd_ixT sa rfl ?_
      walk_at "rds"
      refine rd_ite (fun c => absurd c (by cases b <;> decide)) (fun _ => ?_)
      walk_at "rds"
      refine rd_ite (fun c => absurd c (by cases b <;> decide)) (fun _ => ?_)
      walk_at "rds"
      refine rd_ite (fun c => absurd c (by cases b <;> decide)) (fun _ => ?_)
      walk_at "rds"
      refine rd_iteC (x := .str (cw (!b))) (fun c => ?_) (fun c => ?_) ?_
      · cases b <;> first | rfl | exact absurd c (by decide)
      · cases b <;> first | rfl | exact absurd rfl c
      walk_at "rvs"
      refine rd_ifV (fun v H' => v = .str (cw (b == s)) ∧ H' = H) (fun N kN => ?_) fun v H' hv2 => ?_
      · refine rd_ifE ?_
        walk_at "rds"
        refine rd_iteb (fun c => ?_) (fun c => ?_)
        · subst c
          walk_at "rds"
          exact kN _ _ ⟨by rw [show (b == true) = b by cases b <;> rfl], rfl⟩
        · subst c
          walk_at "rds"
          exact kN _ _ ⟨by rw [show (b == false) = (!b) by cases b <;> rfl], rfl⟩
      obtain ⟨rfl, rfl⟩ := hv2
      walk_at "rds"
      refine rd_ixT sa rfl ?_
      refine rd_ref sc ?_
      refine lc_lsT (K := K) (xs := xs) (fun D i acc H' => DpAll K H' acc (dats ((fs.take i).map (low s)))) (fun i acc H1 D u e h => dps_upd e h) (σx := fun y => [some (.ref a), some (.bl s), some (.str (cw b)), none, none, some (.str (cw !b)), some y]) sc (by omega) (fun _ => rfl) (fun _ => rfl) (fun D H' _ => .nil) (fun i y hi D acc H2 N ex hDa hP kN => ?_) fun D acc H1 e1 eD hD hacc => ?_
      · obtain ⟨g, hg, hdg⟩ := dps_get hx hi
        have hgm := List.mem_of_getElem? hg
        have h1 := dps_ge hgm
        have h2 := nds_ge hgm
        walk_at "rds"
        refine ⟨y, g, s, rfl, dpF_ex ex hdg, by omega, by omega, fun y2 H3 e3 d3 => kN _ _ e3 ?_⟩
        have hD3 := e3 _ _ hDa
        rw [List.take_add_one, hg, List.map_append]
        exact dps_snoc (dps_upd hD3 (dpsF_ex e3 hP)) (dpF_upd hD3 d3)
      rw [lx, List.take_length, ← lows_map] at hacc
      walk_at "rds"
      refine rd_tupL (SqL.of hD) fun t ht => ?_
      have e2 := e1.trans (Evl.Ex.new (o := .tup acc) ht)
      have d2 := dpsF_ex (Evl.Ex.new (o := .tup acc) ht) hacc
      walk_at "rds"
      refine ⟨(by show 2 ≤ sizeLine; decide), fun r hr0 => ?_⟩
      have e3 := Evl.Ex.new (o := .tup [V.str (cw (b == s)), .ref t]) hr0
      refine q _ _ (e2.trans e3) ?_
      rw [low]
      exact mk_conn (Evl.ex_t e3 (SqT.of upd_same)) (dpsF_ex e3 d2) (SqT.of upd_same)
theorem ok_low0 {f : Addr} {fd : FuncData} {k : Nat} : FnOk P w K mg base CX0 k f fd ["f", "side"] (spLow K 0) :=
  ⟨fun vs H Q E h => by
    obtain ⟨v, f, s, _, _, hm, _⟩ := h
    have := dp_pos f
    omega, fun A outer s H args us vs Q E hr e0 hb r hsp => by
    obtain ⟨v, f, s, _, _, hm, _⟩ := hsp
    have := dp_pos f
    omega⟩
theorem ok_low {f : Addr} {fd : FuncData} (F : Fun K "_law_low" "_law_low" s_law_low f fd) (T : Bl mg) (C_law_low : Callee K mg "_law_low" f fd ["f", "side"]) : ∀ m, FnOk P w K mg base CX0 (m + 1) f fd ["f", "side"] (spLow K m)
  | 0 => ok_low0
  | m + 1 => ok_low1 F T (ok_low F T C_law_low m) C_law_low
/-- the sizes of a formula as two lists; all three lie where N says -/
def LSz (N : Addr → Prop) (H : Hp) (D : Addr) (f : Fm) : Prop := ∃ p q : Addr, H D = some (.lst [.ref p, .ref q]) ∧ H p = some (.lst [.int (nn false f : Int), .int (dd false f : Int)]) ∧ H q = some (.lst [.int (nn true f : Int), .int (dd true f : Int)]) ∧ N D ∧ N p ∧ N q
theorem LSz.ex {N : Addr → Prop} {H H' : Hp} {D : Addr} {f : Fm} (e : Evl.Ex H H') (h : LSz N H D f) : LSz N H' D f := by
  obtain ⟨p, q, h1, h2, h3, h4⟩ := h
  exact ⟨p, q, e _ _ h1, e _ _ h2, e _ _ h3, h4⟩
theorem LSz.mono {N N' : Addr → Prop} {H : Hp} {D : Addr} {f : Fm} (e : ∀ a, N a → N' a) (h : LSz N H D f) : LSz N' H D f := by
  obtain ⟨p, q, h1, h2, h3, h4, h5, h6⟩ := h
  exact ⟨p, q, h1, h2, h3, e _ h4, e _ h5, e _ h6⟩
theorem LSz.upd {N : Addr → Prop} {H : Hp} {D E : Addr} {o : HO} {f : Fm} (e : ∀ a, N a → a ≠ E) (h : LSz N H D f) : LSz N (upd H E o) D f := by
  obtain ⟨p, q, h1, h2, h3, h4, h5, h6⟩ := h
  exact ⟨p, q, by rw [upd_ne (e _ h4)]; exact h1, by rw [upd_ne (e _ h5)]; exact h2, by rw [upd_ne (e _ h6)]; exact h3, h4, h5, h6⟩
def Lzs (N : Addr → Prop) (H : Hp) (us : List V) (fs : List Fm) : Prop := us.length = fs.length ∧ ∀ (j : Nat) (g : Fm), fs[j]? = some g → ∃ D : Addr, us[j]? = some (.ref D) ∧ LSz N H D g
theorem Lzs.ex {N : Addr → Prop} {H H' : Hp} {us : List V} {fs : List Fm} (e : Evl.Ex H H') (h : Lzs N H us fs) : Lzs N H' us fs := ⟨h.1, fun j g hj => by
  obtain ⟨D, h1, h2⟩ := h.2 j g hj
  exact ⟨D, h1, h2.ex e⟩⟩
theorem Lzs.upd {N : Addr → Prop} {H : Hp} {E : Addr} {o : HO} {us : List V} {fs : List Fm} (e : ∀ a, N a → a ≠ E) (h : Lzs N H us fs) : Lzs N (upd H E o) us fs := ⟨h.1, fun j g hj => by
  obtain ⟨D, h1, h2⟩ := h.2 j g hj
  exact ⟨D, h1, h2.upd e⟩⟩
theorem Lzs.snoc {N : Addr → Prop} {H : Hp} {us : List V} {fs : List Fm} {D : Addr} {g : Fm} (h : Lzs N H us fs) (k : LSz N H D g) : Lzs N H (us ++ [.ref D]) (fs ++ [g]) := by
  refine ⟨by rw [List.length_append, List.length_append, h.1] <;> rfl, fun j g2 hj => ?_⟩
  rw [List.getElem?_append] at hj
  split at hj
  · next c =>
    obtain ⟨D6, h1, h2⟩ := h.2 j g2 hj
    exact ⟨D6, by rw [List.getElem?_append_left (by rw [h.1]; exact c)]; exact h1, h2⟩
  · next c =>
    have hj0 : j - fs.length = 0 := by
      have := (List.getElem?_eq_some_iff.mp hj).1
      rw [List.length_singleton] at this
      omega
    rw [hj0] at hj
    obtain rfl : g = g2 := Option.some.inj hj
    exact ⟨D, by rw [List.getElem?_append_right (by rw [h.1]; omega), h.1, hj0] <;> rfl, k⟩
def spLsz (K : PySem.W.Frag) (m : Nat) : Sp := fun vs H Q _ => ∃ (v : V) (f : Fm), vs = [v] ∧ Dp K H v (dat f) ∧ dp f ≤ m ∧ nd f ≤ 1000 ∧ ∀ (D : Addr) (H' : Hp), Evl.Ex H H' → LSz (fun a => H a = none) H' D f → Q (.ref D) H'
theorem ok_lsizes1 {f fP : Addr} {fd fdP : FuncData} (F : Fun K "_law_low_sizes" "_law_low_sizes" s_law_low_sizes f fd) (T : Bl mg) {m k : Nat} (hk : 1 ≤ k)
    (G_law_parts_of : FnOk P w K mg base CX0 1 fP fdP ["f"] (spPartsOf K)) (C_law_parts_of : Callee K mg "_law_parts_of" fP fdP ["f"])
    (G_law_low_sizes : FnOk P w K mg base CX0 k f fd ["f"] (spLsz K m)) (C_law_low_sizes : Callee K mg "_law_low_sizes" f fd ["f"]) : FnOk P w K mg base CX0 (k + 1) f fd ["f"] (spLsz K (m + 1)) := by
  refine F.ok sc_law_low_sizes (fun vs H Q E h => ?_) (fun cdv A outer s H vs Q E hr h => ?_)
  · obtain ⟨v, f, rfl, _⟩ := h
    rfl
  · obtain ⟨v, f, rfl, hv, hm, hn, q⟩ := h
    refine ⟨_, (pss_cons (ps_if (pt_cmpR op_eq (pe_ix (ik_tup (K := K) rfl) (pv 0) pe_int (fun _ _ => rfl)) pe_str (nomark _)) (pss_one (ps_ret (pe_lst (pa_cons (pe_lst (pa_cons pe_int (pa_cons pe_int pa_nil))) (pa_cons (pe_lst (pa_cons pe_int (pa_cons pe_int pa_nil))) pa_nil))))) pss_nil)
 (pss_cons (ps_setLc (i := 1) (own := [("own", 6)]) (g := gName 6) rfl sc_law_low_sizes.nd rfl rfl (sw_true rfl rfl rfl (by decide +kernel)) (ik_tupI (K := K) rfl (pe_call G_law_parts_of (hr.mono hk) (by rfl) C_law_parts_of.m C_law_parts_of.k C_law_parts_of.b .nil pass0 (pa_cons (pv 0) pa_nil))) (blkOk_by (own := [("own", 6)]) (N := ["f", "told", "many", "deep", "found", "side", "own"]) (sc := defScope s_law_low_sizes) (by decide +kernel)) (fun _ _ _ _ _ => (pg_name (i := 6) sc_law_low_sizes.nd rfl (Or.inl rfl))) (fun _ _ _ _ _ => pts_nil) (fun _ _ _ _ _ => (pe_call G_law_low_sizes hr (by rfl) C_law_low_sizes.m C_law_low_sizes.k C_law_low_sizes.b .nil pass0 (pa_cons (pv 6) pa_nil))))
 (pss_cons (ps_if (pt_cmpR op_eq (pe_ix (ik_tup (K := K) rfl) (pv 0) pe_int (fun _ _ => rfl)) pe_str (nomark _)) (pss_one (ps_ret (pe_revL (pe_ix (ik_list (K := K) rfl) (pv 1) pe_int (fun _ _ => rfl))))) pss_nil)
 (pss_cons (ps_if (pt_cmpR op_eq (pe_ix (ik_tup (K := K) rfl) (pv 0) pe_int (fun _ _ => rfl)) pe_str (nomark _)) (pss_cons (ps_set (i := 2) sc_law_low_sizes.nd rfl (Or.inl rfl) (pe_op op_add pe_int (pe_callB (c_sum (K := K) rfl rfl) (by rfl) T.sum (by decide +kernel) (pa_cons (pe_lc (own := [("own", 6)]) (g := gName 6) rfl sc_law_low_sizes.nd (ik_listI (K := K) rfl (pv 1)) (blkOk_by (own := [("own", 6)]) (N := ["f", "told", "many", "deep", "found", "side", "own"]) (sc := defScope s_law_low_sizes) (by decide +kernel)) (fun _ _ _ _ _ => (pg_name (i := 6) sc_law_low_sizes.nd rfl (Or.inl rfl))) (fun _ _ _ _ _ => pts_nil) (fun _ _ _ _ _ => (pe_op op_add (pe_ix (ik_list (K := K) rfl) (pe_ix (ik_list (K := K) rfl) (pv 6) pe_int (fun _ _ => rfl)) pe_int (fun _ _ => rfl)) (pe_ix (ik_list (K := K) rfl) (pe_ix (ik_list (K := K) rfl) (pv 6) pe_int (fun _ _ => rfl)) pe_int (fun _ _ => rfl))))) pa_nil))))
 (pss_cons (ps_set (i := 3) sc_law_low_sizes.nd rfl (Or.inl rfl) (pe_op op_add pe_int (pe_callB (c_max (K := K) rfl rfl) (by rfl) T.max (by decide +kernel) (pa_cons (pe_lc (own := [("own", 6)]) (g := gName 6) rfl sc_law_low_sizes.nd (ik_listI (K := K) rfl (pv 1)) (blkOk_by (own := [("own", 6)]) (N := ["f", "told", "many", "deep", "found", "side", "own"]) (sc := defScope s_law_low_sizes) (by decide +kernel)) (fun _ _ _ _ _ => (pg_name (i := 6) sc_law_low_sizes.nd rfl (Or.inl rfl))) (fun _ _ _ _ _ => pts_nil) (fun _ _ _ _ _ => (pe_callB (c_max2 rfl) (by rfl) T.max (by decide +kernel) (pa_cons (pe_ix (ik_list (K := K) rfl) (pe_ix (ik_list (K := K) rfl) (pv 6) pe_int (fun _ _ => rfl)) pe_int (fun _ _ => rfl)) (pa_cons (pe_ix (ik_list (K := K) rfl) (pe_ix (ik_list (K := K) rfl) (pv 6) pe_int (fun _ _ => rfl)) pe_int (fun _ _ => rfl)) pa_nil))))) pa_nil))))
 (pss_one (ps_ret (pe_lst (pa_cons (pe_lst (pa_cons (pv 2) (pa_cons (pv 3) pa_nil))) (pa_cons (pe_lst (pa_cons (pv 2) (pa_cons (pv 3) pa_nil))) pa_nil))))))) pss_nil)
 (pss_cons (ps_set (i := 4) sc_law_low_sizes.nd rfl (Or.inl rfl) (pe_lst pa_nil))
 (pss_cons (ps_for PassesOwn.never rfl (ik_tupI (K := K) rfl (pe_tup (pa_cons pe_int (pa_cons pe_int pa_nil)))) (pg_name (i := 5) sc_law_low_sizes.nd rfl (Or.inr rfl)) (pss_cons (ps_set (i := 3) sc_law_low_sizes.nd rfl (Or.inl rfl) (pe_op op_add pe_int (pe_callB (c_max (K := K) rfl rfl) (by rfl) T.max (by decide +kernel) (pa_cons (pe_op op_cat (pe_lst (pa_cons pe_int pa_nil)) (pe_lc (own := [("own", 6)]) (g := gName 6) rfl sc_law_low_sizes.nd (ik_listI (K := K) rfl (pv 1)) (blkOk_by (own := [("own", 6)]) (N := ["f", "told", "many", "deep", "found", "side", "own"]) (sc := defScope s_law_low_sizes) (by decide +kernel)) (fun _ _ _ _ _ => (pg_name (i := 6) sc_law_low_sizes.nd rfl (Or.inl rfl))) (fun _ _ _ _ _ => pts_nil) (fun _ _ _ _ _ => (pe_ix (ik_list (K := K) rfl) (pe_ix (ik_list (K := K) rfl) (pv 6) (pv 5) (fun _ _ => rfl)) pe_int (fun _ _ => rfl))))) pa_nil))))
 (pss_one (ps_expr (pe_bm PySem.F.plainAttrs_list PySem.F.slot_list_append PySem.F.type_list_append mt_append (pv 4) (pa_cons (pe_lst (pa_cons (pe_op op_add pe_int (pe_callB (c_sum (K := K) rfl rfl) (by rfl) T.sum (by decide +kernel) (pa_cons (pe_lc (own := [("own", 6)]) (g := gName 6) rfl sc_law_low_sizes.nd (ik_listI (K := K) rfl (pv 1)) (blkOk_by (own := [("own", 6)]) (N := ["f", "told", "many", "deep", "found", "side", "own"]) (sc := defScope s_law_low_sizes) (by decide +kernel)) (fun _ _ _ _ _ => (pg_name (i := 6) sc_law_low_sizes.nd rfl (Or.inl rfl))) (fun _ _ _ _ _ => pts_nil) (fun _ _ _ _ _ => (pe_ix (ik_list (K := K) rfl) (pe_ix (ik_list (K := K) rfl) (pv 6) (pv 5) (fun _ _ => rfl)) pe_int (fun _ _ => rfl)))) pa_nil))) (pa_cons (pv 3) pa_nil))) pa_nil))))))
 (pss_one (ps_ret (pv 4))))))))), ?_⟩
    refine rd_start (σ' := [some v, none, none, none, none, none, none]) rfl ?_
    have hsz : (kids f).length ≤ 20000 := by have := kids_len f; omega
    have hkn : ∀ g ∈ kids f, nd g ≤ 1000 := fun g hg => by have := kids_nd hg; omega
    have hkid : ∀ g ∈ kids f, dp g ≤ m := fun g hg => kids_dp hm hg
    obtain ⟨a, x, t, rfl, sa⟩ := dp_word hv
    walk_at "rqs"
    refine rd_ifI (fun σ' H' => σ' = [some (.ref a), none, none, none, none, none, none] ∧ H' = H ∧ ∀ z, f ≠ .letter z) (fun N kN => ?_) fun σ' H' hI => ?_
    · refine rd_if ?_
      walk_at "rds"
      refine rd_ixT (x := .str (wd f)) sa (atI_nat (j := 0) rfl) ?_
      walk_at "rds"
      refine rd_ite (fun c => ?_) (fun c => ?_)
      · obtain ⟨z, rfl⟩ := wd_letter c
        walk_at "rds"
        refine ⟨(by show 2 ≤ sizeLine; decide), fun p hp => ?_⟩
        have b1 := Evl.Ex.new (o := .lst [V.int 2, .int 2]) hp
        walk_at "rds"
        refine ⟨(by show 2 ≤ sizeLine; decide), fun r hr0 => ?_⟩
        have b2 := Evl.Ex.new (o := .lst [V.int 1, .int 1]) hr0
        walk_at "rds"
        refine ⟨(by show 2 ≤ sizeLine; decide), fun D hD => ?_⟩
        have b3 := Evl.Ex.new (o := .lst [V.ref p, .ref r]) hD
        exact q D _ ((b1.trans b2).trans b3) ⟨p, r, upd_same, b3 _ _ (b2 _ _ upd_same), b3 _ _ upd_same, Evl.fresh_back (b1.trans b2) hD, hp, Evl.fresh_back b1 hr0⟩
      · walk_at "rds"
        exact kN _ _ ⟨rfl, rfl, fun z e => c (by rw [e] <;> rfl)⟩
    obtain ⟨rfl, rfl, hnl⟩ := hI
    walk_at "rqs"
    refine ⟨.ref a, f, rfl, hv, fun p xs H1 e1 sp hx => ?_⟩
    have lx : xs.length = (kids f).length := by rw [dps_len hx, dats_map, List.length_map]
    walk_at "rqs"
    refine rd_ref sp ?_
    refine lc_lsT (K := K) (xs := xs) (fun D i acc H' => Lzs (fun c => H1 c = none ∧ c ≠ D) H' acc ((kids f).take i)) (fun i acc H1 D u e h => h.upd fun c hc => hc.2) (σx := fun x => [some (.ref a), none, none, none, none, none, some x]) sp (by omega) (fun _ => rfl) (fun _ => rfl) (fun D H' _ => ⟨rfl, fun j g hj => by simp at hj⟩) (fun i x hi D acc H' N ex hDa hP kN => ?_) fun TD acc H2 e2 eT hT hsz2 => ?_
    · obtain ⟨g, hg, hdg⟩ := dps_get hx hi
      walk_at "rqs"
      refine ⟨x, g, rfl, dpF_ex ex hdg, hkid g (List.mem_of_getElem? hg), hkn g (List.mem_of_getElem? hg), fun D5 H5 e5 hd5 => kN _ _ e5 ?_⟩
      have hd6 : LSz (fun c => H1 c = none ∧ c ≠ D) H5 D5 g := hd5.mono fun c hc => ⟨Evl.fresh_back ex hc, fun z => by rw [z, hDa] at hc; cases hc⟩
      rw [show (kids f).take (i + 1) = (kids f).take i ++ [g] by rw [List.take_add_one, hg] <;> rfl]
      exact ((hP.ex e5).snoc hd6).upd fun c hc => hc.2
    rw [lx, List.take_length] at hsz2
    have e12 := e1.trans e2
    have hsz2 : Lzs (fun c => H' c = none) H2 acc (kids f) := ⟨hsz2.1, fun j g hj => by
      obtain ⟨D, h1, h2⟩ := hsz2.2 j g hj
      exact ⟨D, h1, h2.mono fun c hc => Evl.fresh_back e1 hc.1⟩⟩
    walk_at "rqs"
    refine rd_ifI (fun σ' Hb => σ' = [some (.ref a), some (.ref TD), none, none, none, none, none] ∧ Hb = H2 ∧ ∀ g, f ≠ .no g) (fun N kN => ?_) fun σ' Hb hI => ?_
    · refine rd_if ?_
      walk_at "rds"
      refine rd_ixT (x := .str (wd f)) (Evl.ex_t e12 sa) (atI_nat (j := 0) rfl) ?_
      walk_at "rds"
      refine rd_ite (fun c => ?_) (fun c => ?_)
      · obtain ⟨g, rfl⟩ := wd_no c
        obtain ⟨D1, h1, p1, q1, h2, h3, h4, n1, n2, n3⟩ := hsz2.2 0 g rfl
        walk_at "rds"
        refine rd_revL ?_
        walk_at "rds"
        refine rd_ixL (x := .ref D1) (SqL.of hT) (atI_nat (j := 0) h1) ?_
        refine ⟨D1, _, rfl, SqL.of h2, fun R hR => ?_⟩
        have b1 := Evl.Ex.new (o := .lst ([V.ref p1, .ref q1] : List V).reverse) hR
        exact q R _ (e12.trans b1) ⟨q1, p1, upd_same, b1 _ _ h4, b1 _ _ h3, Evl.fresh_back e12 hR, n3, n2⟩
      · walk_at "rds"
        exact kN _ _ ⟨rfl, rfl, fun g e => c (by rw [e] <;> rfl)⟩
    obtain ⟨rfl, rfl, hnn⟩ := hI
    walk_at "rqs"
    refine rd_ifI (fun σ' Hc => σ' = [some (.ref a), some (.ref TD), none, none, none, none, none] ∧ Hc = Hb ∧ ∀ g g2, f ≠ .same g g2) (fun N kN => ?_) fun σ' Hc hI => ?_
    · refine rd_if ?_
      walk_at "rds"
      refine rd_ixT (x := .str (wd f)) (Evl.ex_t e12 sa) (atI_nat (j := 0) rfl) ?_
      walk_at "rds"
      refine rd_ite (fun c => ?_) (fun c => ?_)
      · obtain ⟨g, g2, rfl⟩ := wd_same c
        obtain ⟨D1, h1, p1, q1, h2, h3, h4, n1, n2, n3⟩ := hsz2.2 0 g rfl
        obtain ⟨D2, k1, p2, q2, k2, k3, k4, m1, m2, m3⟩ := hsz2.2 1 g2 rfl
        have lac : acc.length = 2 := hsz2.1
        walk_at "rds"
        refine rd_refL (SqL.of hT) ?_
        refine lc_lsL (K := K) (xs := acc) (fun D i bcc H' => bcc = ([g, g2].take i).map fun g => V.int ((nn false g : Int) + nn true g)) (fun i acc H1 D u e h => h) (σx := fun x => [some (.ref a), some (.ref TD), none, none, none, none, some x]) (SqL.of hT) (by omega) (fun _ => rfl) (fun _ => rfl) (fun D H' _ => rfl) (fun i x hi D bcc H3 N ex hDa hP kN => ?_) fun B bcc H3 e3 eB hB hbcc => ?_
        · have hil := (List.getElem?_eq_some_iff.mp hi).1
          obtain ⟨gi, hgi⟩ : ∃ gi, [g, g2][i]? = some gi := ⟨_, List.getElem?_eq_getElem (by show i < 2; omega)⟩
          obtain ⟨E1, o1, u1, v1, o2, o3, o4, _, _, _⟩ := hsz2.2 i gi hgi
          rw [hi] at o1
          obtain rfl : x = .ref E1 := Option.some.inj o1
          walk_at "rds"
          refine rd_ixL (x := .ref u1) (SqL.of (ex _ _ o2)) (atI_nat (j := 0) rfl) ?_
          walk_at "rds"
          refine rd_ixL (SqL.of (ex _ _ o3)) (atI_nat (j := 0) rfl) ?_
          walk_at "rds"
          refine rd_ixL (x := .ref v1) (SqL.of (ex _ _ o2)) (atI_nat (j := 1) rfl) ?_
          walk_at "rds"
          refine rd_ixL (SqL.of (ex _ _ o4)) (atI_nat (j := 0) rfl) ?_
          walk_at "rds"
          refine kN _ _ (Evl.Ex.refl _) ?_
          rw [hP, List.take_add_one, hgi, List.map_append] <;> rfl
        rw [lac] at hbcc
        walk_at "rds"
        refine ⟨B, [(nn false g : Int) + nn true g, (nn false g2 : Int) + nn true g2], rfl, SqL.of (by rw [hB, hbcc] <;> rfl), ?_⟩
        walk_at "rds"
        refine rd_refL (SqL.of (e3 _ _ hT)) ?_
        refine lc_lsL (K := K) (xs := acc) (fun D i bcc H' => bcc = ([g, g2].take i).map fun g => V.int ((max (dd false g) (dd true g) : Nat) : Int)) (fun i acc H1 D u e h => h) (σx := fun x => [some (.ref a), some (.ref TD), some (.int (3 + [(nn false g : Int) + nn true g, (nn false g2 : Int) + nn true g2].sum)), none, none, none, some x]) (SqL.of (e3 _ _ hT)) (by omega) (fun _ => rfl) (fun _ => rfl) (fun D H' _ => rfl) (fun i x hi D bcc H4 N ex hDa hP kN => ?_) fun B2 bcc2 H4 e4 eB2 hB2 hbcc2 => ?_
        · have hil := (List.getElem?_eq_some_iff.mp hi).1
          obtain ⟨gi, hgi⟩ : ∃ gi, [g, g2][i]? = some gi := ⟨_, List.getElem?_eq_getElem (by show i < 2; omega)⟩
          obtain ⟨E1, o1, u1, v1, o2, o3, o4, _, _, _⟩ := hsz2.2 i gi hgi
          rw [hi] at o1
          obtain rfl : x = .ref E1 := Option.some.inj o1
          have ex := e3.trans ex
          walk_at "rds"
          refine rd_ixL (x := .ref u1) (SqL.of (ex _ _ o2)) (atI_nat (j := 0) rfl) ?_
          walk_at "rds"
          refine rd_ixL (SqL.of (ex _ _ o3)) (atI_nat (j := 1) rfl) ?_
          walk_at "rds"
          refine rd_ixL (x := .ref v1) (SqL.of (ex _ _ o2)) (atI_nat (j := 1) rfl) ?_
          walk_at "rds"
          refine rd_ixL (SqL.of (ex _ _ o4)) (atI_nat (j := 1) rfl) ?_
          walk_at "rds"
          refine kN _ _ (Evl.Ex.refl _) ?_
          rw [max_if, hP, List.take_add_one, hgi, List.map_append] <;> rfl
        rw [lac] at hbcc2
        walk_at "rds"
        refine ⟨B2, [((max (dd false g) (dd true g) : Nat) : Int), ((max (dd false g2) (dd true g2) : Nat) : Int)], rfl, SqL.of (by rw [hB2, hbcc2] <;> rfl), (by show 0 < 2; decide), fun mx0 hm hall => ?_⟩
        have em : mx0 = ((max (max (dd true g) (dd false g)) (max (dd true g2) (dd false g2)) : Nat) : Int) := by
          have w1 := hall _ List.mem_cons_self
          have w2 := hall _ (List.mem_cons_of_mem _ List.mem_cons_self)
          simp only [List.mem_cons, List.not_mem_nil, or_false] at hm
          rcases hm with rfl | rfl <;> omega
        subst em
        have e34 := e3.trans e4
        walk_at "rds"
        refine ⟨(by show 2 ≤ sizeLine; decide), fun p hp => ?_⟩
        have b1 := Evl.Ex.new (o := .lst [V.int (3 + [(nn false g : Int) + nn true g, (nn false g2 : Int) + nn true g2].sum), .int (2 + ((max (max (dd true g) (dd false g)) (max (dd true g2) (dd false g2)) : Nat) : Int))]) hp
        walk_at "rds"
        refine ⟨(by show 2 ≤ sizeLine; decide), fun r hr0 => ?_⟩
        have b2 := Evl.Ex.new (o := .lst [V.int (3 + [(nn false g : Int) + nn true g, (nn false g2 : Int) + nn true g2].sum), .int (2 + ((max (max (dd true g) (dd false g)) (max (dd true g2) (dd false g2)) : Nat) : Int))]) hr0
        walk_at "rds"
        refine ⟨(by show 2 ≤ sizeLine; decide), fun D hD => ?_⟩
        have b3 := Evl.Ex.new (o := .lst [V.ref p, .ref r]) hD
        have eb := e12.trans e34
        have en : ∀ s, 3 + [(nn false g : Int) + nn true g, (nn false g2 : Int) + nn true g2].sum = (nn s (.same g g2) : Int) := fun s => by rw [nn]; simp only [List.sum_cons, List.sum_nil]; omega
        have ed : ∀ s, 2 + ((max (max (dd true g) (dd false g)) (max (dd true g2) (dd false g2)) : Nat) : Int) = (dd s (.same g g2) : Int) := fun s => by rw [dd]; omega
        refine q D _ (eb.trans ((b1.trans b2).trans b3)) ⟨p, r, upd_same, ?_, ?_, Evl.fresh_back (eb.trans (b1.trans b2)) hD, Evl.fresh_back eb hp, Evl.fresh_back (eb.trans b1) hr0⟩
        · rw [← en false, ← ed false]
          exact b3 _ _ (b2 _ _ upd_same)
        · rw [← en true, ← ed true]
          exact b3 _ _ upd_same
      · walk_at "rds"
        exact kN _ _ ⟨rfl, rfl, fun g g2 e => c (by rw [e] <;> rfl)⟩
    obtain ⟨rfl, rfl, hns⟩ := hI
    obtain ⟨b, fs, rfl⟩ : ∃ b fs, f = .conn b fs := by
      cases f with
      | letter z => exact absurd rfl (hnl z)
      | no f => exact absurd rfl (hnn f)
      | conn b fs => exact ⟨b, fs, rfl⟩
      | same f g => exact absurd rfl (hns f g)
    have hfs : kids (.conn b fs) = fs := rfl
    rw [hfs] at hsz2
    walk_at "rqs"
    refine ⟨Nat.zero_le _, fun FA hFA => ?_⟩
    have b1 := Evl.Ex.new (o := .lst []) hFA
    walk_at "rqs"
    refine ⟨(by show 2 ≤ sizeLine; decide), fun t0 ht0 => ?_⟩
    have b2 := b1.trans (Evl.Ex.new (o := .tup [V.int 0, .int 1]) ht0)
    have hFc : H' FA = none := Evl.fresh_back e12 hFA
    have hft : FA ≠ t0 := fun z => by rw [← z, upd_same] at ht0; cases ht0
    refine rd_ref (SqT.of upd_same) ?_
    refine fr_tup (xs := [.int 0, .int 1]) (fun i σ' H3 => ∃ (dv sv : Option V), σ' = [some (.ref a), some (.ref TD), none, dv, some (.ref FA), sv, none] ∧ Evl.Ex Hc H3 ∧ SqT K H3 t0 [.int 0, .int 1] ∧ (i = 0 → H3 FA = some (.lst [])) ∧
        (i = 1 → ∃ p : Addr, H3 FA = some (.lst [.ref p]) ∧ H3 p = some (.lst [.int (nn false (.conn b fs) : Int), .int (dd false (.conn b fs) : Int)]) ∧ p ≠ FA ∧ H' p = none) ∧ (i = 2 → LSz (fun c => H' c = none) H3 FA (.conn b fs)))
      ⟨none, none, rfl, b2, SqT.of upd_same, fun _ => (upd_ne hft).trans upd_same, fun h => absurd h (by decide), fun h => absurd h (by decide)⟩ (fun i σ' H3 _ ⟨_, _, _, _, h, _⟩ => h) (fun i x σ' H3 hi hP => ?_) fun σ' H3 hP => ?_
    · obtain ⟨dv, sv, rfl, e3, st, p0, p1, _⟩ := hP
      obtain ⟨s, rfl, his⟩ : ∃ s : Bool, x = .int (if s = true then 1 else 0) ∧ i = (if s = true then 1 else 0) := by
        match i, hi with
        | 0, hi => exact ⟨false, (Option.some.inj hi).symm, rfl⟩
        | 1, hi => exact ⟨true, (Option.some.inj hi).symm, rfl⟩
        | i + 2, hi => exact absurd hi (by simp)
      refine rd_start (σ' := [some (.ref a), some (.ref TD), none, dv, some (.ref FA), some (.int (if s = true then 1 else 0)), none]) rfl ?_
      have hT3 := e3 _ _ hT
      have laf : acc.length = fs.length := hsz2.1
      have lfs : fs.length ≤ 20000 := hsz
      walk_at "rds"
      refine ⟨(by show 1 ≤ sizeLine; decide), fun z0 hz0 => ?_⟩
      have c1 := Evl.Ex.new (o := .lst [V.int 0]) hz0
      walk_at "rds"
      refine rd_refL (SqL.of (c1 _ _ hT3)) ?_
      refine lc_lsL (K := K) (xs := acc) (fun D i bcc H' => bcc = (fs.take i).map fun g => V.int (dd s g : Int)) (fun i acc H1 D u e h => h) (σx := fun x => [some (.ref a), some (.ref TD), none, dv, some (.ref FA), some (.int (if s = true then 1 else 0)), some x]) (SqL.of (c1 _ _ hT3)) (by omega) (fun _ => rfl) (fun _ => rfl) (fun D H' _ => rfl) (fun j y hj D bcc H4 N ex hDa hP kN => ?_) fun B bcc H4 e4 eB hB hbcc => ?_
      · have hjl := (List.getElem?_eq_some_iff.mp hj).1
        obtain ⟨g, hg⟩ : ∃ g, fs[j]? = some g := ⟨_, List.getElem?_eq_getElem (by omega)⟩
        obtain ⟨E1, o1, u1, v1, o2, o3, o4, _, _, _⟩ := hsz2.2 j g hg
        rw [hj] at o1
        obtain rfl : y = .ref E1 := Option.some.inj o1
        have ex := (e3.trans c1).trans ex
        walk_at "rds"
        cases s with
        | false =>
          refine rd_ixL (x := .ref u1) (SqL.of (ex _ _ o2)) (atI_nat (j := 0) rfl) ?_
          walk_at "rds"
          refine rd_ixL (SqL.of (ex _ _ o3)) (atI_nat (j := 1) rfl) ?_
          refine kN _ _ (Evl.Ex.refl _) ?_
          rw [hP, List.take_add_one, hg, List.map_append] <;> rfl
        | true =>
          refine rd_ixL (x := .ref v1) (SqL.of (ex _ _ o2)) (atI_nat (j := 1) rfl) ?_
          walk_at "rds"
          refine rd_ixL (SqL.of (ex _ _ o4)) (atI_nat (j := 1) rfl) ?_
          refine kN _ _ (Evl.Ex.refl _) ?_
          rw [hP, List.take_add_one, hg, List.map_append] <;> rfl
      rw [laf, List.take_length] at hbcc
      walk_at "rds"
      refine rd_catL (e4 _ _ upd_same) hB (by rw [hbcc, List.length_map, sizeLine_eq]; show 1 + _ ≤ _; omega) fun C hC => ?_
      have c2 := (c1.trans e4).trans (Evl.Ex.new (o := .lst ([V.int 0] ++ bcc)) hC)
      walk_at "rds"
      refine ⟨C, 0 :: fs.map fun g => (dd s g : Int), rfl, SqL.of ?_, Nat.succ_pos _, fun m0 hm0 hall => ?_⟩
      · rw [upd_same, hbcc, List.map_cons, List.map_map] <;> rfl
      have em : m0 = (dds s fs : Int) := max_dds hm0 hall
      subst em
      walk_at "rds"
      obtain ⟨ys, hys, hyl⟩ : ∃ ys, H3 FA = some (.lst ys) ∧ ys.length ≤ 1 := by
        cases s with
        | false => exact ⟨_, p0 his, Nat.zero_le _⟩
        | true =>
          obtain ⟨p, h1, _⟩ := p1 his
          exact ⟨_, h1, Nat.le_refl _⟩
      refine rd_tyL (c2 _ _ hys) ?_
      walk_at "rds"
      refine rd_refL (SqL.of (c2 _ _ hT3)) ?_
      refine lc_lsL (K := K) (xs := acc) (fun D i bcc H' => bcc = (fs.take i).map fun g => V.int (nn s g : Int)) (fun i acc H1 D u e h => h) (σx := fun x => [some (.ref a), some (.ref TD), none, some (.int (1 + (dds s fs : Int))), some (.ref FA), some (.int (if s = true then 1 else 0)), some x]) (SqL.of (c2 _ _ hT3)) (by omega) (fun _ => rfl) (fun _ => rfl) (fun D H' _ => rfl) (fun j y hj D bcc H4 N ex hDa hP kN => ?_) fun B2 bcc2 H5 e5 eB2 hB2 hbcc2 => ?_
      · have hjl := (List.getElem?_eq_some_iff.mp hj).1
        obtain ⟨g, hg⟩ : ∃ g, fs[j]? = some g := ⟨_, List.getElem?_eq_getElem (by omega)⟩
        obtain ⟨E1, o1, u1, v1, o2, o3, o4, _, _, _⟩ := hsz2.2 j g hg
        rw [hj] at o1
        obtain rfl : y = .ref E1 := Option.some.inj o1
        have ex := (e3.trans c2).trans ex
        walk_at "rds"
        cases s with
        | false =>
          refine rd_ixL (x := .ref u1) (SqL.of (ex _ _ o2)) (atI_nat (j := 0) rfl) ?_
          walk_at "rds"
          refine rd_ixL (SqL.of (ex _ _ o3)) (atI_nat (j := 0) rfl) ?_
          refine kN _ _ (Evl.Ex.refl _) ?_
          rw [hP, List.take_add_one, hg, List.map_append] <;> rfl
        | true =>
          refine rd_ixL (x := .ref v1) (SqL.of (ex _ _ o2)) (atI_nat (j := 1) rfl) ?_
          walk_at "rds"
          refine rd_ixL (SqL.of (ex _ _ o4)) (atI_nat (j := 0) rfl) ?_
          refine kN _ _ (Evl.Ex.refl _) ?_
          rw [hP, List.take_add_one, hg, List.map_append] <;> rfl
      rw [laf, List.take_length] at hbcc2
      walk_at "rds"
      refine ⟨B2, fs.map fun g => (nn s g : Int), rfl, SqL.of (by rw [hB2, hbcc2, List.map_map] <;> rfl), ?_⟩
      rw [sum_nns]
      walk_at "rds"
      refine ⟨(by show 2 ≤ sizeLine; decide), fun p hp => ?_⟩
      have c3 := c2.trans e5
      have c4 := c3.trans (Evl.Ex.new (o := .lst [V.int (1 + (nns s fs : Int)), .int (1 + (dds s fs : Int))]) hp)
      have hpF : p ≠ FA := fun z => by rw [z, c3 _ _ hys] at hp; cases hp
      have hpH : H' p = none := Evl.fresh_back (e12.trans (e3.trans c3)) hp
      have en : 1 + (nns s fs : Int) = (nn s (.conn b fs) : Int) := by rw [nn]; omega
      have ed : 1 + (dds s fs : Int) = (dd s (.conn b fs) : Int) := by rw [dd]; omega
      have hpv : (upd (upd H5 p (.lst [V.int (1 + (nns s fs : Int)), .int (1 + (dds s fs : Int))])) FA (.lst (ys ++ [.ref p]))) p = some (.lst [.int (nn s (.conn b fs) : Int), .int (dd s (.conn b fs) : Int)]) := by
        rw [upd_ne hpF, upd_same, en, ed]
      walk_at "rds"
      refine rd_append (c4 _ _ hys) (by omega) ?_
      refine ⟨_, _, rfl, Evl.Ex.mut (e3.trans c4) hFA, tup_upd (c4 _ _ hys) lst_not (Evl.ex_t c4 st), fun h => absurd h (by omega), fun h => ?_, fun h => ?_⟩
      · obtain rfl : s = false := by cases s <;> first | rfl | (exfalso; rw [his] at h; exact absurd h (by decide))
        rw [p0 his] at hys
        obtain rfl : ([] : List V) = ys := by injection hys with h; injection h
        exact ⟨p, upd_same, hpv, hpF, hpH⟩
      · obtain rfl : s = true := by cases s <;> first | rfl | (exfalso; rw [his] at h; exact absurd h (by decide))
        obtain ⟨p9, h1, h2, h3, h4⟩ := p1 his
        rw [h1] at hys
        obtain rfl : [V.ref p9] = ys := by injection hys with h; injection h
        exact ⟨p9, p, upd_same, by rw [upd_ne h3]; exact c4 _ _ h2, hpv, hFc, h4, hpH⟩
    · obtain ⟨dv, sv, rfl, e3, _, _, _, p2⟩ := hP
      walk_at "rds"
      exact q FA _ (e12.trans e3) (p2 rfl)
end
end KA
set_option Elab.async false
set_option linter.all false
set_option maxRecDepth 100000
set_option maxHeartbeats 400000
set_option pp.maxSteps 300
namespace KA
open PySem PySem.Spec PyProof.Rows L2 Ea
abbrev s_law_is_told : Stmt := topS 28
theorem sc_law_is_told : FnScope ["f", "is_named", "known", "due", "told"] ["f", "is_named"] (defScope s_law_is_told) :=
  ⟨rfl, rfl, rfl, by decide +kernel, rfl, by decide +kernel, by decide +kernel⟩
local macro_rules | `(tactic| walk_at "rd") => `(tactic| first
  | (with_reducible refine rd_seq ?_) | (with_reducible refine rd_asg ?_) | (with_reducible refine rd_if ?_) | (with_reducible refine rd_ret ?_) | (with_reducible refine rd_next ?_)
  | (with_reducible refine rd_drop ?_) | ((with_reducible refine rd_name (σ' := ?ss) ?hs ?_); (case hs => (dsimp only [List.set]; exact rfl)))
  | ((with_reducible refine rd_var (v := ?vv) ?hv ?_); (case hv => exact rfl)) | (with_reducible refine rd_c ?_) | (with_reducible refine rd_op ?_) | (with_reducible refine rd_un ?_)
  | (with_reducible refine rd_I0 ?_) | (with_reducible refine rd_U ?_) | (with_reducible refine rd_test ?_) | (with_reducible refine rd_B ?_) | (with_reducible refine rd_k ?_)
  | (with_reducible refine rd_not ?_) | (with_reducible refine rd_and ?_) | (with_reducible refine rd_or ?_) | (with_reducible refine rd_ifE ?_)
  | (with_reducible refine rd_par ?_) | ((with_reducible refine rd_par2 (σ' := ?ss) ?hs ?_); (case hs => (dsimp only [List.set]; exact rfl)))
  | (with_reducible refine rd_gsub ?_) | (with_reducible refine rd_andV ?_) | (with_reducible refine rd_orV ?_) | (with_reducible refine rd_notV ?_)
  | (with_reducible refine rd_lc ?_) | (with_reducible refine rd_iTup ?_) | (with_reducible refine rd_iList ?_) | (with_reducible refine rd_iRng1 ?_) | (with_reducible refine rd_iRng2 ?_) | (with_reducible refine rd_iEnumT ?_) | (with_reducible refine rd_iEnum ?_) | (with_reducible refine rd_iZipM ?_) | (with_reducible refine rd_iEnumS ?_) | (with_reducible refine rd_iKeys ?_) | (with_reducible refine rd_din ?_) | (with_reducible refine rd_dnotin ?_)
  | (with_reducible refine rd_yes ?_) | (with_reducible refine rd_true ?_) | (with_reducible refine rd_false ?_) | (with_reducible refine rd_m1 ?_) | (with_reducible refine rd_isS ?_)
  | ((with_reducible refine rd_eq ?hs ?_); (case hs => exact rfl)) | ((with_reducible refine rd_ne ?hs ?_); (case hs => exact rfl))
  | (with_reducible refine rd_listRg ?_) | (with_reducible refine rd_rg2 ?_) | (with_reducible refine rd_rgk ?_)
  | (with_reducible refine rd_dnew ?_) | (with_reducible refine rd_ddel ?_) | (with_reducible refine rd_kw ?_) | (with_reducible refine rd_callS ?_) | (with_reducible refine rd_dc ?_) | (with_reducible refine rd_for ?_) | (with_reducible refine rd_tru ?_) | (with_reducible refine rd_truI ?_)
  | (with_reducible refine rd_nil ?_) | (with_reducible refine rd_cons ?_) | (with_reducible refine rd_call ?_) | (with_reducible refine rd_cb ?_)
  | (with_reducible refine rd_tup ?_) | (with_reducible refine rd_lst ?_) | (with_reducible refine rd_dget ?_) | (with_reducible refine rd_dput ?_) | (with_reducible refine rd_dget2 ?_) | (with_reducible refine rd_sl ?_)
  | (with_reducible refine rd_nopart ?_) | (with_reducible refine rd_part ?_) | (with_reducible refine rd_parti ?_) | (with_reducible refine rd_bm ?_) | (with_reducible refine rd_bm0 ?_)
  | (with_reducible refine rd_int ?_) | (with_reducible refine rd_intb ?_) | (with_reducible refine rd_abs ?_) | (with_reducible refine rd_min2 ?_) | (with_reducible refine rd_max2 ?_))
local macro_rules | `(tactic| walk_at "rds") => `(tactic| repeat (walk_at "rd"))
local macro_rules | `(tactic| walk_at "rq") => `(tactic| first
  | (with_reducible refine rd_seq ?_) | (with_reducible refine rd_asg ?_) | (with_reducible refine rd_ret ?_) | (with_reducible refine rd_next ?_)
  | (with_reducible refine rd_drop ?_) | ((with_reducible refine rd_name (σ' := ?ss) ?hs ?_); (case hs => (dsimp only [List.set]; exact rfl)))
  | ((with_reducible refine rd_var (v := ?vv) ?hv ?_); (case hv => exact rfl)) | (with_reducible refine rd_c ?_) | (with_reducible refine rd_op ?_) | (with_reducible refine rd_un ?_)
  | (with_reducible refine rd_I0 ?_) | (with_reducible refine rd_U ?_) | (with_reducible refine rd_test ?_) | (with_reducible refine rd_B ?_) | (with_reducible refine rd_k ?_)
  | (with_reducible refine rd_not ?_) | (with_reducible refine rd_and ?_) | (with_reducible refine rd_or ?_) | (with_reducible refine rd_ifE ?_)
  | (with_reducible refine rd_par ?_) | ((with_reducible refine rd_par2 (σ' := ?ss) ?hs ?_); (case hs => (dsimp only [List.set]; exact rfl)))
  | (with_reducible refine rd_gsub ?_) | (with_reducible refine rd_andV ?_) | (with_reducible refine rd_orV ?_) | (with_reducible refine rd_notV ?_)
  | (with_reducible refine rd_lc ?_) | (with_reducible refine rd_iTup ?_) | (with_reducible refine rd_iList ?_) | (with_reducible refine rd_iRng1 ?_) | (with_reducible refine rd_iRng2 ?_) | (with_reducible refine rd_iEnumT ?_) | (with_reducible refine rd_iEnum ?_) | (with_reducible refine rd_iZipM ?_) | (with_reducible refine rd_iEnumS ?_) | (with_reducible refine rd_iKeys ?_) | (with_reducible refine rd_din ?_) | (with_reducible refine rd_dnotin ?_)
  | (with_reducible refine rd_yes ?_) | (with_reducible refine rd_true ?_) | (with_reducible refine rd_false ?_) | (with_reducible refine rd_m1 ?_) | (with_reducible refine rd_isS ?_)
  | ((with_reducible refine rd_eq ?hs ?_); (case hs => exact rfl)) | ((with_reducible refine rd_ne ?hs ?_); (case hs => exact rfl))
  | (with_reducible refine rd_listRg ?_) | (with_reducible refine rd_rg2 ?_) | (with_reducible refine rd_rgk ?_)
  | (with_reducible refine rd_dnew ?_) | (with_reducible refine rd_ddel ?_) | (with_reducible refine rd_kw ?_) | (with_reducible refine rd_callS ?_) | (with_reducible refine rd_dc ?_) | (with_reducible refine rd_for ?_) | (with_reducible refine rd_tru ?_) | (with_reducible refine rd_truI ?_)
  | (with_reducible refine rd_nil ?_) | (with_reducible refine rd_cons ?_) | (with_reducible refine rd_call ?_) | (with_reducible refine rd_cb ?_)
  | (with_reducible refine rd_tup ?_) | (with_reducible refine rd_lst ?_) | (with_reducible refine rd_dget ?_) | (with_reducible refine rd_dput ?_) | (with_reducible refine rd_dget2 ?_) | (with_reducible refine rd_sl ?_)
  | (with_reducible refine rd_nopart ?_) | (with_reducible refine rd_part ?_) | (with_reducible refine rd_parti ?_) | (with_reducible refine rd_bm ?_) | (with_reducible refine rd_bm0 ?_)
  | (with_reducible refine rd_int ?_) | (with_reducible refine rd_intb ?_) | (with_reducible refine rd_abs ?_) | (with_reducible refine rd_min2 ?_) | (with_reducible refine rd_max2 ?_))
local macro_rules | `(tactic| walk_at "rqs") => `(tactic| repeat (walk_at "rq"))
local macro_rules | `(tactic| walk_at "rv") => `(tactic| first
  | (with_reducible refine rd_seq ?_) | (with_reducible refine rd_asg ?_) | (with_reducible refine rd_ret ?_) | (with_reducible refine rd_next ?_)
  | (with_reducible refine rd_drop ?_) | ((with_reducible refine rd_name (σ' := ?ss) ?hs ?_); (case hs => (dsimp only [List.set]; exact rfl)))
  | ((with_reducible refine rd_var (v := ?vv) ?hv ?_); (case hv => exact rfl)) | (with_reducible refine rd_c ?_) | (with_reducible refine rd_op ?_) | (with_reducible refine rd_un ?_)
  | (with_reducible refine rd_I0 ?_) | (with_reducible refine rd_U ?_) | (with_reducible refine rd_test ?_) | (with_reducible refine rd_B ?_) | (with_reducible refine rd_k ?_)
  | (with_reducible refine rd_not ?_) | (with_reducible refine rd_and ?_) | (with_reducible refine rd_or ?_)
  | (with_reducible refine rd_par ?_) | ((with_reducible refine rd_par2 (σ' := ?ss) ?hs ?_); (case hs => (dsimp only [List.set]; exact rfl)))
  | (with_reducible refine rd_gsub ?_) | (with_reducible refine rd_andV ?_) | (with_reducible refine rd_orV ?_) | (with_reducible refine rd_notV ?_)
  | (with_reducible refine rd_lc ?_) | (with_reducible refine rd_iTup ?_) | (with_reducible refine rd_iList ?_) | (with_reducible refine rd_iRng1 ?_) | (with_reducible refine rd_iRng2 ?_) | (with_reducible refine rd_iEnumT ?_) | (with_reducible refine rd_iEnum ?_) | (with_reducible refine rd_iZipM ?_) | (with_reducible refine rd_iEnumS ?_) | (with_reducible refine rd_iKeys ?_) | (with_reducible refine rd_din ?_) | (with_reducible refine rd_dnotin ?_)
  | (with_reducible refine rd_yes ?_) | (with_reducible refine rd_true ?_) | (with_reducible refine rd_false ?_) | (with_reducible refine rd_m1 ?_) | (with_reducible refine rd_isS ?_)
  | ((with_reducible refine rd_eq ?hs ?_); (case hs => exact rfl)) | ((with_reducible refine rd_ne ?hs ?_); (case hs => exact rfl))
  | (with_reducible refine rd_listRg ?_) | (with_reducible refine rd_rg2 ?_) | (with_reducible refine rd_rgk ?_)
  | (with_reducible refine rd_dnew ?_) | (with_reducible refine rd_ddel ?_) | (with_reducible refine rd_kw ?_) | (with_reducible refine rd_callS ?_) | (with_reducible refine rd_dc ?_) | (with_reducible refine rd_for ?_) | (with_reducible refine rd_tru ?_) | (with_reducible refine rd_truI ?_)
  | (with_reducible refine rd_nil ?_) | (with_reducible refine rd_cons ?_) | (with_reducible refine rd_call ?_) | (with_reducible refine rd_cb ?_)
  | (with_reducible refine rd_tup ?_) | (with_reducible refine rd_lst ?_) | (with_reducible refine rd_dget ?_) | (with_reducible refine rd_dput ?_) | (with_reducible refine rd_dget2 ?_) | (with_reducible refine rd_sl ?_)
  | (with_reducible refine rd_nopart ?_) | (with_reducible refine rd_part ?_) | (with_reducible refine rd_parti ?_) | (with_reducible refine rd_bm ?_) | (with_reducible refine rd_bm0 ?_)
  | (with_reducible refine rd_int ?_) | (with_reducible refine rd_intb ?_) | (with_reducible refine rd_abs ?_) | (with_reducible refine rd_min2 ?_) | (with_reducible refine rd_max2 ?_))
local macro_rules | `(tactic| walk_at "rvs") => `(tactic| repeat (walk_at "rv"))

/-- by names alone: the values stand the other way round -/
abbrev KwRev (fd : FuncData) (ks : List Str) : Prop := ∀ (s : Shared) (ws : List Value), ws.length = ks.length → BindsTo s fd ⟨[], ks.reverse.zip ws⟩ (ks.zip ws.reverse)
section
variable {P : Program} {w : World} {K : PySem.W.Frag} {mg : Str → Option Value} {base : Heap}
theorem ok_lsizes0 {f : Addr} {fd : FuncData} {k : Nat} : FnOk P w K mg base CX0 k f fd ["f"] (spLsz K 0) :=
  ⟨fun vs H Q E h => by
    obtain ⟨v, f, _, _, hm, _⟩ := h
    have := dp_pos f
    omega, fun A outer s H args us vs Q E hr e0 hb r hsp => by
    obtain ⟨v, f, _, _, hm, _⟩ := hsp
    have := dp_pos f
    omega⟩
theorem ok_lsizes {f fP : Addr} {fd fdP : FuncData} (F : Fun K "_law_low_sizes" "_law_low_sizes" s_law_low_sizes f fd) (T : Bl mg)
    (G_law_parts_of : FnOk P w K mg base CX0 1 fP fdP ["f"] (spPartsOf K)) (C_law_parts_of : Callee K mg "_law_parts_of" fP fdP ["f"])
    (C_law_low_sizes : Callee K mg "_law_low_sizes" f fd ["f"]) : ∀ m, FnOk P w K mg base CX0 (m + 1) f fd ["f"] (spLsz K m)
  | 0 => ok_lsizes0
  | m + 1 => ok_lsizes1 F T (by omega) G_law_parts_of C_law_parts_of (ok_lsizes F T G_law_parts_of C_law_parts_of C_law_low_sizes m) C_law_low_sizes
def spTold (K : PySem.W.Frag) : Sp := fun vs H Q _ => ∃ (v : V) (f : Fm) (b : Bool), vs = [v, .bl b] ∧ Dp K H v (dat f) ∧ okf f = true ∧ dt f ≤ 40 ∧ dt (low true f) ≤ 40 ∧ dp f ≤ 40 ∧ nd f ≤ 1000 ∧ nn true f ≤ 400 ∧ dd true f ≤ 40 ∧ ∀ H', Evl.Ex H H' → Q (.bl true) H'
theorem ok_told {f fL fO : Addr} {fd fdL fdO : FuncData} (F : Fun K "_law_is_told" "_law_is_told" s_law_is_told f fd) (T : Bl mg)
    (Glowered : FnOk P w K mg base CX0 82 fL fdL ["formula"] (spLowered K 40)) (Clowered : Callee K mg "lowered" fL fdL ["formula"]) (Klowered : KwRev fdL ["formula"])
    (G_law_low : FnOk P w K mg base CX0 41 fO fdO ["f", "side"] (spLow K 40)) (C_law_low : Callee K mg "_law_low" fO fdO ["f", "side"]) :
    FnG P w K mg base 83 f fd ["f", "is_named"] (spTold K) := by
  refine okG F sc_law_is_told (fun vs H Q E h => ?_) (fun cdv A outer s H vs Q E hr hg h => ?_)
  · obtain ⟨v, f, b, rfl, _⟩ := h
    rfl
  · obtain ⟨v, f, b, rfl, hv, ok, t1, t2, hm, hn, h1, h2, q⟩ := h
    refine ⟨_, (pss_cons (ps_par (i := 2) (j := 3) rfl sc_law_is_told.nd rfl rfl (by decide) rfl rfl (pa_cons (pe_callB (c_reprV (K := K) rfl hg hr.units) (by rfl) T.repr (by decide +kernel) (pa_cons (pv 0) pa_nil)) (pa_cons (pe_callB (c_reprV (K := K) rfl hg hr.units) (by rfl) T.repr (by decide +kernel) (pa_cons (pe_call G_law_low (hr.mono (by decide)) (by rfl) C_law_low.m C_law_low.k C_law_low.b .nil pass0 (pa_cons (pv 0) (pa_cons pe_bl pa_nil))) pa_nil)) pa_nil)) (by rfl))
 (pss_cons (ps_set (i := 4) sc_law_is_told.nd rfl (Or.inl rfl) (pe_ifExp (pt_val (pv 1)) (pe_kw (E := fun _ => E0) (ks := ["formula"]) (g := List.reverse) (gV := List.reverse) Glowered (hr.mono (by decide)) (by rfl) Clowered.m Clowered.k Klowered (fun _ r => rel_rev r) (fun _ => passAt0) (pk_cons (pv 0) pk_nil)) (pe_call Glowered (hr.mono (by decide)) (by rfl) Clowered.m Clowered.k Clowered.b .nil pass0 (pa_cons (pv 0) pa_nil))))
 (pss_one (ps_ret (pe_and (pe_cmpR op_eq (pe_callB (c_reprV (K := K) rfl hg hr.units) (by rfl) T.repr (by decide +kernel) (pa_cons (pv 4) pa_nil)) (pv 3) (nomark _)) (pe_and (pe_cmpR op_eq (pe_callB (c_reprV (K := K) rfl hg hr.units) (by rfl) T.repr (by decide +kernel) (pa_cons (pe_call Glowered (hr.mono (by decide)) (by rfl) Clowered.m Clowered.k Clowered.b .nil pass0 (pa_cons (pv 0) pa_nil)) pa_nil)) (pv 3) (nomark _)) (pe_one (pe_cmpR op_eq (pe_callB (c_reprV (K := K) rfl hg hr.units) (by rfl) T.repr (by decide +kernel) (pa_cons (pv 0) pa_nil)) (pv 2) (nomark _))))))))), ?_⟩
    have ff := fair_dat ok hn t1
    have fl := fair_dat (okf_low true f ok) (n := 400) (by rw [nd_low]; exact h1) t2
    have hd : ∀ {H'}, Evl.Ex H H' → Dp K H' v (dat f) := fun e => dpF_ex e hv
    generalize hfd : dat f = fde at ff
    generalize hld : dat (low true f) = lde at fl
    refine rd_start (σ' := [some v, some (.bl b), none, none, none]) rfl ?_
    walk_at "rvs"
    refine rd_reprV (.inl (hfd ▸ hv)) ff (by decide) (by decide) ?_
    walk_at "rvs"
    refine ⟨v, f, true, rfl, hv, hm, hn, fun x1 H1 e1 d1 => ?_⟩
    rw [hld] at d1
    walk_at "rvs"
    refine rd_reprV (.inl d1) fl (by decide) (by decide) ?_
    walk_at "rvs"
    refine rd_ifV (fun v' H' => Evl.Ex H H' ∧ Dp K H' v' lde) (fun N kN => ?_) fun v2 H3 hv2 => ?_
    · walk_at "rds"
      cases b with
      | true =>
        refine (if_pos rfl).mpr ?_
        walk_at "rds"
        refine ⟨rfl, v, f, rfl, hd e1, hm, hn, h1, h2, fun r H' e' d' => ?_⟩
        rw [hld] at d'
        exact kN _ _ ⟨e1.trans e', d'⟩
      | false =>
        refine (if_neg (by decide)).mpr ?_
        walk_at "rds"
        refine ⟨v, f, rfl, hd e1, hm, hn, h1, h2, fun r H' e' d' => ?_⟩
        rw [hld] at d'
        exact kN _ _ ⟨e1.trans e', d'⟩
    · obtain ⟨e3, d3⟩ := hv2
      walk_at "rds"
      refine rd_reprV (.inl d3) fl (by decide) (by decide) ?_
      walk_at "rds"
      refine (if_pos (decide_eq_true rfl)).mpr ?_
      walk_at "rds"
      refine ⟨v, f, rfl, hd e3, hm, hn, h1, h2, fun r H4 e4 d4 => ?_⟩
      rw [hld] at d4
      walk_at "rds"
      refine rd_reprV (.inl d4) fl (by decide) (by decide) ?_
      walk_at "rds"
      refine (if_pos (decide_eq_true rfl)).mpr ?_
      have e4 := e3.trans e4
      walk_at "rds"
      refine rd_reprV (.inl (hfd ▸ hd e4)) ff (by decide) (by decide) ?_
      walk_at "rds"
      rw [decide_eq_true (rfl : V.str fde.shown = V.str fde.shown)]
      exact q _ e4
end
end KA
set_option Elab.async false
set_option linter.all false
set_option maxRecDepth 100000
set_option maxHeartbeats 400000
set_option pp.maxSteps 300
namespace KA
open PySem PySem.Spec PyProof.Rows L2 Ea
abbrev s_law_formula : Stmt := topS 25
theorem sc_law_formula : FnScope ["bag", "names", "size", "more", "way", "name", "half", "many", "parts", "turn"] ["bag", "names", "size", "more"] (defScope s_law_formula) :=
  ⟨rfl, rfl, rfl, by decide +kernel, rfl, by decide +kernel, by decide +kernel⟩
local macro_rules | `(tactic| walk_at "rd") => `(tactic| first
  | (with_reducible refine rd_seq ?_) | (with_reducible refine rd_asg ?_) | (with_reducible refine rd_if ?_) | (with_reducible refine rd_ret ?_) | (with_reducible refine rd_next ?_)
  | (with_reducible refine rd_drop ?_) | ((with_reducible refine rd_name (σ' := ?ss) ?hs ?_); (case hs => (dsimp only [List.set]; exact rfl)))
  | ((with_reducible refine rd_var (v := ?vv) ?hv ?_); (case hv => exact rfl)) | (with_reducible refine rd_c ?_) | (with_reducible refine rd_op ?_) | (with_reducible refine rd_un ?_)
  | (with_reducible refine rd_I0 ?_) | (with_reducible refine rd_U ?_) | (with_reducible refine rd_test ?_) | (with_reducible refine rd_B ?_) | (with_reducible refine rd_k ?_)
  | (with_reducible refine rd_not ?_) | (with_reducible refine rd_and ?_) | (with_reducible refine rd_or ?_) | (with_reducible refine rd_ifE ?_)
  | (with_reducible refine rd_par ?_) | ((with_reducible refine rd_par2 (σ' := ?ss) ?hs ?_); (case hs => (dsimp only [List.set]; exact rfl)))
  | (with_reducible refine rd_gsub ?_) | (with_reducible refine rd_andV ?_) | (with_reducible refine rd_orV ?_) | (with_reducible refine rd_notV ?_)
  | (with_reducible refine rd_lc ?_) | (with_reducible refine rd_iTup ?_) | (with_reducible refine rd_iList ?_) | (with_reducible refine rd_iRng1 ?_) | (with_reducible refine rd_iRng2 ?_) | (with_reducible refine rd_iEnumT ?_) | (with_reducible refine rd_iEnum ?_) | (with_reducible refine rd_iZipM ?_) | (with_reducible refine rd_iEnumS ?_) | (with_reducible refine rd_iKeys ?_) | (with_reducible refine rd_din ?_) | (with_reducible refine rd_dnotin ?_)
  | (with_reducible refine rd_yes ?_) | (with_reducible refine rd_true ?_) | (with_reducible refine rd_false ?_) | (with_reducible refine rd_m1 ?_) | (with_reducible refine rd_isS ?_)
  | ((with_reducible refine rd_eq ?hs ?_); (case hs => exact rfl)) | ((with_reducible refine rd_ne ?hs ?_); (case hs => exact rfl))
  | (with_reducible refine rd_listRg ?_) | (with_reducible refine rd_rg2 ?_) | (with_reducible refine rd_rgk ?_)
  | (with_reducible refine rd_dnew ?_) | (with_reducible refine rd_ddel ?_) | (with_reducible refine rd_kw ?_) | (with_reducible refine rd_callS ?_) | (with_reducible refine rd_dc ?_) | (with_reducible refine rd_for ?_) | (with_reducible refine rd_tru ?_) | (with_reducible refine rd_truI ?_)
  | (with_reducible refine rd_nil ?_) | (with_reducible refine rd_cons ?_) | (with_reducible refine rd_call ?_) | (with_reducible refine rd_cb ?_)
  | (with_reducible refine rd_tup ?_) | (with_reducible refine rd_lst ?_) | (with_reducible refine rd_dget ?_) | (with_reducible refine rd_dput ?_) | (with_reducible refine rd_dget2 ?_) | (with_reducible refine rd_sl ?_)
  | (with_reducible refine rd_nopart ?_) | (with_reducible refine rd_part ?_) | (with_reducible refine rd_parti ?_) | (with_reducible refine rd_bm ?_) | (with_reducible refine rd_bm0 ?_)
  | (with_reducible refine rd_int ?_) | (with_reducible refine rd_intb ?_) | (with_reducible refine rd_abs ?_) | (with_reducible refine rd_min2 ?_) | (with_reducible refine rd_max2 ?_))
local macro_rules | `(tactic| walk_at "rds") => `(tactic| repeat (walk_at "rd"))
local macro_rules | `(tactic| walk_at "rq") => `(tactic| first
  | (with_reducible refine rd_seq ?_) | (with_reducible refine rd_asg ?_) | (with_reducible refine rd_ret ?_) | (with_reducible refine rd_next ?_)
  | (with_reducible refine rd_drop ?_) | ((with_reducible refine rd_name (σ' := ?ss) ?hs ?_); (case hs => (dsimp only [List.set]; exact rfl)))
  | ((with_reducible refine rd_var (v := ?vv) ?hv ?_); (case hv => exact rfl)) | (with_reducible refine rd_c ?_) | (with_reducible refine rd_op ?_) | (with_reducible refine rd_un ?_)
  | (with_reducible refine rd_I0 ?_) | (with_reducible refine rd_U ?_) | (with_reducible refine rd_test ?_) | (with_reducible refine rd_B ?_) | (with_reducible refine rd_k ?_)
  | (with_reducible refine rd_not ?_) | (with_reducible refine rd_and ?_) | (with_reducible refine rd_or ?_) | (with_reducible refine rd_ifE ?_)
  | (with_reducible refine rd_par ?_) | ((with_reducible refine rd_par2 (σ' := ?ss) ?hs ?_); (case hs => (dsimp only [List.set]; exact rfl)))
  | (with_reducible refine rd_gsub ?_) | (with_reducible refine rd_andV ?_) | (with_reducible refine rd_orV ?_) | (with_reducible refine rd_notV ?_)
  | (with_reducible refine rd_lc ?_) | (with_reducible refine rd_iTup ?_) | (with_reducible refine rd_iList ?_) | (with_reducible refine rd_iRng1 ?_) | (with_reducible refine rd_iRng2 ?_) | (with_reducible refine rd_iEnumT ?_) | (with_reducible refine rd_iEnum ?_) | (with_reducible refine rd_iZipM ?_) | (with_reducible refine rd_iEnumS ?_) | (with_reducible refine rd_iKeys ?_) | (with_reducible refine rd_din ?_) | (with_reducible refine rd_dnotin ?_)
  | (with_reducible refine rd_yes ?_) | (with_reducible refine rd_true ?_) | (with_reducible refine rd_false ?_) | (with_reducible refine rd_m1 ?_) | (with_reducible refine rd_isS ?_)
  | ((with_reducible refine rd_eq ?hs ?_); (case hs => exact rfl)) | ((with_reducible refine rd_ne ?hs ?_); (case hs => exact rfl))
  | (with_reducible refine rd_listRg ?_) | (with_reducible refine rd_rg2 ?_) | (with_reducible refine rd_rgk ?_)
  | (with_reducible refine rd_dnew ?_) | (with_reducible refine rd_ddel ?_) | (with_reducible refine rd_kw ?_) | (with_reducible refine rd_callS ?_) | (with_reducible refine rd_dc ?_) | (with_reducible refine rd_for ?_) | (with_reducible refine rd_tru ?_) | (with_reducible refine rd_truI ?_)
  | (with_reducible refine rd_nil ?_) | (with_reducible refine rd_cons ?_) | (with_reducible refine rd_call ?_) | (with_reducible refine rd_cb ?_)
  | (with_reducible refine rd_tup ?_) | (with_reducible refine rd_lst ?_) | (with_reducible refine rd_dget ?_) | (with_reducible refine rd_dput ?_) | (with_reducible refine rd_dget2 ?_) | (with_reducible refine rd_sl ?_)
  | (with_reducible refine rd_nopart ?_) | (with_reducible refine rd_part ?_) | (with_reducible refine rd_parti ?_) | (with_reducible refine rd_bm ?_) | (with_reducible refine rd_bm0 ?_)
  | (with_reducible refine rd_int ?_) | (with_reducible refine rd_intb ?_) | (with_reducible refine rd_abs ?_) | (with_reducible refine rd_min2 ?_) | (with_reducible refine rd_max2 ?_))
local macro_rules | `(tactic| walk_at "rqs") => `(tactic| repeat (walk_at "rq"))
local macro_rules | `(tactic| walk_at "rv") => `(tactic| first
  | (with_reducible refine rd_seq ?_) | (with_reducible refine rd_asg ?_) | (with_reducible refine rd_ret ?_) | (with_reducible refine rd_next ?_)
  | (with_reducible refine rd_drop ?_) | ((with_reducible refine rd_name (σ' := ?ss) ?hs ?_); (case hs => (dsimp only [List.set]; exact rfl)))
  | ((with_reducible refine rd_var (v := ?vv) ?hv ?_); (case hv => exact rfl)) | (with_reducible refine rd_c ?_) | (with_reducible refine rd_op ?_) | (with_reducible refine rd_un ?_)
  | (with_reducible refine rd_I0 ?_) | (with_reducible refine rd_U ?_) | (with_reducible refine rd_test ?_) | (with_reducible refine rd_B ?_) | (with_reducible refine rd_k ?_)
  | (with_reducible refine rd_not ?_) | (with_reducible refine rd_and ?_) | (with_reducible refine rd_or ?_)
  | (with_reducible refine rd_par ?_) | ((with_reducible refine rd_par2 (σ' := ?ss) ?hs ?_); (case hs => (dsimp only [List.set]; exact rfl)))
  | (with_reducible refine rd_gsub ?_) | (with_reducible refine rd_andV ?_) | (with_reducible refine rd_orV ?_) | (with_reducible refine rd_notV ?_)
  | (with_reducible refine rd_lc ?_) | (with_reducible refine rd_iTup ?_) | (with_reducible refine rd_iList ?_) | (with_reducible refine rd_iRng1 ?_) | (with_reducible refine rd_iRng2 ?_) | (with_reducible refine rd_iEnumT ?_) | (with_reducible refine rd_iEnum ?_) | (with_reducible refine rd_iZipM ?_) | (with_reducible refine rd_iEnumS ?_) | (with_reducible refine rd_iKeys ?_) | (with_reducible refine rd_din ?_) | (with_reducible refine rd_dnotin ?_)
  | (with_reducible refine rd_yes ?_) | (with_reducible refine rd_true ?_) | (with_reducible refine rd_false ?_) | (with_reducible refine rd_m1 ?_) | (with_reducible refine rd_isS ?_)
  | ((with_reducible refine rd_eq ?hs ?_); (case hs => exact rfl)) | ((with_reducible refine rd_ne ?hs ?_); (case hs => exact rfl))
  | (with_reducible refine rd_listRg ?_) | (with_reducible refine rd_rg2 ?_) | (with_reducible refine rd_rgk ?_)
  | (with_reducible refine rd_dnew ?_) | (with_reducible refine rd_ddel ?_) | (with_reducible refine rd_kw ?_) | (with_reducible refine rd_callS ?_) | (with_reducible refine rd_dc ?_) | (with_reducible refine rd_for ?_) | (with_reducible refine rd_tru ?_) | (with_reducible refine rd_truI ?_)
  | (with_reducible refine rd_nil ?_) | (with_reducible refine rd_cons ?_) | (with_reducible refine rd_call ?_) | (with_reducible refine rd_cb ?_)
  | (with_reducible refine rd_tup ?_) | (with_reducible refine rd_lst ?_) | (with_reducible refine rd_dget ?_) | (with_reducible refine rd_dput ?_) | (with_reducible refine rd_dget2 ?_) | (with_reducible refine rd_sl ?_)
  | (with_reducible refine rd_nopart ?_) | (with_reducible refine rd_part ?_) | (with_reducible refine rd_parti ?_) | (with_reducible refine rd_bm ?_) | (with_reducible refine rd_bm0 ?_)
  | (with_reducible refine rd_int ?_) | (with_reducible refine rd_intb ?_) | (with_reducible refine rd_abs ?_) | (with_reducible refine rd_min2 ?_) | (with_reducible refine rd_max2 ?_))
local macro_rules | `(tactic| walk_at "rvs") => `(tactic| repeat (walk_at "rv"))

section
variable {d l : Addr} {K : PySem.W.Frag} {σ : L2.St} {H H1 : Hp} {Q : VK} {te : TE} {vs : List Nat} {j : Nat} {σx : V → L2.St}
theorem Gt.back (g : Gt d l H H1) (h : DeckT d l H) {p : Addr} (e : H1 p = none) : H p = none := by
  obtain ⟨n1, n2⟩ := g.dk.off e
  cases q : H p with
  | none => rfl
  | some o =>
    rw [g.kp p o n1 n2 q] at e
    cases e
/-- formulas drawn one behind the other -/
theorem lc_gtF {lo : Int} {n : Nat} (B : Fm → Prop) (hD : DeckT d l H) (hz : n ≤ 40000) (hσ : ∀ x, (wipe σ vs).set j (some x) = σx x) (hw : ∀ x, wipe (σx x) vs = wipe σ vs)
    (hs : ∀ i, i < n → ∀ (H' : Hp) (N : VK), Gt d l H H' → (∀ x f H3, Gt d l H' H3 → Dp K H3 x (dat f) → B f → N x H3) → te (σx (.int (lo + i))) H' N)
    (hd : ∀ D acc fs H', Gt d l H H' → H D = none → H' D = some (.lst acc) → DpAll K H' acc (dats fs) → fs.length = n → (∀ f ∈ fs, B f) → Q (.ref D) H') : LcR (gName j) tYes te vs σ Q (Itr lo n) H := fun D hn =>
  lc_range (fun i H' => i ≤ n ∧ Gt d l H H' ∧ ∃ acc fs, H' D = some (.lst acc) ∧ fs.length = i ∧ DpAll K H' acc (dats fs) ∧ ∀ f ∈ fs, B f) ⟨Nat.zero_le _, Gt.new hD hn, [], [], upd_same, rfl, .nil, nofun⟩ (fun i H' hi p => by
    rw [show gName j (.int (lo + i)) (wipe σ vs) H' = fun N => N (σx (.int (lo + i))) H' from funext fun N => by rw [← hσ (.int (lo + i))] <;> rfl]
    refine ⟨hw _, rd_yes ?_⟩
    rw [if_pos rfl]
    obtain ⟨_, g, acc, fs, ea, hl, hp, hb⟩ := p
    obtain ⟨n1, n2⟩ := hD.off hn
    refine hs i hi H' _ g fun x f H3 g3 d3 b3 => ?_
    have e3 := g3.kp D _ n1 n2 ea
    have la : acc.length = i := by rw [dps_len hp, dats_map, List.length_map, hl]
    refine ⟨acc, e3, Evl.sz_lt (by omega), hi, Gt.mut (g.trans g3) hD hn, acc ++ [x], fs ++ [f], upd_same, by rw [List.length_append, hl] <;> rfl, dps_snoc (dps_upd e3 (dpsF_gt g3 g.dk hp)) (dpF_upd e3 d3), fun f2 hf => ?_⟩
    rcases List.mem_append.mp hf with h | h
    · exact hb f2 h
    · rw [List.mem_singleton.mp h]
      exact b3) fun H' p => by
    obtain ⟨_, g, acc, fs, ea, hl, hp, hb⟩ := p
    exact hd D acc fs H' g hn ea hp hl hb
end
theorem rd_orB {tt tu : TT} {σ : L2.St} {H : Hp} {QB : Bool → Hp → Prop} (J : Bool → Hp → Prop) (h1 : ∀ Q' : Bool → Hp → Prop, (∀ b H', J b H' → Q' b H') → tOr tt tu σ H Q') (h : ∀ b H', J b H' → QB b H') : tOr tt tu σ H QB := h1 QB h
theorem mk_letter {K : PySem.W.Frag} {H : Hp} {z : Str} {q : Addr} (s : SqT K H q [.str "letter", .str z]) : Dp K H (.ref q) (dat (.letter z)) := by
  rw [dat]
  exact .tup s (.cons (.str _) (.cons (.str _) .nil))
theorem mk_same {K : PySem.W.Frag} {H : Hp} {x y : V} {f g : Fm} {q : Addr} (s : SqT K H q [.str "same", x, y]) (h : Dp K H x (dat f)) (h2 : Dp K H y (dat g)) : Dp K H (.ref q) (dat (.same f g)) := by
  rw [dat]
  exact .tup s (.cons (.str _) (.cons h (.cons h2 .nil)))
def nms (k : Nat) : List Str := (["a", "b", "x", "eachx"] : List Str).take k
theorem nms_okz : ∀ z ∈ (["a", "b", "x", "eachx"] : List Str), okz z = true := by decide
theorem nms_shaped : ∀ k, k ≤ 4 → SeqAt.shaped (.list ((nms k).map PyData.str)) = true
  | 0, _ => by decide
  | 1, _ => by decide +kernel
  | 2, _ => by decide +kernel
  | 3, _ => by decide +kernel
  | 4, _ => by decide +kernel
  | k + 5, h => absurd h (by omega)
theorem dps_strs {K : PySem.W.Frag} {H : Hp} : ∀ zs : List Str, DpAll K H (zs.map V.str) (zs.map PyData.str)
  | [] => .nil
  | z :: t => .cons (.str z) (dps_strs t)
section
variable {P : Program} {w : World} {K : PySem.W.Frag} {mg : Str → Option Value} {base : Heap}
def spFm (K : PySem.W.Frag) (m : Nat) : Sp := fun vs H Q _ => ∃ (d l p : Addr) (nk : Nat) (n : Nat), vs = [.ref d, .ref p, .int (n : Int), .int 0] ∧ n < m ∧ m ≤ 1000 ∧ DeckT d l H ∧ H p = some (.lst ((nms nk).map V.str)) ∧ p ≠ d ∧ p ≠ l ∧ nk ≤ 4 ∧
  ∀ (x : V) (f : Fm) (H' : Hp), Gt d l H H' → Dp K H' x (dat f) → Bt n f → Q x H'
theorem ok_fm0 {f : Addr} {fd : FuncData} {k : Nat} : FnOk P w K mg base CX0 k f fd ["bag", "names", "size", "more"] (spFm K 0) :=
  ⟨fun vs H Q E h => by
    obtain ⟨d, l, p, nk, n, _, hm, _⟩ := h
    exact absurd hm (Nat.not_lt_zero _), fun A outer s H args us vs Q E hr e0 hb r hsp => by
    obtain ⟨d, l, p, nk, n, _, hm, _⟩ := hsp
    exact absurd hm (Nat.not_lt_zero _)⟩
theorem ok_fm1 {f fD fP : Addr} {fd fdD fdP : FuncData} (F : Fun K "_law_formula" "_law_formula" s_law_formula f fd) (T : Bl mg) {m k : Nat} (hk1 : 1 ≤ k) (hk2 : 2 ≤ k)
    (G_law_take : FnOk P w K mg base CX0 1 fD fdD ["bag", "many"] spTake) (C_law_take : Callee K mg "_law_take" fD fdD ["bag", "many"])
    (G_law_pick : FnOk P w K mg base CX0 2 fP fdP ["bag", "some"] spPick) (C_law_pick : Callee K mg "_law_pick" fP fdP ["bag", "some"])
    (G_law_formula : FnOk P w K mg base CX0 k f fd ["bag", "names", "size", "more"] (spFm K m)) (C_law_formula : Callee K mg "_law_formula" f fd ["bag", "names", "size", "more"]) :
    FnOk P w K mg base CX0 (k + 1) f fd ["bag", "names", "size", "more"] (spFm K (m + 1)) := by
  refine F.ok sc_law_formula (fun vs H Q E h => ?_) (fun cdv A outer s H vs Q E hr h => ?_)
  · obtain ⟨d, l, p, nk, n, rfl, _⟩ := h
    rfl
  · obtain ⟨d, l, p, nk, n, rfl, hn, hm, hD, hp, n1, n2, hnk, q⟩ := h
    refine ⟨_, (pss_cons (ps_set (i := 4) sc_law_formula.nd rfl (Or.inl rfl) (pe_call G_law_take (hr.mono hk1) (by rfl) C_law_take.m C_law_take.k C_law_take.b .nil pass0 (pa_cons (pv 0) (pa_cons pe_int pa_nil))))
 (pss_cons (ps_if (PW.pt (pw_or (pt_cmpR op_lt (pv 2) pe_int (nomark _)) (pw_or1 (pt_cmpR op_eq (pv 4) pe_int (nomark _))))) (pss_cons (ps_if (PW.pt (pw_or (pt_cmpR (ok_eqD (K := K) rfl hr.units) (pv 1) (pe_lst pa_nil) (nomark _)) (pw_or1 (pt_cmpR op_eq (pe_call G_law_take (hr.mono hk1) (by rfl) C_law_take.m C_law_take.k C_law_take.b .nil pass0 (pa_cons (pv 0) (pa_cons pe_int pa_nil))) pe_int (nomark _))))) (pss_one (ps_ret (pe_tup (pa_cons (pe_call G_law_pick (hr.mono hk2) (by rfl) C_law_pick.m C_law_pick.k C_law_pick.b .nil pass0 (pa_cons (pv 0) (pa_cons (pe_lst (pa_cons pe_str (pa_cons pe_str pa_nil))) pa_nil))) (pa_cons (pe_tup pa_nil) pa_nil))))) pss_nil)
 (pss_one (ps_ret (pe_tup (pa_cons pe_str (pa_cons (pe_call G_law_pick (hr.mono hk2) (by rfl) C_law_pick.m C_law_pick.k C_law_pick.b .nil pass0 (pa_cons (pv 0) (pa_cons (pv 1) pa_nil))) pa_nil)))))) pss_nil)
 (pss_cons (ps_if (pt_cmpR op_lt (pv 4) pe_int (nomark _)) (pss_one (ps_ret (pe_tup (pa_cons pe_str (pa_cons (pe_call G_law_formula hr (by rfl) C_law_formula.m C_law_formula.k C_law_formula.b .nil pass0 (pa_cons (pv 0) (pa_cons (pv 1) (pa_cons (pe_op op_sub (pv 2) pe_int) (pa_cons (pv 3) pa_nil))))) pa_nil))))) pss_nil)
 (pss_cons (ps_if (PW.pt (pw_and (pt_cmpR op_lt (pv 4) pe_int (nomark _)) (pw_and1 (pt_cmpR op_gt (pv 3) pe_int (nomark _))))) (pss_cons (ps_set (i := 5) sc_law_formula.nd rfl (Or.inl rfl) (pe_call G_law_pick (hr.mono hk2) (by rfl) C_law_pick.m C_law_pick.k C_law_pick.b .nil pass0 (pa_cons (pv 0) (pa_cons (pe_lst (pa_cons pe_str (pa_cons pe_str (pa_cons pe_str (pa_cons pe_str pa_nil))))) pa_nil))))
 (pss_one (ps_ret (pe_tup (pa_cons (pe_call G_law_pick (hr.mono hk2) (by rfl) C_law_pick.m C_law_pick.k C_law_pick.b .nil pass0 (pa_cons (pv 0) (pa_cons (pe_lst (pa_cons pe_str (pa_cons pe_str pa_nil))) pa_nil))) (pa_cons (pv 5) (pa_cons (pe_call G_law_formula hr (by rfl) C_law_formula.m C_law_formula.k C_law_formula.b .nil pass0 (pa_cons (pv 0) (pa_cons (pe_op op_cat (pv 1) (pe_lst (pa_cons (pv 5) pa_nil))) (pa_cons (pe_op op_sub (pv 2) pe_int) (pa_cons (pe_op op_sub (pv 3) pe_int) pa_nil))))) pa_nil))))))) pss_nil)
 (pss_cons (ps_if (pt_cmpR op_eq (pv 4) pe_int (nomark _)) (pss_cons (ps_set (i := 6) sc_law_formula.nd rfl (Or.inl rfl) (pe_op op_fdiv (pv 2) pe_int))
 (pss_one (ps_ret (pe_tup (pa_cons pe_str (pa_cons (pe_call G_law_formula hr (by rfl) C_law_formula.m C_law_formula.k C_law_formula.b .nil pass0 (pa_cons (pv 0) (pa_cons (pv 1) (pa_cons (pv 6) (pa_cons (pv 3) pa_nil))))) (pa_cons (pe_call G_law_formula hr (by rfl) C_law_formula.m C_law_formula.k C_law_formula.b .nil pass0 (pa_cons (pv 0) (pa_cons (pv 1) (pa_cons (pv 6) (pa_cons (pv 3) pa_nil))))) pa_nil))))))) pss_nil)
 (pss_cons (ps_set (i := 7) sc_law_formula.nd rfl (Or.inr rfl) (pe_op op_add pe_int (pe_call G_law_take (hr.mono hk1) (by rfl) C_law_take.m C_law_take.k C_law_take.b .nil pass0 (pa_cons (pv 0) (pa_cons pe_int pa_nil)))))
 (pss_cons (ps_setLc (i := 8) (own := [("turn", 9)]) (g := gName 9) rfl sc_law_formula.nd rfl rfl (sw_true rfl rfl rfl (by decide +kernel)) (pi_range1 (by rfl) T.range (pa_cons (pv 7) pa_nil)) (blkOk_by (own := [("turn", 9)]) (N := ["bag", "names", "size", "more", "way", "name", "half", "many", "parts", "turn"]) (sc := defScope s_law_formula) (by decide +kernel)) (fun _ _ _ _ _ => (pg_name (i := 9) sc_law_formula.nd rfl (Or.inl rfl))) (fun _ _ _ _ _ => pts_nil) (fun _ _ _ _ _ => (pe_call G_law_formula hr (by rfl) C_law_formula.m C_law_formula.k C_law_formula.b .nil pass0 (pa_cons (pv 0) (pa_cons (pv 1) (pa_cons (pe_op op_fdiv (pe_op op_sub (pv 2) pe_int) (pv 7)) (pa_cons (pv 3) pa_nil)))))))
 (pss_one (ps_ret (pe_tup (pa_cons (pe_call G_law_pick (hr.mono hk2) (by rfl) C_law_pick.m C_law_pick.k C_law_pick.b .nil pass0 (pa_cons (pv 0) (pa_cons (pe_lst (pa_cons pe_str (pa_cons pe_str pa_nil))) pa_nil))) (pa_cons (pe_callTy (c_tuple (K := K) rfl) (by rfl) T.tuple (by decide +kernel) (pa_cons (pv 8) pa_nil)) pa_nil)))))))))))), ?_⟩
    refine rd_start (σ' := [some (.ref d), some (.ref p), some (.int (n : Int)), some (.int 0), none, none, none, none, none, none]) rfl ?_
    walk_at "rds"
    refine ⟨d, l, 13, rfl, hD, by decide, by decide, fun way H1 g1 w0 w1 => ?_⟩
    walk_at "rqs"
    have nl : (nms nk).length ≤ 4 := List.length_take_le' _ _
    have nokz : ∀ z ∈ nms nk, okz z = true := fun z hz => nms_okz z (List.mem_of_mem_take hz)
    refine rd_ifI (fun σ' H' => σ' = [some (.ref d), some (.ref p), some (.int (n : Int)), some (.int 0), some (.int way), none, none, none, none, none] ∧ H' = H1 ∧ 2 ≤ n) (fun N kN => ?_) fun σ' H' hI => ?_
    · refine rd_if ?_
      refine rd_orB (fun b H' => H' = H1 ∧ (b = true ∨ (b = false ∧ 2 ≤ n))) (fun Q' kQ => ?_) fun b H' hb => ?_
      · walk_at "rds"
        refine rd_ite (fun c => kQ _ _ ⟨rfl, .inl rfl⟩) (fun c => ?_)
        walk_at "rds"
        exact kQ _ _ ⟨rfl, (Bool.eq_false_or_eq_true _).imp id fun h => ⟨h, by omega⟩⟩
      obtain ⟨rfl, hb⟩ := hb
      refine rd_iteb (fun c => ?_) (fun c => ?_)
      · walk_at "rqs"
        refine rd_ifI (fun σ' H' => σ' = [some (.ref d), some (.ref p), some (.int (n : Int)), some (.int 0), some (.int way), none, none, none, none, none] ∧ Gt d l H H' ∧ nms nk ≠ []) (fun N kN => ?_) fun σ' H2 hI => ?_
        · refine rd_if ?_
          refine rd_orB (fun b H' => Gt d l H H' ∧ (b = true ∨ nms nk ≠ [])) (fun Q' kQ => ?_) fun b H2 hb => ?_
          · walk_at "rds"
            refine ⟨Nat.zero_le _, fun p0 hp0 => ?_⟩
            have g2 := Gt.new (o := .lst []) g1.dk hp0
            have e2 := Evl.Ex.new (o := .lst []) hp0
            refine ⟨.list ((nms nk).map PyData.str), .list [], .lst (SqL.of (e2 _ _ (g1.kp p _ n1 n2 hp))) (dps_strs _), .lst (SqL.of upd_same) .nil, nms_shaped _ hnk, by decide, ?_⟩
            refine ⟨_, rfl, ?_⟩
            refine rd_iteb (fun c => kQ true _ ⟨g1.trans g2, .inl rfl⟩) (fun c => ?_)
            have hne : nms nk ≠ [] := fun e => by
              rw [e] at c
              exact absurd c (by decide +kernel)
            walk_at "rds"
            refine ⟨d, l, 9, rfl, g2.dk, by decide, by decide, fun w2 H3 g3 _ _ => ?_⟩
            walk_at "rds"
            exact kQ _ _ ⟨(g1.trans g2).trans g3, .inr hne⟩
          obtain ⟨g2, hb⟩ := hb
          refine rd_iteb (fun c => ?_) (fun c => ?_)
          · walk_at "rds"
            refine ⟨(by show 2 ≤ sizeLine; decide), fun p1 hp1 => ?_⟩
            obtain ⟨m1, m2⟩ := g2.dk.off hp1
            have g3 := Gt.new (o := .lst [V.str "and", .str "or"]) g2.dk hp1
            walk_at "rds"
            refine ⟨d, l, p1, [V.str "and", .str "or"], rfl, g3.dk, upd_same, m1, m2, by decide, by decide, fun y H4 g4 hy => ?_⟩
            obtain ⟨cb, rfl⟩ : ∃ cb, y = V.str (cw cb) := by
              simp only [List.mem_cons, List.not_mem_nil, or_false] at hy
              rcases hy with rfl | rfl
              · exact ⟨true, rfl⟩
              · exact ⟨false, rfl⟩
            walk_at "rds"
            refine ⟨Nat.zero_le _, fun t1 ht1 => ?_⟩
            have g5 := Gt.new (o := .tup []) g4.dk ht1
            walk_at "rds"
            refine ⟨(by show 2 ≤ sizeLine; decide), fun t2 ht2 => ?_⟩
            have g6 := Gt.new (o := .tup [V.str (cw cb), .ref t1]) g5.dk ht2
            have e6 := Evl.Ex.new (o := .tup [V.str (cw cb), .ref t1]) ht2
            exact q _ (.conn cb []) _ (g2.trans (g3.trans (g4.trans (g5.trans g6)))) (mk_conn (Evl.ex_t e6 (SqT.of upd_same)) .nil (SqT.of upd_same)) (.nil _ _)
          · walk_at "rds"
            exact kN _ _ ⟨rfl, g2, hb.resolve_left (by rw [c]; decide)⟩
        obtain ⟨rfl, g2, hne⟩ := hI
        walk_at "rds"
        have h1 : 1 ≤ (nms nk).length := by
          cases hq : nms nk with
          | nil => exact absurd hq hne
          | cons a t => exact Nat.succ_pos _
        refine ⟨d, l, p, (nms nk).map V.str, rfl, g2.dk, g2.kp p _ n1 n2 hp, n1, n2, by rw [List.length_map]; exact h1, by rw [List.length_map]; omega, fun y H4 g4 hy => ?_⟩
        obtain ⟨z, hz, rfl⟩ := List.mem_map.mp hy
        walk_at "rds"
        refine ⟨(by show 2 ≤ sizeLine; decide), fun t2 ht2 => ?_⟩
        have g5 := Gt.new (o := .tup [V.str "letter", .str z]) g4.dk ht2
        exact q _ (.letter z) _ (g2.trans (g4.trans g5)) (mk_letter (SqT.of upd_same)) (.letter _ _ (nokz z hz))
      · walk_at "rds"
        exact kN _ _ ⟨rfl, rfl, (hb.resolve_left (by rw [c]; decide)).2⟩
    obtain ⟨rfl, rfl, hn2⟩ := hI
    have hp1 := g1.kp p _ n1 n2 hp
    walk_at "rqs"
    refine rd_ifI (fun σ' H2 => σ' = [some (.ref d), some (.ref p), some (.int (n : Int)), some (.int 0), some (.int way), none, none, none, none, none] ∧ H2 = H') (fun N kN => ?_) fun σ' H2 hI => ?_
    · refine rd_if ?_
      walk_at "rds"
      refine rd_ite (fun c => ?_) (fun c => ?_)
      · walk_at "rds"
        refine ⟨d, l, p, nk, n - 1, by rw [show (n : Int) - 1 = ((n - 1 : Nat) : Int) by omega] <;> rfl, by omega, by omega, g1.dk, hp1, n1, n2, hnk, fun x f H3 g3 d3 b3 => ?_⟩
        walk_at "rds"
        refine ⟨(by show 2 ≤ sizeLine; decide), fun t2 ht2 => ?_⟩
        have g5 := Gt.new (o := .tup [V.str "not", x]) g3.dk ht2
        have b4 := Bt.no (n - 1) f b3
        rw [show n - 1 + 1 = n by omega] at b4
        exact q _ (.no f) _ (g1.trans (g3.trans g5)) (mk_no (SqT.of upd_same) (dpF_ex (Evl.Ex.new ht2) d3)) b4
      · walk_at "rds"
        exact kN _ _ ⟨rfl, rfl⟩
    obtain ⟨rfl, rfl⟩ := hI
    walk_at "rqs"
    refine rd_ifI (fun σ' H3 => σ' = [some (.ref d), some (.ref p), some (.int (n : Int)), some (.int 0), some (.int way), none, none, none, none, none] ∧ H3 = H2) (fun N kN => ?_) fun σ' H3 hI => ?_
    · refine rd_if ?_
      walk_at "rds"
      refine rd_ite (fun c => ?_) (fun c => ?_)
      · walk_at "rds"
        refine rd_ite (fun c => absurd c (by decide)) (fun c => ?_)
        walk_at "rds"
        exact kN _ _ ⟨rfl, rfl⟩
      · walk_at "rds"
        exact kN _ _ ⟨rfl, rfl⟩
    obtain ⟨rfl, rfl⟩ := hI
    walk_at "rqs"
    refine rd_ifI (fun σ' H4 => σ' = [some (.ref d), some (.ref p), some (.int (n : Int)), some (.int 0), some (.int way), none, none, none, none, none] ∧ H4 = H3) (fun N kN => ?_) fun σ' H4 hI => ?_
    · refine rd_if ?_
      walk_at "rds"
      refine rd_ite (fun c => ?_) (fun c => ?_)
      · walk_at "rds"
        refine rd_I ⟨by decide, by decide⟩ ?_
        have eh : (n : Int) / 2 = ((n / 2 : Nat) : Int) := by omega
        walk_at "rds"
        refine ⟨d, l, p, nk, n / 2, by rw [eh] <;> rfl, by omega, by omega, g1.dk, hp1, n1, n2, hnk, fun x f H4 g4 d4 b4 => ?_⟩
        walk_at "rds"
        have g14 := g1.trans g4
        refine ⟨d, l, p, nk, n / 2, by rw [eh] <;> rfl, by omega, by omega, g4.dk, g4.kp p _ n1 n2 hp1, n1, n2, hnk, fun y g H5 g5 d5 b5 => ?_⟩
        walk_at "rds"
        refine ⟨(by show 3 ≤ sizeLine; decide), fun t2 ht2 => ?_⟩
        have g6 := Gt.new (o := .tup [V.str "same", x, y]) g5.dk ht2
        have e6 := Evl.Ex.new (o := .tup [V.str "same", x, y]) ht2
        exact q _ (.same f g) _ (g14.trans (g5.trans g6)) (mk_same (SqT.of upd_same) (dpF_ex e6 (dpF_gt g5 g4.dk d4)) (dpF_ex e6 d5)) (.same n f g hn2 b4 b5)
      · walk_at "rds"
        exact kN _ _ ⟨rfl, rfl⟩
    obtain ⟨rfl, rfl⟩ := hI
    walk_at "rds"
    refine ⟨d, l, 2, rfl, g1.dk, by decide, by decide, fun kk H5 g5 k0 k1 => ?_⟩
    obtain ⟨k, hkk, hk2, hk3⟩ : ∃ k : Nat, 2 + kk = (k : Int) ∧ 2 ≤ k ∧ k ≤ 3 := ⟨(2 + kk).toNat, by omega, by omega, by omega⟩
    walk_at "rds"
    rw [hkk]
    refine ⟨(k : Int), rfl, by omega, by omega, ?_⟩
    rw [Int.toNat_natCast]
    have g15 := g1.trans g5
    have eq1 : ((n : Int) - 1) / (k : Int) = (((n - 1) / k : Nat) : Int) := by
      rw [show (n : Int) - 1 = ((n - 1 : Nat) : Int) by omega] <;> rfl
    have hlt : (n - 1) / k ≤ n - 1 := Nat.div_le_self _ _
    refine lc_gtF (K := K) (lo := 0) (Bt ((n - 1) / k)) g5.dk (by omega) (σx := fun x => [some (.ref d), some (.ref p), some (.int (n : Int)), some (.int 0), some (.int way), none, none, some (.int (k : Int)), none, some x]) (fun _ => rfl) (fun _ => rfl) (fun i hi H6 N g6 kN => ?_) fun D acc fs H6 g6 hDn hDa hx hl hb => ?_
    · walk_at "rds"
      refine rd_I ⟨by omega, by omega⟩ ?_
      walk_at "rds"
      refine ⟨d, l, p, nk, (n - 1) / k, by rw [eq1] <;> rfl, by omega, by omega, g6.dk, (g15.trans g6).kp p _ n1 n2 hp, n1, n2, hnk, fun x f H7 g7 d7 b7 => kN x f H7 g7 d7 b7⟩
    have g16 := g15.trans g6
    walk_at "rds"
    refine ⟨(by show 2 ≤ sizeLine; decide), fun p1 hp1 => ?_⟩
    obtain ⟨m1, m2⟩ := g16.dk.off hp1
    have g7 := Gt.new (o := .lst [V.str "and", .str "or"]) g16.dk hp1
    have e7 := Evl.Ex.new (o := .lst [V.str "and", .str "or"]) hp1
    walk_at "rds"
    refine ⟨d, l, p1, [V.str "and", .str "or"], rfl, g7.dk, upd_same, m1, m2, by decide, by decide, fun y H8 g8 hy => ?_⟩
    obtain ⟨cb, rfl⟩ : ∃ cb, y = V.str (cw cb) := by
      simp only [List.mem_cons, List.not_mem_nil, or_false] at hy
      rcases hy with rfl | rfl
      · exact ⟨true, rfl⟩
      · exact ⟨false, rfl⟩
    have D1 := g5.dk.off hDn
    have hx8 := dpsF_gt g8 g7.dk (dpsF_ex e7 hx)
    walk_at "rds"
    refine rd_tupL (SqL.of (g8.kp D _ D1.1 D1.2 (e7 _ _ hDa))) fun t1 ht1 => ?_
    have g9 := Gt.new (o := .tup acc) g8.dk ht1
    have e9 := Evl.Ex.new (o := .tup acc) ht1
    walk_at "rds"
    refine ⟨(by show 2 ≤ sizeLine; decide), fun t2 ht2 => ?_⟩
    have g10 := Gt.new (o := .tup [V.str (cw cb), .ref t1]) g9.dk ht2
    have e10 := Evl.Ex.new (o := .tup [V.str (cw cb), .ref t1]) ht2
    exact q _ (.conn cb fs) _ (g16.trans (g7.trans (g8.trans (g9.trans g10)))) (mk_conn (Evl.ex_t e10 (SqT.of upd_same)) (dpsF_ex (e9.trans e10) hx8) (SqT.of upd_same)) (.conn n k cb fs hn2 hk2 hk3 hl hb)
theorem ok_fm {f fD fP : Addr} {fd fdD fdP : FuncData} (F : Fun K "_law_formula" "_law_formula" s_law_formula f fd) (T : Bl mg)
    (G_law_take : FnOk P w K mg base CX0 1 fD fdD ["bag", "many"] spTake) (C_law_take : Callee K mg "_law_take" fD fdD ["bag", "many"])
    (G_law_pick : FnOk P w K mg base CX0 2 fP fdP ["bag", "some"] spPick) (C_law_pick : Callee K mg "_law_pick" fP fdP ["bag", "some"])
    (C_law_formula : Callee K mg "_law_formula" f fd ["bag", "names", "size", "more"]) : ∀ m, FnOk P w K mg base CX0 (m + 2) f fd ["bag", "names", "size", "more"] (spFm K m)
  | 0 => ok_fm0
  | m + 1 => ok_fm1 F T (by omega) (by omega) G_law_take C_law_take G_law_pick C_law_pick (ok_fm F T G_law_take C_law_take G_law_pick C_law_pick C_law_formula m) C_law_formula
end
end KA
set_option Elab.async false
set_option linter.all false
set_option maxRecDepth 100000
set_option maxHeartbeats 400000
set_option pp.maxSteps 300
namespace KA
open PySem PySem.Spec PyProof.Rows L2 Ea
abbrev slaw : Stmt := topS 29
theorem sclaw : FnScope ["script", "bag", "turn", "names", "f", "sizes", "a", "b", "c", "same", "some", "deep", "own"] ["script"] (defScope slaw) :=
  ⟨rfl, rfl, rfl, by decide +kernel, rfl, by decide +kernel, by decide +kernel⟩
local macro_rules | `(tactic| walk_at "rd") => `(tactic| first
  | (with_reducible refine rd_seq ?_) | (with_reducible refine rd_asg ?_) | (with_reducible refine rd_if ?_) | (with_reducible refine rd_ret ?_) | (with_reducible refine rd_next ?_)
  | (with_reducible refine rd_drop ?_) | ((with_reducible refine rd_name (σ' := ?ss) ?hs ?_); (case hs => (dsimp only [List.set]; exact rfl)))
  | ((with_reducible refine rd_var (v := ?vv) ?hv ?_); (case hv => exact rfl)) | (with_reducible refine rd_c ?_) | (with_reducible refine rd_op ?_) | (with_reducible refine rd_un ?_)
  | (with_reducible refine rd_I0 ?_) | (with_reducible refine rd_U ?_) | (with_reducible refine rd_test ?_) | (with_reducible refine rd_B ?_) | (with_reducible refine rd_k ?_)
  | (with_reducible refine rd_not ?_) | (with_reducible refine rd_and ?_) | (with_reducible refine rd_or ?_) | (with_reducible refine rd_ifE ?_)
  | (with_reducible refine rd_par ?_) | ((with_reducible refine rd_par2 (σ' := ?ss) ?hs ?_); (case hs => (dsimp only [List.set]; exact rfl)))
  | (with_reducible refine rd_gsub ?_) | (with_reducible refine rd_andV ?_) | (with_reducible refine rd_orV ?_) | (with_reducible refine rd_notV ?_)
  | (with_reducible refine rd_lc ?_) | (with_reducible refine rd_iTup ?_) | (with_reducible refine rd_iList ?_) | (with_reducible refine rd_iRng1 ?_) | (with_reducible refine rd_iRng2 ?_) | (with_reducible refine rd_iEnumT ?_) | (with_reducible refine rd_iEnum ?_) | (with_reducible refine rd_iZipM ?_) | (with_reducible refine rd_iEnumS ?_) | (with_reducible refine rd_iKeys ?_) | (with_reducible refine rd_din ?_) | (with_reducible refine rd_dnotin ?_)
  | (with_reducible refine rd_yes ?_) | (with_reducible refine rd_true ?_) | (with_reducible refine rd_false ?_) | (with_reducible refine rd_m1 ?_) | (with_reducible refine rd_isS ?_)
  | ((with_reducible refine rd_eq ?hs ?_); (case hs => exact rfl)) | ((with_reducible refine rd_ne ?hs ?_); (case hs => exact rfl))
  | (with_reducible refine rd_listRg ?_) | (with_reducible refine rd_rg2 ?_) | (with_reducible refine rd_rgk ?_)
  | (with_reducible refine rd_dnew ?_) | (with_reducible refine rd_ddel ?_) | (with_reducible refine rd_kw ?_) | (with_reducible refine rd_callS ?_) | (with_reducible refine rd_dc ?_) | (with_reducible refine rd_for ?_) | (with_reducible refine rd_tru ?_) | (with_reducible refine rd_truI ?_)
  | (with_reducible refine rd_nil ?_) | (with_reducible refine rd_cons ?_) | (with_reducible refine rd_call ?_) | (with_reducible refine rd_cb ?_)
  | (with_reducible refine rd_tup ?_) | (with_reducible refine rd_lst ?_) | (with_reducible refine rd_dget ?_) | (with_reducible refine rd_dput ?_) | (with_reducible refine rd_dget2 ?_) | (with_reducible refine rd_sl ?_)
  | (with_reducible refine rd_nopart ?_) | (with_reducible refine rd_part ?_) | (with_reducible refine rd_parti ?_) | (with_reducible refine rd_bm ?_) | (with_reducible refine rd_bm0 ?_)
  | (with_reducible refine rd_int ?_) | (with_reducible refine rd_intb ?_) | (with_reducible refine rd_abs ?_) | (with_reducible refine rd_min2 ?_) | (with_reducible refine rd_max2 ?_))
local macro_rules | `(tactic| walk_at "rds") => `(tactic| repeat (walk_at "rd"))
local macro_rules | `(tactic| walk_at "rq") => `(tactic| first
  | (with_reducible refine rd_seq ?_) | (with_reducible refine rd_asg ?_) | (with_reducible refine rd_ret ?_) | (with_reducible refine rd_next ?_)
  | (with_reducible refine rd_drop ?_) | ((with_reducible refine rd_name (σ' := ?ss) ?hs ?_); (case hs => (dsimp only [List.set]; exact rfl)))
  | ((with_reducible refine rd_var (v := ?vv) ?hv ?_); (case hv => exact rfl)) | (with_reducible refine rd_c ?_) | (with_reducible refine rd_op ?_) | (with_reducible refine rd_un ?_)
  | (with_reducible refine rd_I0 ?_) | (with_reducible refine rd_U ?_) | (with_reducible refine rd_test ?_) | (with_reducible refine rd_B ?_) | (with_reducible refine rd_k ?_)
  | (with_reducible refine rd_not ?_) | (with_reducible refine rd_and ?_) | (with_reducible refine rd_or ?_) | (with_reducible refine rd_ifE ?_)
  | (with_reducible refine rd_par ?_) | ((with_reducible refine rd_par2 (σ' := ?ss) ?hs ?_); (case hs => (dsimp only [List.set]; exact rfl)))
  | (with_reducible refine rd_gsub ?_) | (with_reducible refine rd_andV ?_) | (with_reducible refine rd_orV ?_) | (with_reducible refine rd_notV ?_)
  | (with_reducible refine rd_lc ?_) | (with_reducible refine rd_iTup ?_) | (with_reducible refine rd_iList ?_) | (with_reducible refine rd_iRng1 ?_) | (with_reducible refine rd_iRng2 ?_) | (with_reducible refine rd_iEnumT ?_) | (with_reducible refine rd_iEnum ?_) | (with_reducible refine rd_iZipM ?_) | (with_reducible refine rd_iEnumS ?_) | (with_reducible refine rd_iKeys ?_) | (with_reducible refine rd_din ?_) | (with_reducible refine rd_dnotin ?_)
  | (with_reducible refine rd_yes ?_) | (with_reducible refine rd_true ?_) | (with_reducible refine rd_false ?_) | (with_reducible refine rd_m1 ?_) | (with_reducible refine rd_isS ?_)
  | ((with_reducible refine rd_eq ?hs ?_); (case hs => exact rfl)) | ((with_reducible refine rd_ne ?hs ?_); (case hs => exact rfl))
  | (with_reducible refine rd_listRg ?_) | (with_reducible refine rd_rg2 ?_) | (with_reducible refine rd_rgk ?_)
  | (with_reducible refine rd_dnew ?_) | (with_reducible refine rd_ddel ?_) | (with_reducible refine rd_kw ?_) | (with_reducible refine rd_callS ?_) | (with_reducible refine rd_dc ?_) | (with_reducible refine rd_for ?_) | (with_reducible refine rd_tru ?_) | (with_reducible refine rd_truI ?_)
  | (with_reducible refine rd_nil ?_) | (with_reducible refine rd_cons ?_) | (with_reducible refine rd_call ?_) | (with_reducible refine rd_cb ?_)
  | (with_reducible refine rd_tup ?_) | (with_reducible refine rd_lst ?_) | (with_reducible refine rd_dget ?_) | (with_reducible refine rd_dput ?_) | (with_reducible refine rd_dget2 ?_) | (with_reducible refine rd_sl ?_)
  | (with_reducible refine rd_nopart ?_) | (with_reducible refine rd_part ?_) | (with_reducible refine rd_parti ?_) | (with_reducible refine rd_bm ?_) | (with_reducible refine rd_bm0 ?_)
  | (with_reducible refine rd_int ?_) | (with_reducible refine rd_intb ?_) | (with_reducible refine rd_abs ?_) | (with_reducible refine rd_min2 ?_) | (with_reducible refine rd_max2 ?_))
local macro_rules | `(tactic| walk_at "rqs") => `(tactic| repeat (walk_at "rq"))
local macro_rules | `(tactic| walk_at "rv") => `(tactic| first
  | (with_reducible refine rd_seq ?_) | (with_reducible refine rd_asg ?_) | (with_reducible refine rd_ret ?_) | (with_reducible refine rd_next ?_)
  | (with_reducible refine rd_drop ?_) | ((with_reducible refine rd_name (σ' := ?ss) ?hs ?_); (case hs => (dsimp only [List.set]; exact rfl)))
  | ((with_reducible refine rd_var (v := ?vv) ?hv ?_); (case hv => exact rfl)) | (with_reducible refine rd_c ?_) | (with_reducible refine rd_op ?_) | (with_reducible refine rd_un ?_)
  | (with_reducible refine rd_I0 ?_) | (with_reducible refine rd_U ?_) | (with_reducible refine rd_test ?_) | (with_reducible refine rd_B ?_) | (with_reducible refine rd_k ?_)
  | (with_reducible refine rd_not ?_) | (with_reducible refine rd_and ?_) | (with_reducible refine rd_or ?_)
  | (with_reducible refine rd_par ?_) | ((with_reducible refine rd_par2 (σ' := ?ss) ?hs ?_); (case hs => (dsimp only [List.set]; exact rfl)))
  | (with_reducible refine rd_gsub ?_) | (with_reducible refine rd_andV ?_) | (with_reducible refine rd_orV ?_) | (with_reducible refine rd_notV ?_)
  | (with_reducible refine rd_lc ?_) | (with_reducible refine rd_iTup ?_) | (with_reducible refine rd_iList ?_) | (with_reducible refine rd_iRng1 ?_) | (with_reducible refine rd_iRng2 ?_) | (with_reducible refine rd_iEnumT ?_) | (with_reducible refine rd_iEnum ?_) | (with_reducible refine rd_iZipM ?_) | (with_reducible refine rd_iEnumS ?_) | (with_reducible refine rd_iKeys ?_) | (with_reducible refine rd_din ?_) | (with_reducible refine rd_dnotin ?_)
  | (with_reducible refine rd_yes ?_) | (with_reducible refine rd_true ?_) | (with_reducible refine rd_false ?_) | (with_reducible refine rd_m1 ?_) | (with_reducible refine rd_isS ?_)
  | ((with_reducible refine rd_eq ?hs ?_); (case hs => exact rfl)) | ((with_reducible refine rd_ne ?hs ?_); (case hs => exact rfl))
  | (with_reducible refine rd_listRg ?_) | (with_reducible refine rd_rg2 ?_) | (with_reducible refine rd_rgk ?_)
  | (with_reducible refine rd_dnew ?_) | (with_reducible refine rd_ddel ?_) | (with_reducible refine rd_kw ?_) | (with_reducible refine rd_callS ?_) | (with_reducible refine rd_dc ?_) | (with_reducible refine rd_for ?_) | (with_reducible refine rd_tru ?_) | (with_reducible refine rd_truI ?_)
  | (with_reducible refine rd_nil ?_) | (with_reducible refine rd_cons ?_) | (with_reducible refine rd_call ?_) | (with_reducible refine rd_cb ?_)
  | (with_reducible refine rd_tup ?_) | (with_reducible refine rd_lst ?_) | (with_reducible refine rd_dget ?_) | (with_reducible refine rd_dput ?_) | (with_reducible refine rd_dget2 ?_) | (with_reducible refine rd_sl ?_)
  | (with_reducible refine rd_nopart ?_) | (with_reducible refine rd_part ?_) | (with_reducible refine rd_parti ?_) | (with_reducible refine rd_bm ?_) | (with_reducible refine rd_bm0 ?_)
  | (with_reducible refine rd_int ?_) | (with_reducible refine rd_intb ?_) | (with_reducible refine rd_abs ?_) | (with_reducible refine rd_min2 ?_) | (with_reducible refine rd_max2 ?_))
local macro_rules | `(tactic| walk_at "rvs") => `(tactic| repeat (walk_at "rv"))

theorem told_of {f : Fm} {n : Nat} (h : Bt n f) (hn : n ≤ 24) : okf f = true ∧ dt f ≤ 26 ∧ dp f ≤ 25 ∧ nd f ≤ 142 ∧ ∀ b, dt (low b f) ≤ 22 := by
  obtain ⟨h1, h2, h3, h4, h5⟩ := h.bounds
  exact ⟨h1, by omega, by omega, by omega, fun b => h5 5 (by omega) b⟩
theorem letter_new {K : PySem.W.Frag} {H : Hp} {z : Str} {p : Addr} (_hp : H p = none) : Dp K (upd H p (.tup [V.str "letter", .str z])) (.ref p) (dat (.letter z)) := mk_letter (SqT.of upd_same)
/-- small formulas behind i nots -/
def Sm (i : Nat) (f : Fm) : Prop := okf f = true ∧ dt f ≤ 5 + i ∧ dp f ≤ 5 + i ∧ nd f ≤ 60 + i ∧ dt (low true f) ≤ 12 ∧ dt (low false f) ≤ 12 ∧ nn true f ≤ 100 ∧ nn false f ≤ 100 ∧ dd true f ≤ 20 ∧ dd false f ≤ 20
instance (i : Nat) (f : Fm) : Decidable (Sm i f) := by unfold Sm; infer_instance
theorem Sm.no {i : Nat} {f : Fm} (h : Sm i f) : Sm (i + 1) (.no f) := by
  obtain ⟨h1, h2, h3, h4, h5, h6, h7, h8, h9, h10⟩ := h
  exact ⟨h1, by rw [dt]; omega, by rw [dp]; omega, by rw [nd]; omega, h6, h5, h8, h7, h10, h9⟩
theorem Sm.mono {i j : Nat} {f : Fm} (h : Sm i f) (hij : i ≤ j) : Sm j f := by
  obtain ⟨h1, h2, h3, h4, h5⟩ := h
  exact ⟨h1, by omega, by omega, by omega, h5⟩
/-- a comprehension whose test is never met -/
theorem lc_noneL {K : PySem.W.Frag} {σ : L2.St} {H : Hp} {Q : VK} {tt : TT} {te : TE} {vs : List Nat} {j : Nat} {a : Addr} {xs : List V} {σx : V → L2.St} (hx : SqL K H a xs) (hσ : ∀ x, (wipe σ vs).set j (some x) = σx x) (hw : ∀ x, wipe (σx x) vs = wipe σ vs)
    (hs : ∀ x ∈ xs, ∀ (H' : Hp) (N : VK) (S : Hp → Prop), Evl.Ex H H' → (∀ H3, Evl.Ex H' H3 → S H3) → tt (σx x) H' fun b H2 => if b = true then te (σx x) H2 N else S H2)
    (hd : ∀ D H', Evl.Ex H H' → H D = none → H' D = some (.lst []) → Q (.ref D) H') : LcR (gName j) tt te vs σ Q (Itl K a) H := fun D hn =>
  lc_list (xs := xs) (fun _ H' => Evl.Ex H H' ∧ H' D = some (.lst [])) ⟨Evl.Ex.new hn, upd_same⟩ (fun _ H' _ p => Evl.ex_l p.1 hx) (fun i x H' hi p => by
    rw [show gName j x (wipe σ vs) H' = fun N => N (σx x) H' from funext fun N => by rw [← hσ x] <;> rfl]
    exact ⟨hw x, hs x (List.mem_of_getElem? hi) H' _ _ p.1 fun H3 e3 => ⟨p.1.trans e3, e3 _ _ p.2⟩⟩) fun H' p => hd D H' p.1 hn p.2
section
variable {P : Program} {w : World} {K : PySem.W.Frag} {mg : Str → Option Value} {base : Heap}
def spLaw (K : PySem.W.Frag) : Sp := fun vs H Q _ => ∃ (a : Addr) (ns : List Int), vs = [.ref a] ∧ SqL K H a (ns.map V.int) ∧ ns.length ≤ 63 ∧ ∀ H', Q (.bl true) H'
theorem ok_law {f fB fD fP fF fS fI : Addr} {fd fdB fdD fdP fdF fdS fdI : FuncData} (F : Fun K "law" "law" slaw f fd) (T : Bl mg)
    (G_law_bag : FnOk P w K mg base CX0 1 fB fdB ["script"] (spBag K)) (C_law_bag : Callee K mg "_law_bag" fB fdB ["script"])
    (G_law_take : FnOk P w K mg base CX0 1 fD fdD ["bag", "many"] spTake) (C_law_take : Callee K mg "_law_take" fD fdD ["bag", "many"])
    (G_law_pick : FnOk P w K mg base CX0 2 fP fdP ["bag", "some"] spPick) (C_law_pick : Callee K mg "_law_pick" fP fdP ["bag", "some"])
    (G_law_formula : FnOk P w K mg base CX0 27 fF fdF ["bag", "names", "size", "more"] (spFm K 25)) (C_law_formula : Callee K mg "_law_formula" fF fdF ["bag", "names", "size", "more"])
    (G_law_low_sizes : FnOk P w K mg base CX0 41 fS fdS ["f"] (spLsz K 40)) (C_law_low_sizes : Callee K mg "_law_low_sizes" fS fdS ["f"])
    (G_law_is_told : FnG P w K mg base 83 fI fdI ["f", "is_named"] (spTold K)) (C_law_is_told : Callee K mg "_law_is_told" fI fdI ["f", "is_named"]) :
    FnG P w K mg base 84 f fd ["script"] (spLaw K) := by
  refine okG F sclaw (fun vs H Q E h => ?_) (fun cdv A outer s H vs Q E hr hg h => ?_)
  · obtain ⟨a, ns, rfl, _⟩ := h
    rfl
  · obtain ⟨a, ns, rfl, ha, hl, q⟩ := h
    refine ⟨_, (pss_cons (ps_set (i := 1) sclaw.nd rfl (Or.inl rfl) (pe_call G_law_bag (hr.mono (by decide)) (by rfl) C_law_bag.m C_law_bag.k C_law_bag.b .nil pass0 (pa_cons (pv 0) pa_nil)))
 (pss_cons (ps_for PassesOwn.never rfl (pi_range1 (by rfl) T.range (pa_cons pe_int pa_nil)) (pg_name (i := 2) sclaw.nd rfl (Or.inl rfl)) (pss_cons (ps_set (i := 3) sclaw.nd rfl (Or.inl rfl) (pe_slice (sk_list (K := K) rfl) (pe_lst (pa_cons pe_str (pa_cons pe_str (pa_cons pe_str (pa_cons pe_str pa_nil))))) po_none (po_some (pe_call G_law_take (hr.mono (by decide)) (by rfl) C_law_take.m C_law_take.k C_law_take.b .nil pass0 (pa_cons (pv 1) (pa_cons pe_int pa_nil))))))
 (pss_cons (ps_set (i := 4) sclaw.nd rfl (Or.inl rfl) (pe_call G_law_formula (hr.mono (by decide)) (by rfl) C_law_formula.m C_law_formula.k C_law_formula.b .nil pass0 (pa_cons (pv 1) (pa_cons (pv 3) (pa_cons (pe_call G_law_pick (hr.mono (by decide)) (by rfl) C_law_pick.m C_law_pick.k C_law_pick.b .nil pass0 (pa_cons (pv 1) (pa_cons (pe_lst (pa_cons pe_int (pa_cons pe_int (pa_cons pe_int (pa_cons pe_int (pa_cons pe_int pa_nil)))))) pa_nil))) (pa_cons pe_int pa_nil))))))
 (pss_cons (ps_set (i := 5) sclaw.nd rfl (Or.inl rfl) (pe_call G_law_low_sizes (hr.mono (by decide)) (by rfl) C_law_low_sizes.m C_law_low_sizes.k C_law_low_sizes.b .nil pass0 (pa_cons (pv 4) pa_nil)))
 (pss_one (ps_if (PW.pt (pw_and (pt_cmpR op_lt (pe_callB (c_max2 rfl) (by rfl) T.max (by decide +kernel) (pa_cons (pe_ix (ik_list (K := K) rfl) (pe_ix (ik_list (K := K) rfl) (pv 5) pe_int (fun _ _ => rfl)) pe_int (fun _ _ => rfl)) (pa_cons (pe_ix (ik_list (K := K) rfl) (pe_ix (ik_list (K := K) rfl) (pv 5) pe_int (fun _ _ => rfl)) pe_int (fun _ _ => rfl)) pa_nil))) pe_int (nomark _)) (pw_and1 (pt_cmpR op_lt (pe_callB (c_max2 rfl) (by rfl) T.max (by decide +kernel) (pa_cons (pe_ix (ik_list (K := K) rfl) (pe_ix (ik_list (K := K) rfl) (pv 5) pe_int (fun _ _ => rfl)) pe_int (fun _ _ => rfl)) (pa_cons (pe_ix (ik_list (K := K) rfl) (pe_ix (ik_list (K := K) rfl) (pv 5) pe_int (fun _ _ => rfl)) pe_int (fun _ _ => rfl)) pa_nil))) pe_int (nomark _))))) (pss_one (ps_if (PW.pt (pw_or (pt_not (pt_val (pe_callG G_law_is_told (hr.mono (by decide)) hg (by rfl) C_law_is_told.m C_law_is_told.k C_law_is_told.b (pa_cons (pv 4) (pa_cons (pe_cmpR op_eq (pv 2) pe_int (nomark _)) pa_nil))))) (pw_or1 (pt_not (pt_val (pe_callG G_law_is_told (hr.mono (by decide)) hg (by rfl) C_law_is_told.m C_law_is_told.k C_law_is_told.b (pa_cons (pe_tup (pa_cons pe_str (pa_cons (pv 4) pa_nil))) (pa_cons pe_bl pa_nil)))))))) (pss_one (ps_ret pe_bl)) pss_nil)) pss_nil))))))
 (pss_cons (ps_asg (pe_tup (pa_cons (pe_tup (pa_cons pe_str (pa_cons pe_str pa_nil))) (pa_cons (pe_tup (pa_cons pe_str (pa_cons pe_str pa_nil))) (pa_cons (pe_tup (pa_cons pe_str (pa_cons pe_str pa_nil))) pa_nil)))) (pgk_tup (K := K) rfl rfl (pgs_cons (pg_name (i := 6) sclaw.nd rfl (Or.inl rfl)) (pgs_cons (pg_name (i := 7) sclaw.nd rfl (Or.inl rfl)) (pgs_cons (pg_name (i := 8) sclaw.nd rfl (Or.inl rfl)) pgs_nil)))))
 (pss_cons (ps_set (i := 9) sclaw.nd rfl (Or.inl rfl) (pe_tup (pa_cons pe_str (pa_cons (pe_tup (pa_cons pe_str (pa_cons (pv 6) pa_nil))) (pa_cons (pe_tup (pa_cons pe_str (pa_cons (pe_tup (pa_cons (pv 7) (pa_cons (pe_tup (pa_cons pe_str (pa_cons (pv 8) pa_nil))) pa_nil))) pa_nil))) pa_nil)))))
 (pss_cons (ps_set (i := 10) sclaw.nd rfl (Or.inl rfl) (pe_lst (pa_cons (pv 9) (pa_cons (pe_tup (pa_cons pe_str (pa_cons (pv 9) (pa_cons (pe_tup (pa_cons pe_str (pa_cons (pe_tup (pa_cons (pv 6) (pa_cons (pe_tup (pa_cons pe_str (pa_cons (pe_tup (pa_cons pe_str (pa_cons (pv 7) (pa_cons (pv 8) pa_nil)))) pa_nil))) pa_nil))) pa_nil))) pa_nil)))) (pa_cons (pe_tup (pa_cons pe_str (pa_cons (pe_tup (pa_cons pe_str (pa_cons (pe_tup (pa_cons (pv 9) (pa_cons (pe_tup (pa_cons pe_str (pa_cons (pe_tup pa_nil) pa_nil))) (pa_cons (pv 6) pa_nil)))) pa_nil))) pa_nil))) pa_nil)))))
 (pss_cons (ps_set (i := 10) sclaw.nd rfl (Or.inl rfl) (pe_op op_cat (pv 10) (pe_lst (pa_cons (pe_tup (pa_cons pe_str (pa_cons (pe_tup (pa_cons (pe_tup (pa_cons pe_str (pa_cons (pe_tup pa_nil) pa_nil))) (pa_cons (pe_tup (pa_cons pe_str (pa_cons (pe_tup (pa_cons pe_str (pa_cons (pe_tup (pa_cons (pv 6) (pa_cons (pv 7) (pa_cons (pv 8) pa_nil)))) pa_nil))) pa_nil))) (pa_cons (pe_tup (pa_cons pe_str (pa_cons (pe_tup (pa_cons pe_str (pa_cons (pv 6) pa_nil))) pa_nil))) pa_nil)))) pa_nil))) (pa_cons (pe_tup (pa_cons pe_str (pa_cons (pe_tup (pa_cons pe_str (pa_cons (pe_tup pa_nil) pa_nil))) (pa_cons (pv 6) pa_nil)))) pa_nil)))))
 (pss_cons (ps_set (i := 11) sclaw.nd rfl (Or.inl rfl) (pe_call G_law_pick (hr.mono (by decide)) (by rfl) C_law_pick.m C_law_pick.k C_law_pick.b .nil pass0 (pa_cons (pv 1) (pa_cons (pe_lst (pa_cons (pv 6) (pa_cons (pv 9) (pa_cons (pe_tup (pa_cons pe_str (pa_cons (pe_tup (pa_cons (pv 6) (pa_cons (pe_tup (pa_cons pe_str (pa_cons (pv 7) pa_nil))) pa_nil))) pa_nil))) pa_nil)))) pa_nil))))
 (pss_cons (ps_for PassesOwn.never rfl (pi_range1 (by rfl) T.range (pa_cons (pe_call G_law_pick (hr.mono (by decide)) (by rfl) C_law_pick.m C_law_pick.k C_law_pick.b .nil pass0 (pa_cons (pv 1) (pa_cons (pe_lst (pa_cons pe_int (pa_cons pe_int (pa_cons pe_int (pa_cons pe_int pa_nil))))) pa_nil))) pa_nil)) (pg_name (i := 2) sclaw.nd rfl (Or.inl rfl)) (pss_one (ps_set (i := 11) sclaw.nd rfl (Or.inl rfl) (pe_tup (pa_cons pe_str (pa_cons (pv 11) pa_nil))))))
 (pss_one (ps_ret (pe_cmpR (ok_eqD (K := K) rfl hr.units) (pe_lc (own := [("own", 12)]) (g := gName 12) rfl sclaw.nd (ik_listI (K := K) rfl (pe_op op_cat (pv 10) (pe_lst (pa_cons (pv 11) pa_nil)))) (blkOk_by (own := [("own", 12)]) (N := ["script", "bag", "turn", "names", "f", "sizes", "a", "b", "c", "same", "some", "deep", "own"]) (sc := defScope slaw) (by decide +kernel)) (fun _ _ _ _ _ => (pg_name (i := 12) sclaw.nd rfl (Or.inl rfl))) (fun _ _ _ _ _ => (pts_one (pt_not (pt_val (pe_callG G_law_is_told (hr.mono (by decide)) hg (by rfl) C_law_is_told.m C_law_is_told.k C_law_is_told.b (pa_cons (pv 12) (pa_cons pe_bl pa_nil))))))) (fun _ _ _ _ _ => pe_int)) (pe_lst pa_nil) (nomark _)))))))))))), ?_⟩
    refine rd_start (σ' := [some (.ref a), none, none, none, none, none, none, none, none, none, none, none, none]) rfl ?_
    walk_at "rvs"
    refine ⟨a, ns, rfl, ha, hl, fun d l H1 e1 hd hl0 hD1 => ?_⟩
    walk_at "rvs"
    refine rd_rng1 (by decide) (by decide) ?_
    refine fr_range (lo := 0) (n := 10) (fun i σ' H' => ∃ x2 x3 x4 x5 : Option V, σ' = [some (.ref a), some (.ref d), x2, x3, x4, x5, none, none, none, none, none, none, none] ∧ DeckT d l H')
      ⟨_, _, _, _, rfl, hD1⟩ (fun i σ' H2 hi hP => ?_) fun σ' H2 hP => ?_
    · obtain ⟨x2, x3, x4, x5, rfl, hD2⟩ := hP
      refine rd_start (σ' := [some (.ref a), some (.ref d), some (.int (0 + (i : Int))), x3, x4, x5, none, none, none, none, none, none, none]) rfl ?_
      walk_at "rvs"
      refine ⟨(by show 4 ≤ sizeLine; decide), fun p1 hp1 => ?_⟩
      have g1 := Gt.new (o := .lst [V.str "a", .str "b", .str "x", .str "eachx"]) hD2 hp1
      obtain ⟨m1, m2⟩ := hD2.off hp1
      walk_at "rvs"
      refine ⟨d, l, 5, rfl, g1.dk, by decide, by decide, fun r H3 g3 r0 r1 => ?_⟩
      obtain ⟨nk, rfl, hnk⟩ : ∃ nk : Nat, r = (nk : Int) ∧ nk ≤ 4 := ⟨r.toNat, by omega, by omega⟩
      walk_at "rvs"
      have hp3 := g3.kp p1 _ m1 m2 (upd_same (H := H2) (a := p1) (o := .lst [V.str "a", .str "b", .str "x", .str "eachx"]))
      refine rd_slL (SqL.of hp3) fun u hu => ?_
      have hcut : cutV [V.str "a", .str "b", .str "x", .str "eachx"] none (some (nk : Int)) = (nms nk).map V.str := by
        rw [cut_take (Int.natCast_nonneg nk), Int.toNat_natCast]
        unfold nms
        rw [List.map_take] <;> rfl
      rw [hcut]
      have g4 := Gt.new (o := .lst ((nms nk).map V.str)) g3.dk hu
      obtain ⟨u1, u2⟩ := g3.dk.off hu
      have hD4 := g4.dk
      have hu4 : (upd H3 u (.lst ((nms nk).map V.str))) u = some (.lst ((nms nk).map V.str)) := upd_same
      generalize (upd H3 u (.lst ((nms nk).map V.str))) = H4 at hD4 hu4 ⊢
      clear g4 g3 g1 hp3 hD2
      walk_at "rvs"
      refine ⟨(by show 5 ≤ sizeLine; decide), fun p2 hp2 => ?_⟩
      have g5 := Gt.new (o := .lst [V.int 1, .int 4, .int 9, .int 16, .int 24]) hD4 hp2
      have e5 := Evl.Ex.new (o := .lst [V.int 1, .int 4, .int 9, .int 16, .int 24]) hp2
      obtain ⟨v1, v2⟩ := hD4.off hp2
      walk_at "rvs"
      refine ⟨d, l, p2, _, rfl, g5.dk, upd_same, v1, v2, by show 1 ≤ 5; decide, by show 5 ≤ 1000; decide, fun y H5 g6 hy => ?_⟩
      obtain ⟨n, rfl, hn⟩ : ∃ n : Nat, y = .int (n : Int) ∧ n ≤ 24 := by
        simp only [List.mem_cons, List.not_mem_nil, or_false] at hy
        rcases hy with rfl | rfl | rfl | rfl | rfl
        · exact ⟨1, rfl, by decide⟩
        · exact ⟨4, rfl, by decide⟩
        · exact ⟨9, rfl, by decide⟩
        · exact ⟨16, rfl, by decide⟩
        · exact ⟨24, rfl, by decide⟩
      have hu5 := g6.kp u _ u1 u2 (e5 _ _ hu4)
      walk_at "rvs"
      refine ⟨d, l, u, nk, n, rfl, by omega, by decide, g6.dk, hu5, u1, u2, hnk, fun x f H6 g7 dx bt => ?_⟩
      obtain ⟨k1, k2, k3, k4, k5⟩ := told_of bt hn
      have hD6 := g7.dk
      clear g5 e5 g6 g7 hu4 hu5 hD4
      walk_at "rvs"
      refine ⟨x, f, rfl, dx, by omega, by omega, fun SD H7 e7 lsz => ?_⟩
      obtain ⟨pn, py, s1, s2, s3, _⟩ := lsz
      have hD7 := (Gt.ex e7 hD6).dk
      have dx := dpF_ex e7 dx
      walk_at "rqs"
      dsimp only
      refine rd_if ?_
      walk_at "rds"
      refine rd_ixL (x := .ref pn) (SqL.of s1) (atI_nat (j := 0) rfl) ?_
      walk_at "rds"
      refine rd_ixL (SqL.of s2) (atI_nat (j := 0) rfl) ?_
      walk_at "rds"
      refine rd_ixL (x := .ref py) (SqL.of s1) (atI_nat (j := 1) rfl) ?_
      walk_at "rds"
      refine rd_ixL (SqL.of s3) (atI_nat (j := 0) rfl) ?_
      walk_at "rds"
      refine rd_ite (fun c1 => ?_) (fun c1 => ?_)
      · walk_at "rds"
        refine rd_ixL (x := .ref pn) (SqL.of s1) (atI_nat (j := 0) rfl) ?_
        walk_at "rds"
        refine rd_ixL (SqL.of s2) (atI_nat (j := 1) rfl) ?_
        walk_at "rds"
        refine rd_ixL (x := .ref py) (SqL.of s1) (atI_nat (j := 1) rfl) ?_
        walk_at "rds"
        refine rd_ixL (SqL.of s3) (atI_nat (j := 1) rfl) ?_
        walk_at "rds"
        refine rd_ite (fun c2 => ?_) (fun c2 => ?_)
        · have c1 : max (nn false f) (nn true f) < 300 := by rw [max_if] at c1; omega
          have c2 : max (dd false f) (dd true f) < 40 := by rw [max_if] at c2; omega
          walk_at "rds"
          refine ⟨x, f, decide (V.int (0 + (i : Int)) = V.int 3), rfl, dx, k1, by omega, by have := k5 true; omega, by omega, by omega, by omega, by omega, fun H8 e8 => ?_⟩
          walk_at "rds"
          refine (if_neg Bool.false_ne_true).mpr ?_
          walk_at "rds"
          refine ⟨(by show 2 ≤ sizeLine; decide), fun t0 ht0 => ?_⟩
          have e9 := e8.trans (Evl.Ex.new (o := .tup [V.str "not", x]) ht0)
          walk_at "rds"
          refine ⟨.ref t0, .no f, false, rfl, mk_no (SqT.of upd_same) (dpF_ex e9 dx), k1, by rw [dt]; omega, by rw [low]; have := k5 false; show dt (low false f) ≤ 40; omega, by rw [dp]; omega, by rw [nd]; omega, by rw [nn]; show nn false f ≤ 400; omega, by rw [dd]; show dd false f ≤ 40; omega, fun H9 e10 => ?_⟩
          walk_at "rds"
          refine (if_neg Bool.false_ne_true).mpr ?_
          walk_at "rds"
          exact ⟨_, _, _, _, rfl, (Gt.ex (e9.trans e10) hD7).dk⟩
        · walk_at "rds"
          exact ⟨_, _, _, _, rfl, hD7⟩
      · walk_at "rds"
        exact ⟨_, _, _, _, rfl, hD7⟩
    · obtain ⟨x2, x3, x4, x5, rfl, hD2⟩ := hP
      dsimp only
      walk_at "rvs"
      refine ⟨(by show 2 ≤ sizeLine; decide), fun p1 hp1 => ?_⟩
      have E1 := Evl.Ex.new (o := .tup [V.str "letter", .str "a"]) hp1
      have f1 := letter_new (K := K) (z := "a") hp1
      walk_at "rvs"
      refine ⟨(by show 2 ≤ sizeLine; decide), fun p2 hp2 => ?_⟩
      have E2 := Evl.Ex.new (o := .tup [V.str "letter", .str "b"]) hp2
      have f2 := letter_new (K := K) (z := "b") hp2
      walk_at "rvs"
      refine ⟨(by show 2 ≤ sizeLine; decide), fun p3 hp3 => ?_⟩
      have E3 := Evl.Ex.new (o := .tup [V.str "letter", .str "c"]) hp3
      have f3 := letter_new (K := K) (z := "c") hp3
      walk_at "rvs"
      refine ⟨(by show 3 ≤ sizeLine; decide), fun p4 hp4 => ?_⟩
      have E4 := Evl.Ex.new (o := .tup [V.ref p1, V.ref p2, V.ref p3]) hp4
      walk_at "rvs"
      refine rd_gtup3 (SqT.of upd_same) rfl (σ' := [some (.ref a), some (.ref d), x2, x3, x4, x5, some (V.ref p1), some (V.ref p2), some (V.ref p3), none, none, none, none]) rfl ?_
      walk_at "rvs"
      refine ⟨(by show 2 ≤ sizeLine; decide), fun p5 hp5 => ?_⟩
      have E5 := Evl.Ex.new (o := .tup [V.str "not", V.ref p1]) hp5
      have f5 : Dp K _ (.ref p5) (dat (.no (.letter "a"))) := mk_no (SqT.of upd_same) (dpF_ex (((E2.trans E3).trans E4).trans E5) f1)
      walk_at "rvs"
      refine ⟨(by show 2 ≤ sizeLine; decide), fun p6 hp6 => ?_⟩
      have E6 := Evl.Ex.new (o := .tup [V.str "not", V.ref p3]) hp6
      have f6 : Dp K _ (.ref p6) (dat (.no (.letter "c"))) := mk_no (SqT.of upd_same) (dpF_ex ((E4.trans E5).trans E6) f3)
      walk_at "rvs"
      refine ⟨(by show 2 ≤ sizeLine; decide), fun p7 hp7 => ?_⟩
      have E7 := Evl.Ex.new (o := .tup [V.ref p2, V.ref p6]) hp7
      walk_at "rvs"
      refine ⟨(by show 2 ≤ sizeLine; decide), fun p8 hp8 => ?_⟩
      have E8 := Evl.Ex.new (o := .tup [V.str "and", .ref p7]) hp8
      have f8 : Dp K _ (.ref p8) (dat (.conn true [(.letter "b"), (.no (.letter "c"))])) := mk_conn (b := true) (Evl.ex_t E8 (SqT.of upd_same)) (.cons (dpF_ex (((((E3.trans E4).trans E5).trans E6).trans E7).trans E8) f2) (.cons (dpF_ex (E7.trans E8) f6) .nil)) (SqT.of upd_same)
      walk_at "rvs"
      refine ⟨(by show 3 ≤ sizeLine; decide), fun p9 hp9 => ?_⟩
      have E9 := Evl.Ex.new (o := .tup [V.str "same", V.ref p5, V.ref p8]) hp9
      have f9 : Dp K _ (.ref p9) (dat (.same (.no (.letter "a")) (.conn true [(.letter "b"), (.no (.letter "c"))]))) := mk_same (SqT.of upd_same) (dpF_ex (((E6.trans E7).trans E8).trans E9) f5) (dpF_ex E9 f8)
      walk_at "rvs"
      refine ⟨(by show 3 ≤ sizeLine; decide), fun p10 hp10 => ?_⟩
      have E10 := Evl.Ex.new (o := .tup [V.str "same", V.ref p2, V.ref p3]) hp10
      have f10 : Dp K _ (.ref p10) (dat (.same (.letter "b") (.letter "c"))) := mk_same (SqT.of upd_same) (dpF_ex (((((((E3.trans E4).trans E5).trans E6).trans E7).trans E8).trans E9).trans E10) f2) (dpF_ex ((((((E4.trans E5).trans E6).trans E7).trans E8).trans E9).trans E10) f3)
      walk_at "rvs"
      refine ⟨(by show 2 ≤ sizeLine; decide), fun p11 hp11 => ?_⟩
      have E11 := Evl.Ex.new (o := .tup [V.str "not", V.ref p10]) hp11
      have f11 : Dp K _ (.ref p11) (dat (.no (.same (.letter "b") (.letter "c")))) := mk_no (SqT.of upd_same) (dpF_ex E11 f10)
      walk_at "rvs"
      refine ⟨(by show 2 ≤ sizeLine; decide), fun p12 hp12 => ?_⟩
      have E12 := Evl.Ex.new (o := .tup [V.ref p1, V.ref p11]) hp12
      walk_at "rvs"
      refine ⟨(by show 2 ≤ sizeLine; decide), fun p13 hp13 => ?_⟩
      have E13 := Evl.Ex.new (o := .tup [V.str "or", .ref p12]) hp13
      have f13 : Dp K _ (.ref p13) (dat (.conn false [(.letter "a"), (.no (.same (.letter "b") (.letter "c")))])) := mk_conn (b := false) (Evl.ex_t E13 (SqT.of upd_same)) (.cons (dpF_ex (((((((((((E2.trans E3).trans E4).trans E5).trans E6).trans E7).trans E8).trans E9).trans E10).trans E11).trans E12).trans E13) f1) (.cons (dpF_ex (E12.trans E13) f11) .nil)) (SqT.of upd_same)
      walk_at "rvs"
      refine ⟨(by show 3 ≤ sizeLine; decide), fun p14 hp14 => ?_⟩
      have E14 := Evl.Ex.new (o := .tup [V.str "same", V.ref p9, V.ref p13]) hp14
      have f14 : Dp K _ (.ref p14) (dat (.same (.same (.no (.letter "a")) (.conn true [(.letter "b"), (.no (.letter "c"))])) (.conn false [(.letter "a"), (.no (.same (.letter "b") (.letter "c")))]))) := mk_same (SqT.of upd_same) (dpF_ex ((((E10.trans E11).trans E12).trans E13).trans E14) f9) (dpF_ex E14 f13)
      walk_at "rvs"
      refine ⟨(by show 0 ≤ sizeLine; decide), fun p15 hp15 => ?_⟩
      have E15 := Evl.Ex.new (o := .tup []) hp15
      walk_at "rvs"
      refine ⟨(by show 2 ≤ sizeLine; decide), fun p16 hp16 => ?_⟩
      have E16 := Evl.Ex.new (o := .tup [V.str "and", .ref p15]) hp16
      have f16 : Dp K _ (.ref p16) (dat (.conn true [])) := mk_conn (b := true) (Evl.ex_t E16 (SqT.of upd_same)) .nil (SqT.of upd_same)
      walk_at "rvs"
      refine ⟨(by show 3 ≤ sizeLine; decide), fun p17 hp17 => ?_⟩
      have E17 := Evl.Ex.new (o := .tup [V.ref p9, V.ref p16, V.ref p1]) hp17
      walk_at "rvs"
      refine ⟨(by show 2 ≤ sizeLine; decide), fun p18 hp18 => ?_⟩
      have E18 := Evl.Ex.new (o := .tup [V.str "or", .ref p17]) hp18
      have f18 : Dp K _ (.ref p18) (dat (.conn false [(.same (.no (.letter "a")) (.conn true [(.letter "b"), (.no (.letter "c"))])), (.conn true []), (.letter "a")])) := mk_conn (b := false) (Evl.ex_t E18 (SqT.of upd_same)) (.cons (dpF_ex ((((((((E10.trans E11).trans E12).trans E13).trans E14).trans E15).trans E16).trans E17).trans E18) f9) (.cons (dpF_ex (E17.trans E18) f16) (.cons (dpF_ex ((((((((((((((((E2.trans E3).trans E4).trans E5).trans E6).trans E7).trans E8).trans E9).trans E10).trans E11).trans E12).trans E13).trans E14).trans E15).trans E16).trans E17).trans E18) f1) .nil))) (SqT.of upd_same)
      walk_at "rvs"
      refine ⟨(by show 2 ≤ sizeLine; decide), fun p19 hp19 => ?_⟩
      have E19 := Evl.Ex.new (o := .tup [V.str "not", V.ref p18]) hp19
      have f19 : Dp K _ (.ref p19) (dat (.no (.conn false [(.same (.no (.letter "a")) (.conn true [(.letter "b"), (.no (.letter "c"))])), (.conn true []), (.letter "a")]))) := mk_no (SqT.of upd_same) (dpF_ex E19 f18)
      walk_at "rvs"
      refine ⟨(by show 3 ≤ sizeLine; decide), fun p20 hp20 => ?_⟩
      have E20 := Evl.Ex.new (o := .lst [V.ref p9, V.ref p14, V.ref p19]) hp20
      walk_at "rvs"
      refine ⟨(by show 0 ≤ sizeLine; decide), fun p21 hp21 => ?_⟩
      have E21 := Evl.Ex.new (o := .tup []) hp21
      walk_at "rvs"
      refine ⟨(by show 2 ≤ sizeLine; decide), fun p22 hp22 => ?_⟩
      have E22 := Evl.Ex.new (o := .tup [V.str "or", .ref p21]) hp22
      have f22 : Dp K _ (.ref p22) (dat (.conn false [])) := mk_conn (b := false) (Evl.ex_t E22 (SqT.of upd_same)) .nil (SqT.of upd_same)
      walk_at "rvs"
      refine ⟨(by show 3 ≤ sizeLine; decide), fun p23 hp23 => ?_⟩
      have E23 := Evl.Ex.new (o := .tup [V.ref p1, V.ref p2, V.ref p3]) hp23
      walk_at "rvs"
      refine ⟨(by show 2 ≤ sizeLine; decide), fun p24 hp24 => ?_⟩
      have E24 := Evl.Ex.new (o := .tup [V.str "and", .ref p23]) hp24
      have f24 : Dp K _ (.ref p24) (dat (.conn true [(.letter "a"), (.letter "b"), (.letter "c")])) := mk_conn (b := true) (Evl.ex_t E24 (SqT.of upd_same)) (.cons (dpF_ex ((((((((((((((((((((((E2.trans E3).trans E4).trans E5).trans E6).trans E7).trans E8).trans E9).trans E10).trans E11).trans E12).trans E13).trans E14).trans E15).trans E16).trans E17).trans E18).trans E19).trans E20).trans E21).trans E22).trans E23).trans E24) f1) (.cons (dpF_ex (((((((((((((((((((((E3.trans E4).trans E5).trans E6).trans E7).trans E8).trans E9).trans E10).trans E11).trans E12).trans E13).trans E14).trans E15).trans E16).trans E17).trans E18).trans E19).trans E20).trans E21).trans E22).trans E23).trans E24) f2) (.cons (dpF_ex ((((((((((((((((((((E4.trans E5).trans E6).trans E7).trans E8).trans E9).trans E10).trans E11).trans E12).trans E13).trans E14).trans E15).trans E16).trans E17).trans E18).trans E19).trans E20).trans E21).trans E22).trans E23).trans E24) f3) .nil))) (SqT.of upd_same)
      walk_at "rvs"
      refine ⟨(by show 2 ≤ sizeLine; decide), fun p25 hp25 => ?_⟩
      have E25 := Evl.Ex.new (o := .tup [V.str "not", V.ref p24]) hp25
      have f25 : Dp K _ (.ref p25) (dat (.no (.conn true [(.letter "a"), (.letter "b"), (.letter "c")]))) := mk_no (SqT.of upd_same) (dpF_ex E25 f24)
      walk_at "rvs"
      refine ⟨(by show 2 ≤ sizeLine; decide), fun p26 hp26 => ?_⟩
      have E26 := Evl.Ex.new (o := .tup [V.str "not", V.ref p1]) hp26
      have f26 : Dp K _ (.ref p26) (dat (.no (.letter "a"))) := mk_no (SqT.of upd_same) (dpF_ex ((((((((((((((((((((((((E2.trans E3).trans E4).trans E5).trans E6).trans E7).trans E8).trans E9).trans E10).trans E11).trans E12).trans E13).trans E14).trans E15).trans E16).trans E17).trans E18).trans E19).trans E20).trans E21).trans E22).trans E23).trans E24).trans E25).trans E26) f1)
      walk_at "rvs"
      refine ⟨(by show 2 ≤ sizeLine; decide), fun p27 hp27 => ?_⟩
      have E27 := Evl.Ex.new (o := .tup [V.str "not", V.ref p26]) hp27
      have f27 : Dp K _ (.ref p27) (dat (.no (.no (.letter "a")))) := mk_no (SqT.of upd_same) (dpF_ex E27 f26)
      walk_at "rvs"
      refine ⟨(by show 3 ≤ sizeLine; decide), fun p28 hp28 => ?_⟩
      have E28 := Evl.Ex.new (o := .tup [V.ref p22, V.ref p25, V.ref p27]) hp28
      walk_at "rvs"
      refine ⟨(by show 2 ≤ sizeLine; decide), fun p29 hp29 => ?_⟩
      have E29 := Evl.Ex.new (o := .tup [V.str "and", .ref p28]) hp29
      have f29 : Dp K _ (.ref p29) (dat (.conn true [(.conn false []), (.no (.conn true [(.letter "a"), (.letter "b"), (.letter "c")])), (.no (.no (.letter "a")))])) := mk_conn (b := true) (Evl.ex_t E29 (SqT.of upd_same)) (.cons (dpF_ex ((((((E23.trans E24).trans E25).trans E26).trans E27).trans E28).trans E29) f22) (.cons (dpF_ex (((E26.trans E27).trans E28).trans E29) f25) (.cons (dpF_ex (E28.trans E29) f27) .nil))) (SqT.of upd_same)
      walk_at "rvs"
      refine ⟨(by show 0 ≤ sizeLine; decide), fun p30 hp30 => ?_⟩
      have E30 := Evl.Ex.new (o := .tup []) hp30
      walk_at "rvs"
      refine ⟨(by show 2 ≤ sizeLine; decide), fun p31 hp31 => ?_⟩
      have E31 := Evl.Ex.new (o := .tup [V.str "and", .ref p30]) hp31
      have f31 : Dp K _ (.ref p31) (dat (.conn true [])) := mk_conn (b := true) (Evl.ex_t E31 (SqT.of upd_same)) .nil (SqT.of upd_same)
      walk_at "rvs"
      refine ⟨(by show 3 ≤ sizeLine; decide), fun p32 hp32 => ?_⟩
      have E32 := Evl.Ex.new (o := .tup [V.str "same", V.ref p31, V.ref p1]) hp32
      have f32 : Dp K _ (.ref p32) (dat (.same (.conn true []) (.letter "a"))) := mk_same (SqT.of upd_same) (dpF_ex E32 f31) (dpF_ex ((((((((((((((((((((((((((((((E2.trans E3).trans E4).trans E5).trans E6).trans E7).trans E8).trans E9).trans E10).trans E11).trans E12).trans E13).trans E14).trans E15).trans E16).trans E17).trans E18).trans E19).trans E20).trans E21).trans E22).trans E23).trans E24).trans E25).trans E26).trans E27).trans E28).trans E29).trans E30).trans E31).trans E32) f1)
      walk_at "rvs"
      refine ⟨(by show 2 ≤ sizeLine; decide), fun p33 hp33 => ?_⟩
      have E33 := Evl.Ex.new (o := .lst [V.ref p29, V.ref p32]) hp33
      walk_at "rvs"
      refine rd_catL (((((((((((((E21.trans E22).trans E23).trans E24).trans E25).trans E26).trans E27).trans E28).trans E29).trans E30).trans E31).trans E32).trans E33) _ _ upd_same) upd_same (by show 3 + 2 ≤ _; rw [sizeLine_eq]; omega) fun p34 hp34 => ?_
      have E34 := Evl.Ex.new (o := .lst ([V.ref p9, V.ref p14, V.ref p19] ++ [V.ref p29, V.ref p32])) hp34
      walk_at "rvs"
      refine ⟨(by show 2 ≤ sizeLine; decide), fun p35 hp35 => ?_⟩
      have E35 := Evl.Ex.new (o := .tup [V.str "not", V.ref p2]) hp35
      have f35 : Dp K _ (.ref p35) (dat (.no (.letter "b"))) := mk_no (SqT.of upd_same) (dpF_ex ((((((((((((((((((((((((((((((((E3.trans E4).trans E5).trans E6).trans E7).trans E8).trans E9).trans E10).trans E11).trans E12).trans E13).trans E14).trans E15).trans E16).trans E17).trans E18).trans E19).trans E20).trans E21).trans E22).trans E23).trans E24).trans E25).trans E26).trans E27).trans E28).trans E29).trans E30).trans E31).trans E32).trans E33).trans E34).trans E35) f2)
      walk_at "rvs"
      refine ⟨(by show 2 ≤ sizeLine; decide), fun p36 hp36 => ?_⟩
      have E36 := Evl.Ex.new (o := .tup [V.ref p1, V.ref p35]) hp36
      walk_at "rvs"
      refine ⟨(by show 2 ≤ sizeLine; decide), fun p37 hp37 => ?_⟩
      have E37 := Evl.Ex.new (o := .tup [V.str "or", .ref p36]) hp37
      have f37 : Dp K _ (.ref p37) (dat (.conn false [(.letter "a"), (.no (.letter "b"))])) := mk_conn (b := false) (Evl.ex_t E37 (SqT.of upd_same)) (.cons (dpF_ex (((((((((((((((((((((((((((((((((((E2.trans E3).trans E4).trans E5).trans E6).trans E7).trans E8).trans E9).trans E10).trans E11).trans E12).trans E13).trans E14).trans E15).trans E16).trans E17).trans E18).trans E19).trans E20).trans E21).trans E22).trans E23).trans E24).trans E25).trans E26).trans E27).trans E28).trans E29).trans E30).trans E31).trans E32).trans E33).trans E34).trans E35).trans E36).trans E37) f1) (.cons (dpF_ex (E36.trans E37) f35) .nil)) (SqT.of upd_same)
      walk_at "rvs"
      refine ⟨(by show 3 ≤ sizeLine; decide), fun p38 hp38 => ?_⟩
      have E38 := Evl.Ex.new (o := .lst [V.ref p1, V.ref p9, V.ref p37]) hp38
      walk_at "rvs"
      have hDk := (Gt.ex (((((((((((((((((((((((((((((((((((((E1.trans E2).trans E3).trans E4).trans E5).trans E6).trans E7).trans E8).trans E9).trans E10).trans E11).trans E12).trans E13).trans E14).trans E15).trans E16).trans E17).trans E18).trans E19).trans E20).trans E21).trans E22).trans E23).trans E24).trans E25).trans E26).trans E27).trans E28).trans E29).trans E30).trans E31).trans E32).trans E33).trans E34).trans E35).trans E36).trans E37).trans E38) hD2).dk
      have oDk := (Gt.ex ((((((((((((((((((((((((((((((((((((E1.trans E2).trans E3).trans E4).trans E5).trans E6).trans E7).trans E8).trans E9).trans E10).trans E11).trans E12).trans E13).trans E14).trans E15).trans E16).trans E17).trans E18).trans E19).trans E20).trans E21).trans E22).trans E23).trans E24).trans E25).trans E26).trans E27).trans E28).trans E29).trans E30).trans E31).trans E32).trans E33).trans E34).trans E35).trans E36).trans E37) hD2).dk.off hp38
      have oSk := (Gt.ex ((((((((((((((((((((((((((((((((E1.trans E2).trans E3).trans E4).trans E5).trans E6).trans E7).trans E8).trans E9).trans E10).trans E11).trans E12).trans E13).trans E14).trans E15).trans E16).trans E17).trans E18).trans E19).trans E20).trans E21).trans E22).trans E23).trans E24).trans E25).trans E26).trans E27).trans E28).trans E29).trans E30).trans E31).trans E32).trans E33) hD2).dk.off hp34
      have kA := (dpF_ex ((((((((((((((((((((((((((((((((((((E2.trans E3).trans E4).trans E5).trans E6).trans E7).trans E8).trans E9).trans E10).trans E11).trans E12).trans E13).trans E14).trans E15).trans E16).trans E17).trans E18).trans E19).trans E20).trans E21).trans E22).trans E23).trans E24).trans E25).trans E26).trans E27).trans E28).trans E29).trans E30).trans E31).trans E32).trans E33).trans E34).trans E35).trans E36).trans E37).trans E38) f1)
      have kS := (dpF_ex ((((((((((((((((((((((((((((E10.trans E11).trans E12).trans E13).trans E14).trans E15).trans E16).trans E17).trans E18).trans E19).trans E20).trans E21).trans E22).trans E23).trans E24).trans E25).trans E26).trans E27).trans E28).trans E29).trans E30).trans E31).trans E32).trans E33).trans E34).trans E35).trans E36).trans E37).trans E38) f9)
      have kO := (dpF_ex E38 f37)
      have kS2 := (dpF_ex (((((((((((((((((((((((E15.trans E16).trans E17).trans E18).trans E19).trans E20).trans E21).trans E22).trans E23).trans E24).trans E25).trans E26).trans E27).trans E28).trans E29).trans E30).trans E31).trans E32).trans E33).trans E34).trans E35).trans E36).trans E37).trans E38) f14)
      have kS3 := (dpF_ex ((((((((((((((((((E20.trans E21).trans E22).trans E23).trans E24).trans E25).trans E26).trans E27).trans E28).trans E29).trans E30).trans E31).trans E32).trans E33).trans E34).trans E35).trans E36).trans E37).trans E38) f19)
      have kS4 := (dpF_ex ((((((((E30.trans E31).trans E32).trans E33).trans E34).trans E35).trans E36).trans E37).trans E38) f29)
      have kS5 := (dpF_ex (((((E33.trans E34).trans E35).trans E36).trans E37).trans E38) f32)
      have kL := (((E35.trans E36).trans E37).trans E38) _ _ (upd_same (H := _) (a := p34) (o := .lst ([V.ref p9, V.ref p14, V.ref p19] ++ [V.ref p29, V.ref p32])))
      refine ⟨d, l, p38, _, rfl, hDk, upd_same, oDk.1, oDk.2, by show 1 ≤ 3; decide, by show 3 ≤ 1000; decide, fun y H3 g3 hy => ?_⟩
      have kL := g3.kp p34 _ oSk.1 oSk.2 kL
      have kA := dpF_gt g3 hDk kA
      have kS := dpF_gt g3 hDk kS
      have kO := dpF_gt g3 hDk kO
      have kS2 := dpF_gt g3 hDk kS2
      have kS3 := dpF_gt g3 hDk kS3
      have kS4 := dpF_gt g3 hDk kS4
      have kS5 := dpF_gt g3 hDk kS5
      have hD3 := g3.dk
      obtain ⟨f0, hf0, sm⟩ : ∃ f0 : Fm, Dp K H3 y (dat f0) ∧ Sm 0 f0 := by
        simp only [List.mem_cons, List.not_mem_nil, or_false] at hy
        rcases hy with rfl | rfl | rfl
        · exact ⟨_, kA, by decide +kernel⟩
        · exact ⟨_, kS, by decide +kernel⟩
        · exact ⟨_, kO, by decide +kernel⟩
      walk_at "rvs"
      refine ⟨(by show 4 ≤ sizeLine; decide), fun q1 hq1 => ?_⟩
      have G1 := Gt.new (o := .lst [V.int 1, .int 6, .int 30, .int 35]) hD3 hq1
      have X1 := Evl.Ex.new (o := .lst [V.int 1, .int 6, .int 30, .int 35]) hq1
      have oq := hD3.off hq1
      walk_at "rvs"
      refine ⟨d, l, q1, _, rfl, G1.dk, upd_same, oq.1, oq.2, by show 1 ≤ 4; decide, by show 4 ≤ 1000; decide, fun y2 H4 g4 hy2 => ?_⟩
      obtain ⟨m, rfl, hm⟩ : ∃ m : Nat, y2 = .int (m : Int) ∧ m ≤ 35 := by
        simp only [List.mem_cons, List.not_mem_nil, or_false] at hy2
        rcases hy2 with rfl | rfl | rfl | rfl
        · exact ⟨1, rfl, by decide⟩
        · exact ⟨6, rfl, by decide⟩
        · exact ⟨30, rfl, by decide⟩
        · exact ⟨35, rfl, by decide⟩
      have kS := dpF_gt g4 G1.dk (dpF_ex X1 kS)
      have kS2 := dpF_gt g4 G1.dk (dpF_ex X1 kS2)
      have kS3 := dpF_gt g4 G1.dk (dpF_ex X1 kS3)
      have kS4 := dpF_gt g4 G1.dk (dpF_ex X1 kS4)
      have kS5 := dpF_gt g4 G1.dk (dpF_ex X1 kS5)
      have hf0 := dpF_gt g4 G1.dk (dpF_ex X1 hf0)
      have kL := g4.kp p34 _ oSk.1 oSk.2 (X1 _ _ kL)
      walk_at "rvs"
      refine rd_rng1 (by omega) (by omega) ?_
      rw [Int.toNat_natCast]
      refine fr_range (lo := 0) (n := m) (fun i σ' H' => ∃ (x2 : Option V) (u : V) (g : Fm), σ' = [some (.ref a), some (.ref d), x2, x3, x4, x5, some (V.ref p1), some (V.ref p2), some (V.ref p3), some (V.ref p9), some (V.ref p34), some u, none] ∧ Evl.Ex H4 H' ∧ Dp K H' u (dat g) ∧ Sm i g)
        ⟨_, _, _, rfl, Evl.Ex.refl _, hf0, sm⟩ (fun i σ' H5 hi hP => ?_) fun σ' H5 hP => ?_
      · obtain ⟨x2', u, g, rfl, e5, du, sg⟩ := hP
        refine rd_start (σ' := [some (.ref a), some (.ref d), some (.int (0 + (i : Int))), x3, x4, x5, some (V.ref p1), some (V.ref p2), some (V.ref p3), some (V.ref p9), some (V.ref p34), some u, none]) rfl ?_
        walk_at "rvs"
        refine ⟨(by show 2 ≤ sizeLine; decide), fun t9 ht9 => ?_⟩
        have e9 := Evl.Ex.new (o := .tup [V.str "not", u]) ht9
        exact ⟨_, _, .no g, rfl, e5.trans e9, mk_no (SqT.of upd_same) (dpF_ex e9 du), sg.no⟩
      obtain ⟨x2', u, g, rfl, e5, du, sg⟩ := hP
      walk_at "rvs"
      refine ⟨(by show 1 ≤ sizeLine; decide), fun q2 hq2 => ?_⟩
      have X2 := Evl.Ex.new (o := .lst [u]) hq2
      refine rd_catL (X2 _ _ (e5 _ _ kL)) upd_same (by show 5 + 1 ≤ _; rw [sizeLine_eq]; omega) fun q3 hq3 => ?_
      have X3 := X2.trans (Evl.Ex.new (o := .lst (([V.ref p9, V.ref p14, V.ref p19] ++ [V.ref p29, V.ref p32]) ++ [u])) hq3)
      have X4 := e5.trans X3
      have all : ∀ x ∈ ([V.ref p9, V.ref p14, V.ref p19] ++ [V.ref p29, V.ref p32]) ++ [u], ∃ f : Fm, Dp K _ x (dat f) ∧ Sm 35 f := fun x hx => by
        simp only [List.cons_append, List.nil_append, List.mem_cons, List.not_mem_nil, or_false] at hx
        rcases hx with rfl | rfl | rfl | rfl | rfl | rfl
        · exact ⟨_, dpF_ex X4 kS, by decide +kernel⟩
        · exact ⟨_, dpF_ex X4 kS2, by decide +kernel⟩
        · exact ⟨_, dpF_ex X4 kS3, by decide +kernel⟩
        · exact ⟨_, dpF_ex X4 kS4, by decide +kernel⟩
        · exact ⟨_, dpF_ex X4 kS5, by decide +kernel⟩
        · exact ⟨g, dpF_ex X3 du, sg.mono hm⟩
      refine rd_refL (SqL.of upd_same) ?_
      refine lc_noneL (K := K) (xs := ([V.ref p9, V.ref p14, V.ref p19] ++ [V.ref p29, V.ref p32]) ++ [u]) (σx := fun x => [some (.ref a), some (.ref d), x2', x3, x4, x5, some (V.ref p1), some (V.ref p2), some (V.ref p3), some (V.ref p9), some (V.ref p34), some u, some x]) (SqL.of upd_same) (fun _ => rfl) (fun _ => rfl) (fun x hx H' N S ex kS => ?_) fun D H' ex eD hDv => ?_
      · obtain ⟨f, df, h1, h2, h3, h4, h5, h6, h7, h8, h9, h10⟩ := all x hx
        walk_at "rvs"
        refine ⟨x, f, false, rfl, dpF_ex ex df, h1, by omega, by omega, by omega, by omega, by omega, by omega, fun H9 e9 => ?_⟩
        walk_at "rvs"
        refine (if_neg Bool.false_ne_true).mpr ?_
        exact kS _ e9
      walk_at "rvs"
      refine ⟨Nat.zero_le _, fun q4 hq4 => ?_⟩
      have X5 := Evl.Ex.new (o := .lst []) hq4
      refine ⟨.list [], .list [], .lst (SqL.of (X5 _ _ hDv)) .nil, .lst (SqL.of upd_same) .nil, by decide, by decide, ?_⟩
      exact q _
end
end KA
set_option Elab.async false
set_option linter.all false
set_option maxRecDepth 100000
set_option maxHeartbeats 400000
namespace KA
open PySem PySem.Spec PyProof.Rows L2 Ea
theorem all_mk {l : PySem.W.OpenLaw} {w : World} {K : PySem.W.Frag} {h : Heap} {mg : Str → Option Value} {fa f0 f1 f2 f3 f4 f5 f6 f7 f8 f9 f10 f11 f12 f13 f14 f15 f16 : Addr} (X : K.In h) (G : h.Ns mainGlobals mg) (hfa : mg "law" = some (.ref fa))
    {od0 an0 : Option Addr} {sl0 : Array (Option Value)} {oc0 kV0 dc0 pm0 cd0 ct0 : Value} {od1 an1 : Option Addr} {sl1 : Array (Option Value)} {oc1 kV1 dc1 pm1 cd1 ct1 : Value} {od2 an2 : Option Addr} {sl2 : Array (Option Value)} {oc2 kV2 dc2 pm2 cd2 ct2 : Value} {od3 an3 : Option Addr} {sl3 : Array (Option Value)} {oc3 kV3 dc3 pm3 cd3 ct3 : Value} {od4 an4 : Option Addr} {sl4 : Array (Option Value)} {oc4 kV4 dc4 pm4 cd4 ct4 : Value} {od5 an5 : Option Addr} {sl5 : Array (Option Value)} {oc5 kV5 dc5 pm5 cd5 ct5 : Value} {od6 an6 : Option Addr} {sl6 : Array (Option Value)} {oc6 kV6 dc6 pm6 cd6 ct6 : Value} {od7 an7 : Option Addr} {sl7 : Array (Option Value)} {oc7 kV7 dc7 pm7 cd7 ct7 : Value} {od8 an8 : Option Addr} {sl8 : Array (Option Value)} {oc8 kV8 dc8 pm8 cd8 ct8 : Value} {od9 an9 : Option Addr} {sl9 : Array (Option Value)} {oc9 kV9 dc9 pm9 cd9 ct9 : Value} {od10 an10 : Option Addr} {sl10 : Array (Option Value)} {oc10 kV10 dc10 pm10 cd10 ct10 : Value} {od11 an11 : Option Addr} {sl11 : Array (Option Value)} {oc11 kV11 dc11 pm11 cd11 ct11 : Value} {od12 an12 : Option Addr} {sl12 : Array (Option Value)} {oc12 kV12 dc12 pm12 cd12 ct12 : Value} {od13 an13 : Option Addr} {sl13 : Array (Option Value)} {oc13 kV13 dc13 pm13 cd13 ct13 : Value} {od14 an14 : Option Addr} {sl14 : Array (Option Value)} {oc14 kV14 dc14 pm14 cd14 ct14 : Value} {od15 an15 : Option Addr} {sl15 : Array (Option Value)} {oc15 kV15 dc15 pm15 cd15 ct15 : Value} {od16 an16 : Option Addr} {sl16 : Array (Option Value)} {oc16 kV16 dc16 pm16 cd16 ct16 : Value}
    (a0 : PySem.W.nsIn K mainGlobals "parts_of" = some (some (.ref f0))) (l0 : K.lookup f0 = some ⟨oc0, od0, .func (PySem.W.fnOf "parts_of" "parts_of" (defArgs sparts_of) (defBody sparts_of) (defScope sparts_of) .none kV0 dc0 pm0 an0 cd0 ct0), sl0⟩) (c0 : PySem.W.codeIn K cd0 "parts_of" = true) (k0 : PySem.W.keepIn K (.ref f0) = true)
    (a1 : PySem.W.nsIn K mainGlobals "is_plain" = some (some (.ref f1))) (l1 : K.lookup f1 = some ⟨oc1, od1, .func (PySem.W.fnOf "is_plain" "is_plain" (defArgs sis_plain) (defBody sis_plain) (defScope sis_plain) .none kV1 dc1 pm1 an1 cd1 ct1), sl1⟩) (c1 : PySem.W.codeIn K cd1 "is_plain" = true) (k1 : PySem.W.keepIn K (.ref f1) = true)
    (a2 : PySem.W.nsIn K mainGlobals "joined_size" = some (some (.ref f2))) (l2 : K.lookup f2 = some ⟨oc2, od2, .func (PySem.W.fnOf "joined_size" "joined_size" (defArgs sjoined_size) (defBody sjoined_size) (defScope sjoined_size) .none kV2 dc2 pm2 an2 cd2 ct2), sl2⟩) (c2 : PySem.W.codeIn K cd2 "joined_size" = true) (k2 : PySem.W.keepIn K (.ref f2) = true)
    (a3 : PySem.W.nsIn K mainGlobals "check_size" = some (some (.ref f3))) (l3 : K.lookup f3 = some ⟨oc3, od3, .func (PySem.W.fnOf "check_size" "check_size" (defArgs scheck_size) (defBody scheck_size) (defScope scheck_size) .none kV3 dc3 pm3 an3 cd3 ct3), sl3⟩) (c3 : PySem.W.codeIn K cd3 "check_size" = true) (k3 : PySem.W.keepIn K (.ref f3) = true)
    (a4 : PySem.W.nsIn K mainGlobals "lowered_sizes" = some (some (.ref f4))) (l4 : K.lookup f4 = some ⟨oc4, od4, .func (PySem.W.fnOf "lowered_sizes" "lowered_sizes" (defArgs slowered_sizes) (defBody slowered_sizes) (defScope slowered_sizes) .none kV4 dc4 pm4 an4 cd4 ct4), sl4⟩) (c4 : PySem.W.codeIn K cd4 "lowered_sizes" = true) (k4 : PySem.W.keepIn K (.ref f4) = true)
    (a5 : PySem.W.nsIn K mainGlobals "lowered_on" = some (some (.ref f5))) (l5 : K.lookup f5 = some ⟨oc5, od5, .func (PySem.W.fnOf "lowered_on" "lowered_on" (defArgs slowered_on) (defBody slowered_on) (defScope slowered_on) .none kV5 dc5 pm5 an5 cd5 ct5), sl5⟩) (c5 : PySem.W.codeIn K cd5 "lowered_on" = true) (k5 : PySem.W.keepIn K (.ref f5) = true)
    (a6 : PySem.W.nsIn K mainGlobals "lowered_same" = some (some (.ref f6))) (l6 : K.lookup f6 = some ⟨oc6, od6, .func (PySem.W.fnOf "lowered_same" "lowered_same" (defArgs slowered_same) (defBody slowered_same) (defScope slowered_same) .none kV6 dc6 pm6 an6 cd6 ct6), sl6⟩) (c6 : PySem.W.codeIn K cd6 "lowered_same" = true) (k6 : PySem.W.keepIn K (.ref f6) = true)
    (a7 : PySem.W.nsIn K mainGlobals "lowered" = some (some (.ref f7))) (l7 : K.lookup f7 = some ⟨oc7, od7, .func (PySem.W.fnOf "lowered" "lowered" (defArgs slowered) (defBody slowered) (defScope slowered) .none kV7 dc7 pm7 an7 cd7 ct7), sl7⟩) (c7 : PySem.W.codeIn K cd7 "lowered" = true) (k7 : PySem.W.keepIn K (.ref f7) = true)
    (a8 : PySem.W.nsIn K mainGlobals "_law_bag" = some (some (.ref f8))) (l8 : K.lookup f8 = some ⟨oc8, od8, .func (PySem.W.fnOf "_law_bag" "_law_bag" (defArgs s_law_bag) (defBody s_law_bag) (defScope s_law_bag) .none kV8 dc8 pm8 an8 cd8 ct8), sl8⟩) (c8 : PySem.W.codeIn K cd8 "_law_bag" = true) (k8 : PySem.W.keepIn K (.ref f8) = true)
    (a9 : PySem.W.nsIn K mainGlobals "_law_take" = some (some (.ref f9))) (l9 : K.lookup f9 = some ⟨oc9, od9, .func (PySem.W.fnOf "_law_take" "_law_take" (defArgs s_law_take) (defBody s_law_take) (defScope s_law_take) .none kV9 dc9 pm9 an9 cd9 ct9), sl9⟩) (c9 : PySem.W.codeIn K cd9 "_law_take" = true) (k9 : PySem.W.keepIn K (.ref f9) = true)
    (a10 : PySem.W.nsIn K mainGlobals "_law_pick" = some (some (.ref f10))) (l10 : K.lookup f10 = some ⟨oc10, od10, .func (PySem.W.fnOf "_law_pick" "_law_pick" (defArgs s_law_pick) (defBody s_law_pick) (defScope s_law_pick) .none kV10 dc10 pm10 an10 cd10 ct10), sl10⟩) (c10 : PySem.W.codeIn K cd10 "_law_pick" = true) (k10 : PySem.W.keepIn K (.ref f10) = true)
    (a11 : PySem.W.nsIn K mainGlobals "_law_parts_of" = some (some (.ref f11))) (l11 : K.lookup f11 = some ⟨oc11, od11, .func (PySem.W.fnOf "_law_parts_of" "_law_parts_of" (defArgs s_law_parts_of) (defBody s_law_parts_of) (defScope s_law_parts_of) .none kV11 dc11 pm11 an11 cd11 ct11), sl11⟩) (c11 : PySem.W.codeIn K cd11 "_law_parts_of" = true) (k11 : PySem.W.keepIn K (.ref f11) = true)
    (a12 : PySem.W.nsIn K mainGlobals "_law_low" = some (some (.ref f12))) (l12 : K.lookup f12 = some ⟨oc12, od12, .func (PySem.W.fnOf "_law_low" "_law_low" (defArgs s_law_low) (defBody s_law_low) (defScope s_law_low) .none kV12 dc12 pm12 an12 cd12 ct12), sl12⟩) (c12 : PySem.W.codeIn K cd12 "_law_low" = true) (k12 : PySem.W.keepIn K (.ref f12) = true)
    (a13 : PySem.W.nsIn K mainGlobals "_law_low_sizes" = some (some (.ref f13))) (l13 : K.lookup f13 = some ⟨oc13, od13, .func (PySem.W.fnOf "_law_low_sizes" "_law_low_sizes" (defArgs s_law_low_sizes) (defBody s_law_low_sizes) (defScope s_law_low_sizes) .none kV13 dc13 pm13 an13 cd13 ct13), sl13⟩) (c13 : PySem.W.codeIn K cd13 "_law_low_sizes" = true) (k13 : PySem.W.keepIn K (.ref f13) = true)
    (a14 : PySem.W.nsIn K mainGlobals "_law_is_told" = some (some (.ref f14))) (l14 : K.lookup f14 = some ⟨oc14, od14, .func (PySem.W.fnOf "_law_is_told" "_law_is_told" (defArgs s_law_is_told) (defBody s_law_is_told) (defScope s_law_is_told) .none kV14 dc14 pm14 an14 cd14 ct14), sl14⟩) (c14 : PySem.W.codeIn K cd14 "_law_is_told" = true) (k14 : PySem.W.keepIn K (.ref f14) = true)
    (a15 : PySem.W.nsIn K mainGlobals "_law_formula" = some (some (.ref f15))) (l15 : K.lookup f15 = some ⟨oc15, od15, .func (PySem.W.fnOf "_law_formula" "_law_formula" (defArgs s_law_formula) (defBody s_law_formula) (defScope s_law_formula) .none kV15 dc15 pm15 an15 cd15 ct15), sl15⟩) (c15 : PySem.W.codeIn K cd15 "_law_formula" = true) (k15 : PySem.W.keepIn K (.ref f15) = true)
    (a16 : PySem.W.nsIn K mainGlobals "law" = some (some (.ref f16))) (l16 : K.lookup f16 = some ⟨oc16, od16, .func (PySem.W.fnOf "law" "law" (defArgs slaw) (defBody slaw) (defScope slaw) .none kV16 dc16 pm16 an16 cd16 ct16), sl16⟩) (c16 : PySem.W.codeIn K cd16 "law" = true) (k16 : PySem.W.keepIn K (.ref f16) = true)
    (z0 : PySem.W.nsIn K mainGlobals "len" = some none) (z1 : PySem.W.nsIn K mainGlobals "abs" = some none) (z2 : PySem.W.nsIn K mainGlobals "min" = some none) (z3 : PySem.W.nsIn K mainGlobals "max" = some none) (z4 : PySem.W.nsIn K mainGlobals "sorted" = some none) (z5 : PySem.W.nsIn K mainGlobals "tuple" = some none) (z6 : PySem.W.nsIn K mainGlobals "list" = some none) (z7 : PySem.W.nsIn K mainGlobals "set" = some none) (z8 : PySem.W.nsIn K mainGlobals "int" = some none) (z9 : PySem.W.nsIn K mainGlobals "range" = some none) (z10 : PySem.W.nsIn K mainGlobals "repr" = some none) (z11 : PySem.W.nsIn K mainGlobals "isinstance" = some none) (z12 : PySem.W.nsIn K mainGlobals "enumerate" = some none) (z13 : PySem.W.nsIn K mainGlobals "zip" = some none) (z14 : PySem.W.nsIn K mainGlobals "sum" = some none) (z15 : PySem.W.nsIn K mainGlobals "all" = some none) (z16 : PySem.W.nsIn K mainGlobals "any" = some none) (z17 : PySem.W.nsIn K mainGlobals "str" = some none) (z18 : PySem.W.nsIn K mainGlobals "bool" = some none)
    {tiMAX_NODES : Tok} (aiMAX_NODES : PySem.W.nsIn K mainGlobals "MAX_NODES" = some (some (.int 400 tiMAX_NODES)))
    {tiMAX_NEST : Tok} (aiMAX_NEST : PySem.W.nsIn K mainGlobals "MAX_NEST" = some (some (.int 40 tiMAX_NEST)))
    {jJOINING : Addr} {odJOINING : Option Addr} {itJOINING : Array Value} {nnJOINING : Nat} {slJOINING : Array (Option Value)} (aTJOINING : PySem.W.nsIn K mainGlobals "JOINING" = some (some (.ref jJOINING))) (lTJOINING : K.lookup jJOINING = some ⟨.type "tuple", odJOINING, .seq itJOINING nnJOINING, slJOINING⟩) (sTJOINING : itJOINING.size ≤ sizeLine) (vTJOINING : Vals [.str "and", .str "or"] itJOINING.toList)
    {jNAMING : Addr} {odNAMING : Option Addr} {itNAMING : Array Value} {nnNAMING : Nat} {slNAMING : Array (Option Value)} (aTNAMING : PySem.W.nsIn K mainGlobals "NAMING" = some (some (.ref jNAMING))) (lTNAMING : K.lookup jNAMING = some ⟨.type "tuple", odNAMING, .seq itNAMING nnNAMING, slNAMING⟩) (sTNAMING : itNAMING.size ≤ sizeLine) (vTNAMING : Vals [.str "letter", .str "each", .str "some"] itNAMING.toList)
    {jQUANTIFIERS : Addr} {odQUANTIFIERS : Option Addr} {itQUANTIFIERS : Array Value} {nnQUANTIFIERS : Nat} {slQUANTIFIERS : Array (Option Value)} (aTQUANTIFIERS : PySem.W.nsIn K mainGlobals "QUANTIFIERS" = some (some (.ref jQUANTIFIERS))) (lTQUANTIFIERS : K.lookup jQUANTIFIERS = some ⟨.type "tuple", odQUANTIFIERS, .seq itQUANTIFIERS nnQUANTIFIERS, slQUANTIFIERS⟩) (sTQUANTIFIERS : itQUANTIFIERS.size ≤ sizeLine) (vTQUANTIFIERS : Vals [.str "each", .str "some"] itQUANTIFIERS.toList)
    {hd : Addr} {es : Array DictEntry} {en : Nat} (aH : PySem.W.nsIn K mainGlobals "CONTRARY" = some (some (.ref hd))) (lH : K.lookup hd = some ⟨.type "dict", none, .dict es en, #[]⟩) (kH : PySem.W.KeysLit w.params es.toList)
    {uv0 : Value} (hk0 : PySem.W.nsIn K hd "and" = some (some uv0)) (hv0 : RelV (.str "or") uv0)
    {uv1 : Value} (hk1 : PySem.W.nsIn K hd "or" = some (some uv1)) (hv1 : RelV (.str "and") uv1)
    : ∃ fd : FuncData, (∀ (s : Shared) (v : Value), BindsTo s fd ⟨[v], []⟩ [("script", v)]) ∧ ∀ base : Heap, K.In base → base.Ns mainGlobals mg → FnG l.prog w K mg base 84 fa fd ["script"] (spLaw K) := by
  have e := hfa.symm.trans (PySem.W.mg_of X G a16)
  cases e
  have F0 := fun_mk (st := sparts_of) l0 c0 k0
  have b0 := F0.binds (ps := ["formula"]) fun _ _ _ _ _ _ us hl => match us, hl with | [_], _ => rfl
  have Cparts_of : Callee K mg "parts_of" f0 _ ["formula"] := ⟨PySem.W.mg_of X G a0, k0, b0⟩
  have F1 := fun_mk (st := sis_plain) l1 c1 k1
  have b1 := F1.binds (ps := ["formula"]) fun _ _ _ _ _ _ us hl => match us, hl with | [_], _ => rfl
  have Cis_plain : Callee K mg "is_plain" f1 _ ["formula"] := ⟨PySem.W.mg_of X G a1, k1, b1⟩
  have F2 := fun_mk (st := sjoined_size) l2 c2 k2
  have b2 := F2.binds (ps := ["sizes", "nodes", "deep"]) fun _ _ _ _ _ _ us hl => match us, hl with | [_, _, _], _ => rfl
  have Cjoined_size : Callee K mg "joined_size" f2 _ ["sizes", "nodes", "deep"] := ⟨PySem.W.mg_of X G a2, k2, b2⟩
  have F3 := fun_mk (st := scheck_size) l3 c3 k3
  have b3 := F3.binds (ps := ["size"]) fun _ _ _ _ _ _ us hl => match us, hl with | [_], _ => rfl
  have Ccheck_size : Callee K mg "check_size" f3 _ ["size"] := ⟨PySem.W.mg_of X G a3, k3, b3⟩
  have F4 := fun_mk (st := slowered_sizes) l4 c4 k4
  have b4 := F4.binds (ps := ["formula"]) fun _ _ _ _ _ _ us hl => match us, hl with | [_], _ => rfl
  have Clowered_sizes : Callee K mg "lowered_sizes" f4 _ ["formula"] := ⟨PySem.W.mg_of X G a4, k4, b4⟩
  have F5 := fun_mk (st := slowered_on) l5 c5 k5
  have b5 := F5.binds (ps := ["formula", "side"]) fun _ _ _ _ _ _ us hl => match us, hl with | [_, _], _ => rfl
  have Clowered_on : Callee K mg "lowered_on" f5 _ ["formula", "side"] := ⟨PySem.W.mg_of X G a5, k5, b5⟩
  have F6 := fun_mk (st := slowered_same) l6 c6 k6
  have b6 := F6.binds (ps := ["formula", "side"]) fun _ _ _ _ _ _ us hl => match us, hl with | [_, _], _ => rfl
  have Clowered_same : Callee K mg "lowered_same" f6 _ ["formula", "side"] := ⟨PySem.W.mg_of X G a6, k6, b6⟩
  have F7 := fun_mk (st := slowered) l7 c7 k7
  have b7 := F7.binds (ps := ["formula"]) fun _ _ _ _ _ _ us hl => match us, hl with | [_], _ => rfl
  have Clowered : Callee K mg "lowered" f7 _ ["formula"] := ⟨PySem.W.mg_of X G a7, k7, b7⟩
  have F8 := fun_mk (st := s_law_bag) l8 c8 k8
  have b8 := F8.binds (ps := ["script"]) fun _ _ _ _ _ _ us hl => match us, hl with | [_], _ => rfl
  have C_law_bag : Callee K mg "_law_bag" f8 _ ["script"] := ⟨PySem.W.mg_of X G a8, k8, b8⟩
  have F9 := fun_mk (st := s_law_take) l9 c9 k9
  have b9 := F9.binds (ps := ["bag", "many"]) fun _ _ _ _ _ _ us hl => match us, hl with | [_, _], _ => rfl
  have C_law_take : Callee K mg "_law_take" f9 _ ["bag", "many"] := ⟨PySem.W.mg_of X G a9, k9, b9⟩
  have F10 := fun_mk (st := s_law_pick) l10 c10 k10
  have b10 := F10.binds (ps := ["bag", "some"]) fun _ _ _ _ _ _ us hl => match us, hl with | [_, _], _ => rfl
  have C_law_pick : Callee K mg "_law_pick" f10 _ ["bag", "some"] := ⟨PySem.W.mg_of X G a10, k10, b10⟩
  have F11 := fun_mk (st := s_law_parts_of) l11 c11 k11
  have b11 := F11.binds (ps := ["f"]) fun _ _ _ _ _ _ us hl => match us, hl with | [_], _ => rfl
  have C_law_parts_of : Callee K mg "_law_parts_of" f11 _ ["f"] := ⟨PySem.W.mg_of X G a11, k11, b11⟩
  have F12 := fun_mk (st := s_law_low) l12 c12 k12
  have b12 := F12.binds (ps := ["f", "side"]) fun _ _ _ _ _ _ us hl => match us, hl with | [_, _], _ => rfl
  have C_law_low : Callee K mg "_law_low" f12 _ ["f", "side"] := ⟨PySem.W.mg_of X G a12, k12, b12⟩
  have F13 := fun_mk (st := s_law_low_sizes) l13 c13 k13
  have b13 := F13.binds (ps := ["f"]) fun _ _ _ _ _ _ us hl => match us, hl with | [_], _ => rfl
  have C_law_low_sizes : Callee K mg "_law_low_sizes" f13 _ ["f"] := ⟨PySem.W.mg_of X G a13, k13, b13⟩
  have F14 := fun_mk (st := s_law_is_told) l14 c14 k14
  have b14 := F14.binds (ps := ["f", "is_named"]) fun _ _ _ _ _ _ us hl => match us, hl with | [_, _], _ => rfl
  have C_law_is_told : Callee K mg "_law_is_told" f14 _ ["f", "is_named"] := ⟨PySem.W.mg_of X G a14, k14, b14⟩
  have F15 := fun_mk (st := s_law_formula) l15 c15 k15
  have b15 := F15.binds (ps := ["bag", "names", "size", "more"]) fun _ _ _ _ _ _ us hl => match us, hl with | [_, _, _, _], _ => rfl
  have C_law_formula : Callee K mg "_law_formula" f15 _ ["bag", "names", "size", "more"] := ⟨PySem.W.mg_of X G a15, k15, b15⟩
  have F16 := fun_mk (st := slaw) l16 c16 k16
  have T : Bl mg := ⟨PySem.W.mg_none_of X G z0, PySem.W.mg_none_of X G z1, PySem.W.mg_none_of X G z2, PySem.W.mg_none_of X G z3, PySem.W.mg_none_of X G z4, PySem.W.mg_none_of X G z5, PySem.W.mg_none_of X G z6, PySem.W.mg_none_of X G z7, PySem.W.mg_none_of X G z8, PySem.W.mg_none_of X G z9, PySem.W.mg_none_of X G z10, PySem.W.mg_none_of X G z11, PySem.W.mg_none_of X G z12, PySem.W.mg_none_of X G z13, PySem.W.mg_none_of X G z14, PySem.W.mg_none_of X G z15, PySem.W.mg_none_of X G z16, PySem.W.mg_none_of X G z17, PySem.W.mg_none_of X G z18⟩
  have mMAX_NODES : ∃ u, mg "MAX_NODES" = some u ∧ RelV (.int 400) u := ⟨_, PySem.W.mg_of X G aiMAX_NODES, ⟨_, rfl⟩⟩
  have mMAX_NEST : ∃ u, mg "MAX_NEST" = some u ∧ RelV (.int 40) u := ⟨_, PySem.W.mg_of X G aiMAX_NEST, ⟨_, rfl⟩⟩
  have tJOINING : ∀ H : Hp, SqT K H jJOINING [.str "and", .str "or"] := fun H => .inr ⟨_, itJOINING, nnJOINING, lTJOINING, rfl, rfl, sTJOINING, vTJOINING⟩
  have tNAMING : ∀ H : Hp, SqT K H jNAMING [.str "letter", .str "each", .str "some"] := fun H => .inr ⟨_, itNAMING, nnNAMING, lTNAMING, rfl, rfl, sTNAMING, vTNAMING⟩
  have tQUANTIFIERS : ∀ H : Hp, SqT K H jQUANTIFIERS [.str "each", .str "some"] := fun H => .inr ⟨_, itQUANTIFIERS, nnQUANTIFIERS, lTQUANTIFIERS, rfl, rfl, sTQUANTIFIERS, vTQUANTIFIERS⟩
  have kd0 : KDct K w hd "and" (.str "or") := ⟨es, en, uv0, lH, kH, hk0, hv0⟩
  have kd1 : KDct K w hd "or" (.str "and") := ⟨es, en, uv1, lH, kH, hk1, hv1⟩
  have GL : Gls K mg jJOINING jNAMING jQUANTIFIERS := ⟨PySem.W.mg_of X G aTJOINING, PySem.W.mg_of X G aTNAMING, PySem.W.mg_of X G aTQUANTIFIERS, tJOINING, tNAMING, tQUANTIFIERS⟩
  have hC : Cty K w mg hd := ⟨PySem.W.mg_of X G aH, kd0, kd1⟩
  have Klowered : KwRev (PySem.W.fnOf "lowered" "lowered" (defArgs slowered) (defBody slowered) (defScope slowered) .none kV7 dc7 pm7 an7 cd7 ct7) ["formula"] := fun s ws hw => match ws, hw with | [_], _ => .of_eq rfl
  refine ⟨PySem.W.fnOf "law" "law" (defArgs slaw) (defBody slaw) (defScope slaw) .none kV16 dc16 pm16 an16 cd16 ct16, fun s v => .of_eq rfl, fun base _ _ => ?_⟩
  have Gparts_of := ok_partsof (P := l.prog) (w := w) (base := base) F0 T GL 
  have Gis_plain := ok_plain (P := l.prog) (w := w) (base := base) F1 T GL Gparts_of Cparts_of Cis_plain 40
  have Gjoined_size := ok_joined (P := l.prog) (w := w) (base := base) F2 T  
  have Gcheck_size := ok_check (P := l.prog) (w := w) (base := base) F3 T mMAX_NODES mMAX_NEST 
  have Glowered_sizes := ok_sizes (P := l.prog) (w := w) (base := base) F4 T  Gparts_of Cparts_of Gjoined_size Cjoined_size Clowered_sizes 40
  have Glowered_on := ok_on (P := l.prog) (w := w) (base := base) F5 T F6 hC Clowered_on Clowered_same 40 
  have Glowered_same := ok_same1 (P := l.prog) (w := w) (base := base) F6 T  Glowered_on Clowered_on
  have Glowered := ok_lowered (P := l.prog) (w := w) (base := base) F7 T  Gis_plain Cis_plain Gcheck_size Ccheck_size Glowered_sizes Clowered_sizes Glowered_on Clowered_on
  have G_law_bag := ok_bag (P := l.prog) (w := w) (base := base) F8 T  
  have G_law_take := ok_take (P := l.prog) (w := w) (base := base) F9 T  
  have G_law_pick := ok_pick (P := l.prog) (w := w) (base := base) F10 T  G_law_take C_law_take
  have G_law_parts_of := ok_lparts (P := l.prog) (w := w) (base := base) F11 T  
  have G_law_low := ok_low (P := l.prog) (w := w) (base := base) F12 T  C_law_low 40
  have G_law_low_sizes := ok_lsizes (P := l.prog) (w := w) (base := base) F13 T  G_law_parts_of C_law_parts_of C_law_low_sizes 40
  have G_law_is_told := ok_told (P := l.prog) (w := w) (base := base) F14 T  Glowered Clowered Klowered G_law_low C_law_low
  have G_law_formula := ok_fm (P := l.prog) (w := w) (base := base) F15 T  G_law_take C_law_take G_law_pick C_law_pick C_law_formula 25
  exact ok_law F16 T  G_law_bag C_law_bag G_law_take C_law_take G_law_pick C_law_pick G_law_formula C_law_formula G_law_low_sizes C_law_low_sizes G_law_is_told C_law_is_told
end KA
open PySem PySem.W PyProof.Rows
set_option Elab.async false
set_option linter.all false
set_option maxRecDepth 100000
set_option maxHeartbeats 0 in
theorem PySem.Challenge.cw_eachsome_k69_whole_lowered_formulas_holds : PySem.Challenge.rw_eachsome_k69_whole_lowered_formulas.Holds := by
  w_on; o_law; k_head; (case hw => w_witness2)
  k_fill
  refine Ea.walk_G (l := PySem.Challenge.rw_eachsome_k69_whole_lowered_formulas) (n := 63) (k := 84) (x := "script") (sp := fun w => KA.spLaw _) rfl (by decide) rfl ⟨rfl, by decide, by decide⟩ (fun w h Y => PySem.W.kIn_of Y) ?F (fun _ _ a ns hl _ hS => ⟨a, ns, rfl, hS, hl, fun _ => rfl⟩)
  case F =>
    intro w mg fa h KX G hmg
    refine' KA.all_mk KX G hmg ?a0 ?l0 ?c0 ?k0 ?a1 ?l1 ?c1 ?k1 ?a2 ?l2 ?c2 ?k2 ?a3 ?l3 ?c3 ?k3 ?a4 ?l4 ?c4 ?k4 ?a5 ?l5 ?c5 ?k5 ?a6 ?l6 ?c6 ?k6 ?a7 ?l7 ?c7 ?k7 ?a8 ?l8 ?c8 ?k8 ?a9 ?l9 ?c9 ?k9 ?a10 ?l10 ?c10 ?k10 ?a11 ?l11 ?c11 ?k11 ?a12 ?l12 ?c12 ?k12 ?a13 ?l13 ?c13 ?k13 ?a14 ?l14 ?c14 ?k14 ?a15 ?l15 ?c15 ?k15 ?a16 ?l16 ?c16 ?k16 ?z0 ?z1 ?z2 ?z3 ?z4 ?z5 ?z6 ?z7 ?z8 ?z9 ?z10 ?z11 ?z12 ?z13 ?z14 ?z15 ?z16 ?z17 ?z18 ?aiMAX_NODES ?aiMAX_NEST ?aTJOINING ?lTJOINING ?sTJOINING ?vTJOINING ?aTNAMING ?lTNAMING ?sTNAMING ?vTNAMING ?aTQUANTIFIERS ?lTQUANTIFIERS ?sTQUANTIFIERS ?vTQUANTIFIERS ?aH ?lH ?kH ?hk0 ?hv0 ?hk1 ?hv1
    (case a0 => k_is)
    (case l0 => k_is)
    (case c0 => k_is)
    (case k0 => k_is)
    (case a1 => k_is)
    (case l1 => k_is)
    (case c1 => k_is)
    (case k1 => k_is)
    (case a2 => k_is)
    (case l2 => k_is)
    (case c2 => k_is)
    (case k2 => k_is)
    (case a3 => k_is)
    (case l3 => k_is)
    (case c3 => k_is)
    (case k3 => k_is)
    (case a4 => k_is)
    (case l4 => k_is)
    (case c4 => k_is)
    (case k4 => k_is)
    (case a5 => k_is)
    (case l5 => k_is)
    (case c5 => k_is)
    (case k5 => k_is)
    (case a6 => k_is)
    (case l6 => k_is)
    (case c6 => k_is)
    (case k6 => k_is)
    (case a7 => k_is)
    (case l7 => k_is)
    (case c7 => k_is)
    (case k7 => k_is)
    (case a8 => k_is)
    (case l8 => k_is)
    (case c8 => k_is)
    (case k8 => k_is)
    (case a9 => k_is)
    (case l9 => k_is)
    (case c9 => k_is)
    (case k9 => k_is)
    (case a10 => k_is)
    (case l10 => k_is)
    (case c10 => k_is)
    (case k10 => k_is)
    (case a11 => k_is)
    (case l11 => k_is)
    (case c11 => k_is)
    (case k11 => k_is)
    (case a12 => k_is)
    (case l12 => k_is)
    (case c12 => k_is)
    (case k12 => k_is)
    (case a13 => k_is)
    (case l13 => k_is)
    (case c13 => k_is)
    (case k13 => k_is)
    (case a14 => k_is)
    (case l14 => k_is)
    (case c14 => k_is)
    (case k14 => k_is)
    (case a15 => k_is)
    (case l15 => k_is)
    (case c15 => k_is)
    (case k15 => k_is)
    (case a16 => k_is)
    (case l16 => k_is)
    (case c16 => k_is)
    (case k16 => k_is)
    (case z0 => k_is)
    (case z1 => k_is)
    (case z2 => k_is)
    (case z3 => k_is)
    (case z4 => k_is)
    (case z5 => k_is)
    (case z6 => k_is)
    (case z7 => k_is)
    (case z8 => k_is)
    (case z9 => k_is)
    (case z10 => k_is)
    (case z11 => k_is)
    (case z12 => k_is)
    (case z13 => k_is)
    (case z14 => k_is)
    (case z15 => k_is)
    (case z16 => k_is)
    (case z17 => k_is)
    (case z18 => k_is)
    (case aiMAX_NODES => k_is)
    (case aiMAX_NEST => k_is)
    (case aTJOINING => k_is)
    (case lTJOINING => k_is)
    (case sTJOINING => (first | decide | (show _ ≤ sizeLine; decide) | k_is))
    (case vTJOINING => (first | exact (.cons ⟨_, rfl⟩ (.cons ⟨_, rfl⟩ .nil)) | k_is))
    (case aTNAMING => k_is)
    (case lTNAMING => k_is)
    (case sTNAMING => (first | decide | (show _ ≤ sizeLine; decide) | k_is))
    (case vTNAMING => (first | exact (.cons ⟨_, rfl⟩ (.cons ⟨_, rfl⟩ (.cons ⟨_, rfl⟩ .nil))) | k_is))
    (case aTQUANTIFIERS => k_is)
    (case lTQUANTIFIERS => k_is)
    (case sTQUANTIFIERS => (first | decide | (show _ ≤ sizeLine; decide) | k_is))
    (case vTQUANTIFIERS => (first | exact (.cons ⟨_, rfl⟩ (.cons ⟨_, rfl⟩ .nil)) | k_is))
    (case aH => k_is)
    (case lH => k_is)
    (case kH => (first | exact ⟨⟨_, _, rfl, rfl⟩, ⟨_, _, rfl, rfl⟩, ⟨_, _, rfl, rfl⟩, ⟨_, _, rfl, rfl⟩, trivial⟩ | k_is))
    (case hk0 => k_is)
    (case hv0 => (first | exact ⟨_, rfl⟩ | exact rfl | exact .str _ _))
    (case hk1 => k_is)
    (case hv1 => (first | exact ⟨_, rfl⟩ | exact rfl | exact .str _ _))
