import PyProof.Rows.All
import Wide.All
import OpenK.AllK
import Wide.FinOn
import PyProof.Rows.NestShow
import HandS.ForMost
import HandS.Exc
import HandS.ExcOwn
import HandS.WordsExc
import HandS.Defaults
import HandS.More
import HandS.Strs
import HandS.Conv
import HandS.SetFor
import HandS.SortInts
import HandS.DictComp
import HandS.TupAny
import HandS.ExcIs
import HandS.Evl
import KE.GoesEnum
import HandS.RaiseMore
import KE.SortData
import KE.SortKeyHeap
import KE.KDictPairs
import KE.KDictList
import HandS.Style
import HandS.List
import HandS.Text
import PyProof.SliceStr2
import PyProof.Rows.StrRev
import HandS.IsInst
import HandS.TupMul
import HandS.ExcInit
import HandS.Nested
import KE.KExcSuper
import HandS.ExcBuiltin
import KE.KExcIs
import HandS.Deep
import PySem.Challenge.RW_eachsome_k10_whole_sentences_changed
import HandS.Wide
import HandS.Codes
import HandS.NoneIn
set_option Elab.async false
set_option linter.all false
set_option maxRecDepth 100000
set_option maxHeartbeats 4000000
/-! Own rules: repr of data where nothing is being shown, set of a tuple of ints, a text times a number, an own error made without arguments, calls by names alone; defs whose promise needs that nothing is being shown. -/
namespace Ea
open PySem PySem.Spec PyProof.Rows L2

/-! ### repr -/
def rRepr (K : PySem.W.Frag) : List V → Hp → VK → Prop := fun xs H Q =>
  ∃ (x : V) (d : PyData), xs = [x] ∧ Dp K H x d ∧ d.showable = true ∧ isDisplay d = true ∧ d.hasDict = false ∧ d.depth ≤ 40 ∧ d.shown.length ≤ sizeLine ∧ Q (.str d.shown) H
section
variable {X : Cx}
theorem cr_repr (hg : X.A.guards = some []) (hu : X.A.units + 64 < cLine) : CallR X (.builtin "repr") (rRepr X.K) := by
  intro pins s σ H xs us Q I r h
  obtain ⟨x, d, rfl, hd, h1, h2, h3, h4, h5, q⟩ := h
  obtain ⟨u, rfl, ru⟩ := vals1 r
  obtain ⟨as, rd⟩ := Dp.reads I d x u hd ru
  obtain ⟨a, rfl⟩ := isRef_of_reads rd h2
  exact repr_of_reads' rd h1 (PyData.noDict_hsm h3) hg (by omega) (fun _ _ e => e)
    (fun h' tk u hk => ⟨.str d.shown, H, I.kept hk, ⟨_, rfl⟩, q⟩) h5

/-! ### set of a tuple of ints -/
def rSetI (K : PySem.W.Frag) (w : World) : List V → Hp → VK → Prop := fun xs H Q =>
  ∃ (p : Addr) (ns : List Int), xs = [.ref p] ∧ SqT K H p (ns.map V.int) ∧ ns.length ≤ 1000 ∧
    ∀ (a : Addr) (c : Nat), H a = none → c ≤ ns.length → Q (.ref a) (upd H a (SetO w a (fun j => decide (j ∈ ns)) c))
theorem cr_setI (hc : X.calm = true) : CallR X (.type "set") (rSetI X.K X.w) := by
  intro pins s σ H xs us Q I r h
  obtain ⟨p, ns, rfl, hp, hl, q⟩ := h
  rw [Vals.ref1 r]
  obtain ⟨its, rv, pt, hz⟩ := I.tuple hp
  have hi : IntsAre its.toArray.toList ns := by simpa using rv.ints
  have hf : H s.heap.objs.size = none := I.hok.fresh (Nat.le_refl _)
  refine call_set_tupI ns (I.ok.hd hc) pt hi (by unfold scanBound; omega) fun h' tk c R1 hcn k => ?_
  exact ⟨.ref _, upd H s.heap.objs.size (SetO X.w s.heap.objs.size (fun j => decide (j ∈ ns)) c),
    I.laid (t' := tk) k (Nat.le_refl _) (setO_new R1), rfl, q _ c hf hcn⟩

/-! ### a text times a number -/
theorem folded_size (z : Array Nat) : ∀ (n : Nat) (acc : Array Nat), ((List.replicate n z).foldl (· ++ ·) acc).size = acc.size + n * z.size
  | 0, acc => by simp
  | n + 1, acc => by
    rw [List.replicate_succ, List.foldl_cons, folded_size z n, Array.size_append, Nat.succ_mul]
    omega
def repS (z : Str) (n : Int) : Str := ⟨(List.replicate n.toNat z.cps).foldl (· ++ ·) #[]⟩
def rMulS : R2 := fun x y H Q => ∃ z n, x = .str z ∧ y = .int n ∧ 0 ≤ n ∧ n ≤ 1000 ∧ z.length ≤ 1000 ∧ 1 ≤ z.length ∧ Q (.str (repS z n)) H
theorem repS_length (z : Str) (n : Int) : (repS z n).length = n.toNat * z.length := by
  have h := folded_size z.cps n.toNat #[]
  rw [Array.size_empty, Nat.zero_add] at h
  exact h
theorem repS_fits {z : Str} {n : Int} (h1 : n ≤ 1000) (h2 : z.length ≤ 1000) : (repS z n).length ≤ sizeLine := by
  rw [repS_length, sizeLine_eq]
  have : n.toNat * z.length ≤ 1000 * 1000 := Nat.mul_le_mul (by omega) h2
  omega
theorem op_mulS : OpR X (binaryOp .Mult) rMulS := by
  intro pins s σ H x y v u Q I rx ry h
  obtain ⟨z, n, rfl, rfl, h0, h1, h2, h3, q⟩ := h
  obtain ⟨t, rfl⟩ := rx
  obtain ⟨t', rfl⟩ := ry
  have hlen : z.length * n.toNat ≤ 1000 * 1000 := Nat.mul_le_mul h2 (by omega)
  have hr : (decide (n < -(2 ^ 63 : Int)) || decide (n ≥ 2 ^ 63)) = false := by
    rw [decide_eq_false (by omega), decide_eq_false (by omega)]; rfl
  refine PySem.P.mul_str hr ?_ ?_ ?_
  · intro hn _ hgt
    have e : (1000 : Int) ≤ (2 ^ 63 - 1) / n := by
      rw [Int.le_ediv_iff_mul_le (by omega)]
      omega
    omega
  · intro _ _
    unfold Builtin.Str.tooLong
    rw [decide_eq_false_iff_not, sizeLine_eq]
    omega
  · by_cases c1 : n < 1
    · rw [if_pos c1]
      have e0 : n = 0 := by omega
      subst e0
      refine ⟨by decide, .str (repS z 0), H, I.tok _, ⟨_, rfl⟩, q⟩
    · rw [if_neg c1]
      by_cases c2 : (n == 1 || z.length == 0) = true
      · rw [if_pos c2]
        have e1 : n = 1 := by
          rcases Bool.or_eq_true _ _ |>.mp c2 with h | h
          · exact eq_of_beq h
          · have := eq_of_beq h
            omega
        subst e1
        have e2 : repS z 1 = z := by
          unfold repS
          show (⟨#[] ++ z.cps⟩ : Str) = z
          rw [Array.empty_append]
        rw [e2] at q
        exact ⟨.str z, H, I, ⟨_, rfl⟩, q⟩
      · rw [if_neg c2]
        exact ⟨repS_fits h1 h2, .str (repS z n), H, I.tok _, ⟨_, rfl⟩, q⟩

/-! ### X(): an own error without arguments -/
theorem pmk_own0 {C : Addr} {bmB : List Value} {B newId initId : String} {x : Str} {p pos : Pos} (F : ExcBaseFacts B newId initId bmB)
    (q : PySem.W.excIn X.K C bmB newId = true) (gC : X.mg x = some (.ref C)) (kC : PySem.W.keepIn X.K (.ref C) = true)
    (r : Raises X (.ref C)) (hg : Gl X x) (hdb : (x == ("__debug__" : Str)) = false := by decide) :
    PMk X (.Call (.Name x p) [] [] pos) (fun _ H Q => Q (.ref C) none H) := by
  intro pins s σ H Q I h
  refine wpAny_Call_Name_kw (ld_glob I hg gC (PySem.W.callWith_K0 I.kIn kC ?_) hdb)
  obtain ⟨bm, N, nm, qn, bs, hdct, sn, sub, ab, col, dd, k0, k1, k2, k3, k5, mN, hC, hN, hni, T⟩ := exc_obj I.kIn q
  exact wpAny_call_exc_subT F T hC hN hni (fun h' e hm => mk_of I hm r h (I.hok.gone hm.new)) (Nat.zero_le _)

/-! ### f(k = v, ..) by names alone; what it lets out is wished at the slots -/
def tKw (m : Nat) (sp : Sp) (gV : List V → List V) (E : L2.St → XK) (tk : TA) : TE := fun σ H Q =>
  tk σ H fun zs H2 => zs.length = m ∧ sp (gV zs) H2 Q (E σ)
theorem pe_kw {CX : CXT} {k : Nat} {f : Addr} {fd : FuncData} {ps ks : List Str} {sp : Sp} {E : L2.St → XK} {x : Str} {p pos : Pos} {kws : List Keyword} {tk : TA}
    {g : List Value → List Value} {gV : List V → List V} (F : FnOk X.prog X.w X.K X.mg X.base CX k f fd ps sp) (hr : Room k X.A) (hg : Gl X x)
    (hm : X.mg x = some (.ref f)) (hk : PySem.W.keepIn X.K (.ref f) = true)
    (hto : ∀ (s : Shared) (ws : List Value), ws.length = ks.length → BindsTo s fd ⟨[], ks.zip ws⟩ (ps.zip (g ws)))
    (hrel : ∀ {zs : List V} {ws : List Value}, zs.length = ks.length → Vals zs ws → Vals (gV zs) (g ws))
    (hx : ∀ σ, PassesAt CX X σ (E σ)) (hkw : PK X kws tk)
    (hall : (backToKw pos (keywordEach kws X.env)).all (·.1.isSome) = true := by rfl)
    (hks : (backToKw pos (keywordEach kws X.env)).filterMap (·.1) = ks := by rfl)
    (hdb : (x == ("__debug__" : Str)) = false := by decide)
    (hpl : ((backTo pos (starEach [] X.env)).any (·.1) || (backToKw pos (keywordEach kws X.env)).any (·.1.isNone)) = false := by rfl) :
    PE X (.Call (.Name x p) [] kws pos) (tKw ks.length sp gV E tk) := by
  refine ⟨fun pins s σ H Q I h => ?_⟩
  refine wpAny_Call_Name_kw (ld_glob I hg hm (PySem.W.callWith_KW0 (h₀ := X.base) I.ok.mod.kin hk hall ?_ hpl) hdb)
  refine thn (hkw.run pos pins s σ H _ I h) fun ws s2 ⟨zs, H2, I2, rz, l2, q2⟩ => ⟨I2.kIn, ?_⟩
  rw [hks]
  have hl : (g ws).length = ps.length := by
    rw [← (hrel l2 rz).length]
    exact F.len _ _ _ _ q2
  refine wpAny_call (codeAny_mono (F.run X.A X.stack s2 H2 ⟨[], ks.zip ws⟩ (g ws) (gV zs) Q (E σ) hr I2.env0
    (hto s2 ws (rz.length.symm.trans l2)) (hrel l2 rz) q2) fun r s' hq => ?_)
  match r, hq with
  | .error e, hq => exact hx σ pins H2 s2 e s' I2 hq
  | .ok (.ret u), hq => exact I2.after hq

/-! ### where nothing is being shown -/
structure FnG (P : Program) (w : World) (K : PySem.W.Frag) (mg : Str → Option Value) (base : Heap) (k : Nat) (f : Addr) (fd : FuncData)
    (ps : List Str) (sp : Sp) : Prop where
  len : ∀ vs H Q E, sp vs H Q E → vs.length = ps.length
  run : ∀ (A : Around) (outer : List Env) (s : Shared) (H : Hp) (args : Args) (us : List Value) (vs : List V) (Q : VK) (E : XK),
    Room k A → A.guards = some [] → Env0 P w K mg base A outer s H → BindsTo s fd args (ps.zip us) → Vals vs us → sp vs H Q E →
    codeAny (model P w) A (.call (.ref f) args) (CR CX0 outer P w H s Q E) s
theorem FnG.mono {P : Program} {w : World} {K : PySem.W.Frag} {mg : Str → Option Value} {base : Heap} {j k : Nat} {f : Addr} {fd : FuncData}
    {ps : List Str} {sp : Sp} (F : FnG P w K mg base j f fd ps sp) (h : j ≤ k) : FnG P w K mg base k f fd ps sp :=
  ⟨F.len, fun A outer s H args us vs Q E hr => F.run A outer s H args us vs Q E (hr.mono h)⟩
theorem pe_callG {k : Nat} {f : Addr} {fd : FuncData} {ps : List Str} {sp : Sp} {x : Str} {p pos : Pos} {e : Expr} {es : List Expr} {t : TA}
    (F : FnG X.prog X.w X.K X.mg X.base k f fd ps sp) (hr : Room k X.A) (h0 : X.A.guards = some []) (hg : Gl X x)
    (hm : X.mg x = some (.ref f)) (hk : PySem.W.keepIn X.K (.ref f) = true) (hb : Binds X.K fd ps []) (ha : PA X (e :: es) t)
    (hdb : (x == ("__debug__" : Str)) = false := by decide)
    (he : starEach (e :: es) X.env = (false, eval e X.env) :: starEach es X.env := by rfl)
    (hpl : (backTo pos (starEach es X.env)).any (·.1) = false := by rfl) :
    PE X (.Call (.Name x p) (e :: es) [] pos) (tCall sp [] E0 t) := by
  refine ⟨fun pins s σ H Q I h => ?_⟩
  refine wpAny_Call_Name_kw (ld_glob I hg hm (PySem.W.callWith_K (h₀ := X.base) I.ok.mod.kin hk
    (thn (ha.run pos pins s σ H _ I h) fun us s1 hu => ?_) he hpl) hdb)
  obtain ⟨vs, H1, I1, r, q⟩ := hu
  rw [List.append_nil] at q
  refine ⟨I1.kIn, wpAny_call ?_⟩
  have hl : us.length = ps.length := by
    rw [← r.length]
    exact F.len _ _ _ _ q
  have b := hb s1 us I1.kIn (by rw [List.append_nil]; exact hl)
  rw [List.append_nil] at b
  refine codeAny_mono (F.run X.A X.stack s1 H1 ⟨us, []⟩ us vs Q E0 hr h0 I1.env0 b r q) fun r s' hq => ?_
  match r, hq with
  | .error e, hq => exact False.elim hq
  | .ok (.ret u), hq => exact I1.after hq
end
section
variable {P : Program} {w : World} {K : PySem.W.Frag} {mg : Str → Option Value} {base : Heap}
theorem okG {x qual : Str} {st : Stmt} {f : Addr} {fd : FuncData} {N ps : List Str} {k : Nat} {sp : Sp} (F : Fun K x qual st f fd)
    (S : FnScope N ps (defScope st)) (len : ∀ vs H Q E, sp vs H Q E → vs.length = ps.length)
    (hbody : ∀ (cdv : Value) (A : Around) (outer : List Env) (s : Shared) (H : Hp) (vs : List V) (Q : VK) (E : XK),
      Room k (A.deeper (envOfC qual (defScope st) s.heap.objs.size f cdv)) → A.guards = some [] → sp vs H Q E →
      ∃ t, PSs (cxOf CX0 P w K mg base N qual (defScope st) f cdv A outer s H E).nox (defBody st) t ∧
        t { nx := fun _ H' => Q .non H', rt := Q } (start N vs) H) : FnG P w K mg base (k + 1) f fd ps sp := by
  obtain ⟨oc, od, kV, doc, pm, an, cdv, ct, osl, rfl, lk, hcd⟩ := F.ex
  refine ⟨len, fun A outer s H args us vs Q E hr h0 e0 hb r hsp => ?_⟩
  have KX : K.In s.heap := e0.mod.kin.keeps fun b o e => (e0.bs b o e).1
  have lim : s.heap.NoLimit := e0.mod.nolimit.keeps fun b o e => (e0.bs b o e).1
  refine codeAny_call_function hr.depth (KX _ _ lk) rfl S.co S.gen rfl (PySem.W.codeRec_of KX hcd) (hb _ _ _ _
    (wpAny_newFunctionEnv_cells S.kind (fun y hy => ?_) fun env he s1 y => ?_))
  · obtain ⟨n, v⟩ := y
    exact (S.par n (List.of_mem_zip hy).1).imp id fun z => ⟨z, PySem.W.cellsFrom_some _ _ _ (.inl z)⟩
  · subst he
    refine ⟨lim.keeps y.toInCall.keep, codeAny_func ?_⟩
    obtain ⟨t, ht, hq⟩ := hbody cdv A outer s H vs Q E (hr.deeper _) h0 hsp
    have I : Inv (cxOf CX0 P w K mg base N qual (defScope st) f cdv A outer s H E) [] (start N vs) H s1 :=
      inv_start S hr.hd e0 (len _ _ _ _ hsp) r y
    refine wpAny_mono (ht.nox.run [] s1 (start N vs) H _ I hq) (fun fl s' hs => ?_) fun e s' hs => hs
    match fl, hs with
    | .ret u, ⟨v, σ', H', J, rv, q⟩ => exact ⟨v, H', J.os, J.bare, J.base, J.hok, rv, q⟩
    | .next, ⟨σ', H', J, q⟩ => exact ⟨V.non, H', J.os, J.bare, J.base, J.hok, rfl, q⟩
    | .brk, ⟨_, _, _, q⟩ => exact False.elim q
    | .cont, ⟨_, _, _, q⟩ => exact False.elim q
end
end Ea
set_option Elab.async false
set_option linter.all false
set_option maxRecDepth 100000
set_option maxHeartbeats 4000000
/-! The law's own call, from a promise that needs that nothing is being shown. -/
namespace Ea
open PySem PySem.Spec PyProof.Rows L2

section
variable {P : Program} {w : World} {K : PySem.W.Frag} {mg mb : Str → Option Value} {k : Nat} {fa a : Addr} {fd : FuncData} {x : Str} {sp : Sp}
  {s₁ : Shared} {vs : List Value} {ns : List Int}
/-- what the call is to end with -/
abbrev Fine (s₁ : Shared) : Result → Shared → Prop := fun r s' => r = .ok (.ret (.bool true)) ∧ OldK s₁.heap s'.heap ∧ s'.os = s₁.os ∧ AllBare s'.gens

theorem call_from (KX : K.In s₁.heap) (hns : s₁.heap.Ns mainGlobals mg) (hb : s₁.heap.Ns builtinsNs mb)
    (hbb : ∀ x : Str, x ≠ "__name__" → mb x = bootBuiltins x) (hlim : s₁.heap.NoLimit) (hg : s₁.gens = #[])
    (ha : s₁.heap.get? a = some { cls := .type "list", data := .seq vs.toArray }) (hr : Room k callerA)
    (F : ∀ base : Heap, K.In base → base.Ns mainGlobals mg → FnG P w K mg base k fa fd [x] sp)
    (hbind : ∀ (s : Shared) (u : Value), BindsTo s fd ⟨[u], []⟩ [(x, u)])
    {H : Hp} (hO : Only H) (hok : HOk P w H s₁.heap) (hA : ∀ b, H b ≠ none → b = a) (hK : H a ≠ none → K.lookup a = none)
    (h : sp [.ref a] H (fun v _ => v = .bl true) fun _ _ _ => False) :
    codeAny (model P w) callerA (.call (.ref fa) ⟨[.ref a], []⟩) (Fine s₁) s₁ := by
  have out : ∀ {b : Addr}, (∃ u, H b = some u) → b = a := fun {b} ⟨u, e⟩ => hA b (by rw [e]; exact nofun)
  have free : ∀ {b : Addr} {o : Obj} {es : Array DictEntry} {ep : Nat}, s₁.heap.get? b = some o → o.data = .dict es ep → H b = none := by
    intro b o es ep e d
    cases q : H b with
    | none => rfl
    | some u =>
      obtain rfl := out ⟨u, q⟩
      rw [ha] at e
      cases e
      cases d
  have nsK : ∀ {b : Addr} {m : Str → Option Value}, s₁.heap.Ns b m → (hidT s₁.heap H).Ns b m :=
    fun {b m} ⟨o, es, ep, e, d, r⟩ => ⟨o, es, ep, hidT_get e (free e d), d, r⟩
  have hKb : K.In (hidT s₁.heap H) := by
    intro b o e
    refine hidT_get (KX b o e) ?_
    cases q : H b with
    | none => rfl
    | some u =>
      obtain rfl := out ⟨u, q⟩
      rw [hK (by rw [q]; exact nofun)] at e
      cases e
  have lim : (hidT s₁.heap H).NoLimit := by
    obtain ⟨mc, h1, h2⟩ := hlim
    exact ⟨mc, nsK h1, h2⟩
  have e0 : Env0 P w K mg (hidT s₁.heap H) callerA [] s₁ H :=
    ⟨rfl, ⟨hKb, nsK hns, ⟨mb, nsK hb, hbb⟩, lim⟩, fun b o e => of_hidT e, Nat.le_of_eq (hidT_size _ _), trivial, nofun, hok, .of_eq hg⟩
  have run := (F _ hKb (nsK hns)).run callerA [] s₁ H ⟨[.ref a], []⟩ [.ref a] [.ref a] (fun v _ => v = .bl true) (fun _ _ _ => False) hr rfl e0
    (hbind s₁ (.ref a)) (.cons rfl .nil) h
  refine codeAny_mono run fun r s' hq => ?_
  match r, hq with
  | .error e, hq => exact False.elim hq
  | .ok (.ret u), ⟨v, H', os, bare, un, hok', r', (q' : v = .bl true)⟩ =>
    subst q'
    obtain rfl : u = Value.bool true := r'
    refine ⟨rfl, OldK.of_keep fun b o e => ?_, os, bare⟩
    cases q : H b with
    | none => exact un.keep b o e q nofun nofun
    | some u =>
      rcases hO b with z | ⟨ob, xs, z⟩
      · rw [q] at z
        cases z
      · obtain ⟨e1, _⟩ := hok b _ z
        obtain ⟨e2, _⟩ := hok' b _ (un.frzs b ob _ z)
        rw [e] at e1
        cases e1
        exact e2

theorem call_law (KX : K.In s₁.heap) (hns : s₁.heap.Ns mainGlobals mg) (hb : s₁.heap.Ns builtinsNs mb)
    (hbb : ∀ x : Str, x ≠ "__name__" → mb x = bootBuiltins x) (hlim : s₁.heap.NoLimit) (hg : s₁.gens = #[])
    (ha : s₁.heap.get? a = some { cls := .type "list", data := .seq vs.toArray }) (hi : IntsAre vs ns) (hl : ns.length ≤ sizeLine) (hr : Room k callerA)
    (F : ∀ base : Heap, K.In base → base.Ns mainGlobals mg → FnG P w K mg base k fa fd [x] sp)
    (hbind : ∀ (s : Shared) (u : Value), BindsTo s fd ⟨[u], []⟩ [(x, u)])
    (hsp : ∀ H : Hp, Only H → SqL K H a (ns.map V.int) → sp [.ref a] H (fun v _ => v = .bl true) fun _ _ _ => False) :
    codeAny (model P w) callerA (.call (.ref fa) ⟨[.ref a], []⟩) (Fine s₁) s₁ := by
  have rv := vals_ints hi
  cases hk : K.lookup a with
  | some o =>
    have e := KX a o hk
    rw [ha] at e
    cases e
    have hS : SqL K (fun _ => none) a (ns.map V.int) :=
      .inr ⟨_, vs.toArray, _, hk, rfl, rfl, rfl, by rw [List.size_toArray, hi.length]; exact hl, by simpa using rv⟩
    exact call_from KX hns hb hbb hlim hg ha hr F hbind (H := fun _ => none) (fun _ => .inl rfl) nofun (fun b z => absurd rfl z) (fun z => absurd rfl z) (hsp _ (fun _ => .inl rfl) hS)
  | none =>
    let one : HO := .frz { cls := .type "list", data := .seq vs.toArray } (.lst (ns.map V.int))
    let H : Hp := fun b => if b = a then some one else none
    have at_ : H a = some one := if_pos rfl
    have off : ∀ {b : Addr}, b ≠ a → H b = none := fun h => if_neg h
    have hO : Only H := fun b => by
      by_cases e : b = a
      · subst e
        exact .inr ⟨_, _, at_⟩
      · exact .inl (off e)
    have hS : SqL K H a (ns.map V.int) := .inl (.inr ⟨_, at_⟩)
    refine call_from KX hns hb hbb hlim hg ha hr F hbind hO (fun b u z => ?_) (fun b z => ?_) (fun _ => hk) (hsp H hO hS)
    · by_cases e : b = a
      · subst e
        rw [at_] at z
        cases z
        exact ⟨ha, by rw [List.length_map]; exact hl, vs, _, rv, ha⟩
      · rw [off e] at z
        cases z
    · by_cases e : b = a
      · exact e
      · exact absurd (off e) z
end
theorem walk_G {l : PySem.W.OpenLaw} {n k : Nat} {q : Program} {loose : List Str} {XP : (Str → Option Value) → Heap → Prop} {YP : World → Heap → Prop}
    {d : DefRec} {K : Params → PySem.W.Frag} {sp : World → Sp} {x : Str}
    (hn : l.most = some n) (hn2 : n ≤ sizeLine) (hdf : d.params.defaults = []) (hr : Room k callerA)
    (hY : ∀ (w : World) (h : Heap), YP w h → (K w.params).In h)
    (F : ∀ (w : World) (mg : Str → Option Value) (fa : Addr) (h : Heap), (K w.params).In h → h.Ns mainGlobals mg → mg d.name = some (.ref fa) →
      ∃ fd : FuncData, (∀ (s : Shared) (u : Value), BindsTo s fd ⟨[u], []⟩ [(x, u)]) ∧
        ∀ base : Heap, (K w.params).In base → base.Ns mainGlobals mg → FnG l.prog w (K w.params) mg base k fa fd [x] (sp w))
    (hsp : ∀ (w : World) (H : Hp) (a : Addr) (ns : List Int), ns.length ≤ n → Only H → SqL (K w.params) H a (ns.map V.int) →
      sp w [.ref a] H (fun v _ => v = .bl true) fun _ _ _ => False) :
    PySem.W.WalkO q loose XP YP l.row.toRowW d [] (fun f vs => PySem.call f vs) := by
  refine Att.attach_call hn hdf fun w s₀ s₁ mg mb fa o pm cd doc a vs ns G Y ho hd hcd hmg hobj hints hlen hg => ?_
  obtain ⟨fd, hb, hF⟩ := F w mg fa _ (hY w _ Y) G.T.g hmg
  exact call_law (hY w _ Y) G.T.g G.T.b G.T.builtins G.T.nolimit hg hobj hints (Nat.le_trans hlen hn2) hr hF hb fun H hO hS => hsp w H a ns hlen hO hS
end Ea
set_option Elab.async false
set_option linter.all false
set_option maxRecDepth 100000
set_option maxHeartbeats 4000000
/-! Readings gone through from the left: one lemma for each shape; a deck of draws (a dict). -/
namespace Ea
open PySem PySem.Spec PyProof.Rows L2

/-! ### built-ins by names of their own -/
def rInt : List V → Hp → VK → Prop := fun xs H Q => (∃ i, xs = [.int i] ∧ Q (.int i) H) ∨ ∃ k, xs = [.bl k] ∧ Q (.int (if k then 1 else 0)) H
def rAbs : List V → Hp → VK → Prop := fun xs H Q => ∃ i, xs = [.int i] ∧ Q (.int (if i < 0 then -i else i)) H
def rMin2 : List V → Hp → VK → Prop := fun xs H Q => ∃ i j, xs = [.int i, .int j] ∧ Q (.int (if j < i then j else i)) H
def rMax2 : List V → Hp → VK → Prop := fun xs H Q => ∃ i j, xs = [.int i, .int j] ∧ Q (.int (if j > i then j else i)) H
def rLenQ (K : PySem.W.Frag) : List V → Hp → VK → Prop := fun xs H Q => ∃ p ys, xs = [.ref p] ∧ (SqL K H p ys ∨ SqT K H p ys) ∧ Q (.int ys.length) H
def rLenS : List V → Hp → VK → Prop := fun xs H Q => ∃ z, xs = [.str z] ∧ z.length ≤ sizeLine ∧ Q (.int z.length) H
def rTupOf (K : PySem.W.Frag) : List V → Hp → VK → Prop := fun xs H Q => ∃ p ys, xs = [.ref p] ∧ ((SqL K H p ys ∧ ∀ l, H l = none → Q (.ref l) (upd H l (.tup ys))) ∨ (SqT K H p ys ∧ Q (.ref p) H))
def rListOf (K : PySem.W.Frag) : List V → Hp → VK → Prop := fun xs H Q => ∃ p ys, xs = [.ref p] ∧ (SqL K H p ys ∨ SqT K H p ys) ∧ ∀ l, H l = none → Q (.ref l) (upd H l (.lst ys))
section
variable {X : Cx}
theorem c_int : CallR X (.type "int") rInt := call_int1
theorem c_abs : CallR X (.builtin "abs") rAbs := call_abs
theorem c_min2 (hc : X.calm = true) : CallR X (.builtin "min") rMin2 := call_min2 hc
theorem c_max2 (hc : X.calm = true) : CallR X (.builtin "max") rMax2 := call_max2 hc
theorem c_len {K : PySem.W.Frag} (h : X.K = K) : CallR X (.builtin "len") (rLenQ K) := h ▸ call_len_seq
theorem c_lenS : CallR X (.builtin "len") rLenS := call_len_str
theorem c_tuple {K : PySem.W.Frag} (h : X.K = K) : CallR X (.type "tuple") (rTupOf K) := h ▸ call_tuple_of
theorem c_list {K : PySem.W.Frag} (h : X.K = K) : CallR X (.type "list") (rListOf K) := h ▸ call_list_of
theorem c_sum {K : PySem.W.Frag} (h : X.K = K) (hc : X.calm = true) : CallR X (.builtin "sum") (rSum K) := h ▸ cr_sum hc
theorem c_max {K : PySem.W.Frag} (h : X.K = K) (hc : X.calm = true) : CallR X (.builtin "max") (rMax K) := h ▸ cr_max hc
theorem c_min {K : PySem.W.Frag} (h : X.K = K) (hc : X.calm = true) : CallR X (.builtin "min") (rMin K) := h ▸ cr_min hc
theorem c_sorted {K : PySem.W.Frag} (h : X.K = K) : CallR X (.builtin "sorted") (rSortedI K) := h ▸ cr_sortedI
theorem c_repr {K : PySem.W.Frag} (h : X.K = K) (hg : X.A.guards = some []) (hu : X.A.units + 64 < cLine) : CallR X (.builtin "repr") (rRepr K) := h ▸ cr_repr hg hu
theorem c_set {K : PySem.W.Frag} {w : World} (h : X.K = K) (h2 : X.w = w) (hc : X.calm = true) : CallR X (.type "set") (rSetI K w) := h ▸ h2 ▸ cr_setI hc
theorem ik_list {K : PySem.W.Frag} (h : X.K = K) : IxR X (rIxL K) := h ▸ ix_list
theorem ik_tup {K : PySem.W.Frag} (h : X.K = K) : IxR X (rIxT K) := h ▸ ix_tup
theorem ik_dict {K : PySem.W.Frag} {w : World} (h : X.K = K) (h2 : X.w = w) : IxR X (rIxD K w) := h ▸ h2 ▸ ix_kdict
theorem sk_list {K : PySem.W.Frag} (h : X.K = K) : SlR X (rSlL K) := h ▸ sl_list
theorem sk_tup {K : PySem.W.Frag} (h : X.K = K) : SlR X (rSlA K) := h ▸ sl_tupA
theorem ok_in {K : PySem.W.Frag} (h : X.K = K) : OpR X (compareOp .In) (rIn K false) := h ▸ op_in_seq
theorem ok_notIn {K : PySem.W.Frag} (h : X.K = K) : OpR X (compareOp .NotIn) (rIn K true) := h ▸ op_notIn_seq
theorem ok_eqD {K : PySem.W.Frag} (h : X.K = K) (hu : X.A.units + 64 < cLine) : OpR X (compareOp .Eq) (rEqD K) := h ▸ op_eqD hu
theorem ok_neD {K : PySem.W.Frag} (h : X.K = K) (hu : X.A.units + 64 < cLine) : OpR X (compareOp .NotEq) (rNeD K) := h ▸ op_neD hu
theorem ok_catT {K : PySem.W.Frag} (h : X.K = K) : OpR X (binaryOp .Add) (rCatA K) := h ▸ op_catA
theorem ok_sin {w : World} (h : X.w = w) : OpR X (compareOp .In) (rSIn w) := h ▸ or_sin
theorem ok_snotin {w : World} (h : X.w = w) : OpR X (compareOp .NotIn) (rSNotIn w) := h ▸ or_snotin
theorem ik_tupI {K : PySem.W.Frag} (h : X.K = K) {tg l : Expr} {tl : TE} (hl : PE X l tl) : PI X tg l (iTup K tl) := h ▸ pi_tup hl
theorem ik_listI {K : PySem.W.Frag} (h : X.K = K) {tg l : Expr} {tl : TE} (hl : PE X l tl) : PI X tg l (iList K tl) := h ▸ pi_list hl
def tTruK (K : PySem.W.Frag) (ta : TE) : TT := fun σ H Q => ta σ H fun x H' => ∃ k, TruV K x H' k ∧ Q k H'
theorem pk_truth {K : PySem.W.Frag} (h : X.K = K) {a : Expr} {ta : TE} (ha : PE X a ta)
    (he : ∀ whole, isTrue a X.env whole = (do let v ← whole; standAt a.pos; holding [v] (truthy v))) : PT X a (tTruK K ta) := h ▸ pt_truth ha he
end
section
variable {K : PySem.W.Frag} {σ σ' : L2.St} {H : Hp} {Q : VK} {QB : Bool → Hp → Prop} {QA : List V → Hp → Prop} {D : Ends} {i j : Nat} {x y v w : V}
  {ta tb te td ty : TE} {tt tu : TT} {r : R2} {a b : Int} {ts tz : TS} {g : Int → Int → V} {gi : Int → V} {C : Int → Int → Prop} {tr : TA} {tl th : TO}
theorem rd_start {t : TS} (e : σ = σ') (h : t D σ' H) : t D σ H := by
  subst e
  exact h
theorem rd_seq (h : ts { D with nx := tz D } σ H) : tSeq ts tz D σ H := h
theorem rd_if (h : tt σ H fun c H1 => if c = true then ts D σ H1 else tz D σ H1) : tIfS tt ts tz D σ H := h
theorem rd_next (h : D.nx σ H) : tNext D σ H := h
theorem rd_ret (h : te σ H D.rt) : tRet te D σ H := h
theorem rd_drop (h : te σ H fun _ H1 => D.nx σ H1) : tDrop te D σ H := h
theorem rd_asg {tg : TG} (h : te σ H fun x H1 => tg x σ H1 D.nx) : tAsg te tg D σ H := h
theorem rd_name {N : L2.St → Hp → Prop} (hs : σ.set i (some v) = σ') (h : N σ' H) : gName i v σ H N := by
  subst hs
  exact h
theorem rd_var (hv : σ[i]? = some (some v)) (h : Q v H) : tVar i σ H Q := ⟨v, hv, h⟩
theorem rd_c (h : Q v H) : tC v σ H Q := h
theorem rd_op (h : ta σ H fun x H1 => tb σ H1 fun y H2 => r x y H2 Q) : tOp r ta tb σ H Q := h
theorem rd_un {ru : V → Hp → VK → Prop} (h : ta σ H fun x H1 => ru x H1 Q) : tUn ru ta σ H Q := h
theorem rd_I0 (h : Q (g a b) H) : rI0 g (.int a) (.int b) H Q := ⟨a, b, rfl, rfl, h⟩
theorem rd_I (hc : C a b) (h : Q (g a b) H) : rI C g (.int a) (.int b) H Q := ⟨a, b, rfl, rfl, hc, h⟩
theorem rd_U (h : Q (gi a) H) : rU gi (.int a) H Q := ⟨a, rfl, h⟩
theorem rd_eq (hs : scal x y = true) (h : Q (.bl (decide (x = y))) H) : rEq x y H Q := ⟨hs, h⟩
theorem rd_ne (hs : scal x y = true) (h : Q (.bl (!decide (x = y))) H) : rNe x y H Q := ⟨hs, h⟩
theorem rd_test (h : te σ H fun x H' => ∃ k, x = .bl k ∧ QB k H') : tTest te σ H QB := h
theorem rd_B (h : te σ H fun x H' => ∃ k, x = .bl k ∧ QB k H') : tB te σ H QB := h
theorem rd_not (h : tt σ H fun c H1 => QB (!c) H1) : tNot tt σ H QB := h
theorem rd_and (h : tt σ H fun c H1 => if c = true then tu σ H1 QB else QB false H1) : tAnd tt tu σ H QB := h
theorem rd_or (h : tt σ H fun c H1 => if c = true then QB true H1 else tu σ H1 QB) : tOr tt tu σ H QB := h
theorem rd_k {b : Bool} {P : Bool → Prop} (h : P b) : ∃ k, V.bl b = V.bl k ∧ P k := ⟨b, rfl, h⟩
theorem rd_ite {p : Prop} {_ : Decidable p} {A B : Prop} (h1 : p → A) (h2 : ¬ p → B) : if decide p = true then A else B := by
  by_cases h : p
  · rw [if_pos (decide_eq_true h)]
    exact h1 h
  · rw [if_neg (by rw [decide_eq_true_eq]; exact h)]
    exact h2 h
theorem rd_iten {p : Prop} {_ : Decidable p} {A B : Prop} (h1 : ¬ p → A) (h2 : p → B) : if (!decide p) = true then A else B := by
  by_cases h : p
  · rw [decide_eq_true h]
    exact h2 h
  · rw [decide_eq_false h]
    exact h1 h
theorem rd_iteb {b : Bool} {A B : Prop} (h1 : b = true → A) (h2 : b = false → B) : if b = true then A else B := by
  cases b with
  | true => exact h1 rfl
  | false => exact h2 rfl
theorem rd_ifE (h : tt σ H fun c H1 => if c = true then ta σ H1 Q else tb σ H1 Q) : tIf tt ta tb σ H Q := h
theorem rd_nil (h : QA [] H) : tNil σ H QA := h
theorem rd_cons (h : te σ H fun x H1 => tr σ H1 fun xs H2 => QA (x :: xs) H2) : tCons te tr σ H QA := h
theorem rd_call {sp : Sp} {ds : List V} {E : XK} (h : tr σ H fun vs H1 => sp (vs ++ ds) H1 Q E) : tCall sp ds E tr σ H Q := h
theorem rd_cb {rc : List V → Hp → VK → Prop} (h : tr σ H fun vs H1 => rc vs H1 Q) : tCB rc tr σ H Q := h
theorem rd_tup (h : tr σ H fun xs H1 => xs.length ≤ sizeLine ∧ ∀ p, H1 p = none → Q (.ref p) (upd H1 p (.tup xs))) : tTup tr σ H Q := h
theorem rd_lst (h : tr σ H fun xs H1 => xs.length ≤ sizeLine ∧ ∀ p, H1 p = none → Q (.ref p) (upd H1 p (.lst xs))) : tLst tr σ H Q := h
theorem rd_dget (h : td σ H fun x H1 => ty σ H1 fun y H2 => ∃ a v, x = .ref a ∧ DGet H2 a y (some v) ∧ Q v H2) : tDGet td ty σ H Q := h
theorem rd_sl {rs : V → Option Int → Option Int → Hp → VK → Prop} (h : te σ H fun x H1 => tl σ H1 fun l H2 => th σ H2 fun u H3 => rs x l u H3 Q) : tSl rs te tl th σ H Q := h
theorem rd_nopart {QO : Option Int → Hp → Prop} (h : QO none H) : tNoPart σ H QO := h
theorem rd_part {QO : Option Int → Hp → Prop} (h : te σ H fun x H1 => ∃ i, x = .int i ∧ QO (some i) H1) : tPart te σ H QO := h
theorem rd_parti {P : Int → Prop} (h : P a) : ∃ i, V.int a = .int i ∧ P i := ⟨a, rfl, h⟩
theorem rd_bm {T : String} {rm : V → List V → Hp → VK → Prop} (h : te σ H fun x H1 => tyV K T x H1 ∧ tr σ H1 fun xs H2 => rm x xs H2 Q) : tBM K T rm te tr σ H Q := h
theorem rd_bm0 {T : String} {rm : V → List V → Hp → VK → Prop} (h : te σ H fun x H1 => tyV K T x H1 ∧ rm x [] H1 Q) : tBM0 K T rm te σ H Q := h
theorem rd_dput (h : te σ H fun v H1 => td σ H1 fun x H2 => ty σ H2 fun y H3 => ∃ a H4, x = .ref a ∧ DPut H3 a y v H4 ∧ D.nx σ H4) : sDPut td ty te D σ H := h
theorem rd_par {t : TA} (h : t σ H fun vs H1 => ∃ v w, vs = [v, w] ∧ D.nx ((σ.set i (some v)).set j (some w)) H1) : tPar i j t D σ H := h
theorem rd_par2 {N : L2.St → Hp → Prop} (hs : (σ.set i (some v)).set j (some w) = σ') (h : N σ' H) :
    ∃ v' w', ([v, w] : List V) = [v', w'] ∧ N ((σ.set i (some v')).set j (some w')) H := by
  subst hs
  exact ⟨v, w, rfl, h⟩
/-- while, by a word that falls -/
theorem rd_while (W : Nat → L2.St → Hp → Prop) (m : Nat) (h0 : W m σ H)
    (hs : ∀ m σ1 H1, W m σ1 H1 → tt σ1 H1 fun b H2 => if b = true then
      ts { D with nx := fun σ' H' => ∃ m', m' < m ∧ W m' σ' H', ct := fun σ' H' => ∃ m', m' < m ∧ W m' σ' H', bk := D.nx } σ1 H2 else D.nx σ1 H2)
    (mono : ∀ σ H Q Q', (∀ b H1, Q b H1 → Q' b H1) → tt σ H Q → tt σ H Q') : tWhile tt ts D σ H :=
  ⟨W, ⟨m, h0⟩, fun m σ1 H1 w => mono _ _ _ _ (fun b H2 h => by
    cases b with
    | true => exact ⟨_, fun _ _ z => z, h⟩
    | false => exact h) (hs m σ1 H1 w)⟩
theorem rd_whileE (h : ∃ W : Nat → L2.St → Hp → Prop, (∃ m, W m σ H) ∧ ∀ m σ H, W m σ H → tt σ H fun b H1 => if b = true then ∃ N : L2.St → Hp → Prop,
    (∀ σ' H', N σ' H' → ∃ m', m' < m ∧ W m' σ' H') ∧ ts { D with nx := N, ct := N, bk := D.nx } σ H1 else D.nx σ H1) : tWhile tt ts D σ H := h
theorem rd_tru (h : ta σ H fun x H' => ∃ k, TruV K x H' k ∧ QB k H') : tTruK K ta σ H QB := h
theorem rd_truI {P : Bool → Prop} (h : P (a != 0)) : ∃ k, TruV K (.int a) H k ∧ P k := ⟨_, rfl, h⟩
theorem rd_int1 (h : Q (.int a) H) : (∃ i, ([.int a] : List V) = [.int i] ∧ Q (.int i) H) ∨ ∃ k, ([.int a] : List V) = [.bl k] ∧ Q (.int (if k then 1 else 0)) H := .inl ⟨a, rfl, h⟩
end

section
variable {K : PySem.W.Frag} {H : Hp} {Q : VK} {a b : Int} {k : Bool} {p : Addr} {ys : List V} {z : Str}
theorem rd_int (h : Q (.int a) H) : rInt [.int a] H Q := .inl ⟨a, rfl, h⟩
theorem rd_intb (h : Q (.int (if k then 1 else 0)) H) : rInt [.bl k] H Q := .inr ⟨k, rfl, h⟩
theorem rd_abs (h : Q (.int (a.natAbs : Int)) H) : rAbs [.int a] H Q := ⟨a, rfl, by
  rw [show (if a < 0 then -a else a) = (a.natAbs : Int) by split <;> omega]
  exact h⟩
theorem rd_min2 (h : Q (.int (if b < a then b else a)) H) : rMin2 [.int a, .int b] H Q := ⟨a, b, rfl, h⟩
theorem rd_max2 (h : Q (.int (if b > a then b else a)) H) : rMax2 [.int a, .int b] H Q := ⟨a, b, rfl, h⟩
theorem rd_lenL (s : SqL K H p ys) (h : Q (.int ys.length) H) : rLenQ K [.ref p] H Q := ⟨p, ys, rfl, .inl s, h⟩
theorem rd_lenT (s : SqT K H p ys) (h : Q (.int ys.length) H) : rLenQ K [.ref p] H Q := ⟨p, ys, rfl, .inr s, h⟩
theorem rd_lenS (s : z.length ≤ sizeLine) (h : Q (.int z.length) H) : rLenS [.str z] H Q := ⟨z, rfl, s, h⟩
theorem rd_tupL (s : SqL K H p ys) (h : ∀ l, H l = none → Q (.ref l) (upd H l (.tup ys))) : rTupOf K [.ref p] H Q := ⟨p, ys, rfl, .inl ⟨s, h⟩⟩
theorem rd_tupT (s : SqT K H p ys) (h : Q (.ref p) H) : rTupOf K [.ref p] H Q := ⟨p, ys, rfl, .inr ⟨s, h⟩⟩
theorem rd_listL (s : SqL K H p ys) (h : ∀ l, H l = none → Q (.ref l) (upd H l (.lst ys))) : rListOf K [.ref p] H Q := ⟨p, ys, rfl, .inl s, h⟩
theorem rd_listT (s : SqT K H p ys) (h : ∀ l, H l = none → Q (.ref l) (upd H l (.lst ys))) : rListOf K [.ref p] H Q := ⟨p, ys, rfl, .inr s, h⟩
theorem rd_ixL {x : V} {i : Int} (s : SqL K H p ys) (e : atI ys i = some x) (h : Q x H) : rIxL K (.ref p) (.int i) H Q := ⟨p, ys, i, x, rfl, rfl, s, e, h⟩
theorem rd_ixT {x : V} {i : Int} (s : SqT K H p ys) (e : atI ys i = some x) (h : Q x H) : rIxT K (.ref p) (.int i) H Q := ⟨p, ys, i, x, rfl, rfl, s, e, h⟩
theorem rd_ixS {c : Nat} {i : Int} (s : z.length ≤ sizeLine) (e : atI z.cps.toList i = some c) (h : Q (.str ⟨#[c]⟩) H) : rIxS (.str z) (.int i) H Q := ⟨z, i, c, rfl, rfl, s, e, h⟩
end

/-! ### a deck of draws, a dict -/
def DeckB (d l : Addr) (H : Hp) : Prop := ∃ (ns : List Int) (s : Int),
  H d = some (.dK [(.inr "deep", .ref l), (.inr "state", .int s)]) ∧ H l = some (.lst (ns.map V.int)) ∧ ns.length ≤ 63 ∧ (∀ n ∈ ns, 0 ≤ n) ∧ 0 ≤ s ∧ s < 2305843009213693951
/-- what is left as it was by draws: all but the deck -/
structure Go (d l : Addr) (H H' : Hp) : Prop where
  dk : DeckB d l H'
  kp : ∀ a o, a ≠ d → a ≠ l → H a = some o → H' a = some o
section
variable {d l : Addr} {H H1 H2 : Hp}
theorem DeckB.ne (h : DeckB d l H) : d ≠ l := by
  obtain ⟨ns, s, e1, e2, _⟩ := h
  exact ne_of e1 e2 nofun
theorem Go.refl (h : DeckB d l H) : Go d l H H := ⟨h, fun _ _ _ _ e => e⟩
theorem Go.trans (a : Go d l H H1) (b : Go d l H1 H2) : Go d l H H2 := ⟨b.dk, fun p o n1 n2 e => b.kp p o n1 n2 (a.kp p o n1 n2 e)⟩
theorem DeckB.off (h : DeckB d l H) {p : Addr} (e : H p = none) : p ≠ d ∧ p ≠ l := by
  obtain ⟨ns, s, e1, e2, _⟩ := h
  exact ⟨fun z => (by rw [z, e1] at e; cases e), fun z => (by rw [z, e2] at e; cases e)⟩
theorem DeckB.upd (h : DeckB d l H) {p : Addr} {o : HO} (n1 : p ≠ d) (n2 : p ≠ l) : DeckB d l (upd H p o) := by
  obtain ⟨ns, s, e1, e2, r⟩ := h
  exact ⟨ns, s, by rw [upd_ne n1.symm]; exact e1, by rw [upd_ne n2.symm]; exact e2, r⟩
theorem Go.new (h : DeckB d l H) {p : Addr} {o : HO} (e : H p = none) : Go d l H (upd H p o) := by
  obtain ⟨n1, n2⟩ := h.off e
  exact ⟨h.upd n1 n2, fun q u _ _ eq => by rw [upd_ne (ne_of_none eq e)]; exact eq⟩
/-- an object that H does not know may change -/
theorem Go.mut (g : Go d l H H1) (h : DeckB d l H) {p : Addr} {o : HO} (e : H p = none) : Go d l H (upd H1 p o) := by
  obtain ⟨n1, n2⟩ := h.off e
  exact ⟨g.dk.upd n1 n2, fun q u m1 m2 eq => by rw [upd_ne (ne_of_none eq e)]; exact g.kp q u m1 m2 eq⟩
theorem Go.back (g : Go d l H H1) (h : DeckB d l H) {p : Addr} (e : H1 p = none) : H p = none := by
  obtain ⟨n1, n2⟩ := g.dk.off e
  cases q : H p with
  | none => rfl
  | some o =>
    rw [g.kp p o n1 n2 q] at e
    cases e
/-- a tuple stays -/
theorem Go.tup {K : PySem.W.Frag} (g : Go d l H H1) (h : DeckB d l H) {a : Addr} {xs : List V} (t : SqT K H a xs) : SqT K H1 a xs := by
  obtain ⟨ns, s, e1, e2, _⟩ := h
  have hn : ∀ {o : HO}, H a = some o → (∀ kv, o ≠ .dK kv) → (∀ ys, o ≠ .lst ys) → H1 a = some o := fun e c1 c2 =>
    g.kp a _ (fun z => (by rw [z, e1] at e; cases e; exact c1 _ rfl)) (fun z => (by rw [z, e2] at e; cases e; exact c2 _ rfl)) e
  rcases t with (t | ⟨o, t⟩) | t
  · exact .inl (.inl (hn t nofun nofun))
  · exact .inl (.inr ⟨o, hn t nofun nofun⟩)
  · exact .inr t
end
end Ea
set_option Elab.async false
set_option linter.all false
set_option maxRecDepth 100000
set_option maxHeartbeats 4000000
/-! Data that can be shown, compared: how great they are. -/
namespace Ea
open PySem PySem.Spec PyProof.Rows L2

structure Nice (n k : Nat) (d : PyData) : Prop where
  bulk : d.bulk ≤ n
  depth : d.depth ≤ k
  lay : d.canLay0 = true
  show_ : d.showable = true
  short : d.leavesShort 13 = true
  dict : d.hasDict = false
structure NiceAll (n k : Nat) (ds : List PyData) : Prop where
  bulk : PyData.bulkAll ds ≤ n
  depth : PyData.depthAll ds ≤ k
  lay : PyData.canLayAll0 ds = true
  show_ : PyData.showableAll ds = true
  short : PyData.leavesShortAll 13 ds = true
  dict : PyData.hasDictAll ds = false
theorem Nice.mono {n k m j : Nat} {d : PyData} (h : Nice n k d) (a : n ≤ m) (b : k ≤ j) : Nice m j d := ⟨Nat.le_trans h.bulk a, Nat.le_trans h.depth b, h.lay, h.show_, h.short, h.dict⟩
theorem NiceAll.mono {n k m j : Nat} {d : List PyData} (h : NiceAll n k d) (a : n ≤ m) (b : k ≤ j) : NiceAll m j d := ⟨Nat.le_trans h.bulk a, Nat.le_trans h.depth b, h.lay, h.show_, h.short, h.dict⟩
theorem Nice.non : Nice 0 0 .none := ⟨Nat.le_refl _, Nat.le_refl _, rfl, rfl, rfl, rfl⟩
theorem Nice.bool (b : Bool) : Nice 0 0 (.bool b) := ⟨Nat.le_refl _, Nat.le_refl _, rfl, rfl, rfl, rfl⟩
theorem log2_small {n : Nat} (h : n < 10 ^ 12) : n.log2 < 1920 := by
  by_cases h0 : n = 0
  · subst h0
    decide
  · rw [Nat.log2_lt h0]
    exact Nat.lt_trans h (by decide +kernel)
theorem Nice.int {i : Int} (h : i.natAbs < 10 ^ 12) : Nice 0 0 (.int i) :=
  ⟨Nat.le_refl _, Nat.le_refl _, rfl, decide_eq_true (log2_small h), decide_eq_true (PyData.shown_int_le h), rfl⟩
theorem Nice.str {x : Str} {n : Nat} (h : x.cps.size ≤ n) (hs : ∀ c ∈ x.cps.toList, c < 1114112) (ho : PyData.canLay0 (.str x) = true) : Nice n 0 (.str x) :=
  ⟨h, Nat.le_refl _, ho, rfl, by
    show (x.cps.toList.all fun c => decide (c < 16 ^ 8)) = true
    rw [List.all_eq_true]
    exact fun c hc => decide_eq_true (Nat.lt_of_lt_of_le (hs c hc) (by decide)), rfl⟩
theorem NiceAll.nil {k : Nat} : NiceAll 0 k [] := ⟨Nat.le_refl _, Nat.zero_le _, rfl, rfl, rfl, rfl⟩
theorem NiceAll.cons {n m k : Nat} {d : PyData} {ds : List PyData} (h : Nice n k d) (hs : NiceAll m k ds) : NiceAll (n + 1 + m) k (d :: ds) := by
  refine ⟨?_, ?_, ?_, ?_, ?_, ?_⟩
  · show d.bulk + 1 + PyData.bulkAll ds ≤ _
    have := h.bulk
    have := hs.bulk
    omega
  · show max d.depth (PyData.depthAll ds) ≤ _
    have := h.depth
    have := hs.depth
    omega
  · show (d.canLay0 && PyData.canLayAll0 ds) = true
    rw [h.lay, hs.lay] <;> rfl
  · show (d.showable && PyData.showableAll ds) = true
    rw [h.show_, hs.show_] <;> rfl
  · show (d.leavesShort 13 && PyData.leavesShortAll 13 ds) = true
    rw [h.short, hs.short] <;> rfl
  · show (d.hasDict || PyData.hasDictAll ds) = false
    rw [h.dict, hs.dict] <;> rfl
theorem Nice.cons2 {n m k : Nat} {d e : PyData} (h : Nice n k d) (h2 : Nice m k e) : NiceAll (n + 1 + (m + 1 + 0)) k [d, e] := NiceAll.cons h (NiceAll.cons h2 NiceAll.nil)
theorem Nice.cons3 {n m o k : Nat} {d e f : PyData} (h : Nice n k d) (h2 : Nice m k e) (h3 : Nice o k f) : NiceAll (n + 1 + (m + 1 + (o + 1 + 0))) k [d, e, f] := NiceAll.cons h (NiceAll.cons h2 (NiceAll.cons h3 NiceAll.nil))
theorem Nice.cons1 {n k : Nat} {d : PyData} (h : Nice n k d) : NiceAll (n + 1 + 0) k [d] := NiceAll.cons h NiceAll.nil
theorem Nice.tup {n k : Nat} {ds : List PyData} (h : NiceAll n k ds) : Nice n (k + 1) (.tuple ds) := ⟨h.bulk, Nat.succ_le_succ h.depth, h.lay, h.show_, h.short, h.dict⟩
theorem Nice.lst {n k : Nat} {ds : List PyData} (h : NiceAll n k ds) : Nice n (k + 1) (.list ds) := ⟨h.bulk, Nat.succ_le_succ h.depth, h.lay, h.show_, h.short, h.dict⟩
def dI (ns : List Int) : List PyData := ns.map PyData.int
theorem NiceAll.ints : ∀ {ns : List Int}, (∀ n ∈ ns, n.natAbs < 10 ^ 12) → NiceAll ns.length 0 (dI ns)
  | [], _ => NiceAll.nil
  | n :: r, h => by
    have z := NiceAll.cons (Nice.int (h n List.mem_cons_self)) (NiceAll.ints (ns := r) fun m hm => h m (List.mem_cons_of_mem _ hm))
    exact z.mono (by rw [List.length_cons]; omega) (Nat.le_refl _)
theorem dp_ints {K : PySem.W.Frag} {H : Hp} : ∀ (ns : List Int), DpAll K H (ns.map V.int) (dI ns)
  | [] => .nil
  | n :: r => .cons (.int n) (dp_ints r)
theorem dp_T {K : PySem.W.Frag} {H : Hp} {a : Addr} {ns : List Int} (h : SqT K H a (ns.map V.int)) : Dp K H (.ref a) (.tuple (dI ns)) := .tup h (dp_ints ns)
theorem dp_L {K : PySem.W.Frag} {H : Hp} {a : Addr} {ns : List Int} (h : SqL K H a (ns.map V.int)) : Dp K H (.ref a) (.list (dI ns)) := .lst h (dp_ints ns)
theorem Nice.shaped {n k : Nat} {d : PyData} (h : Nice n k d) (hk : k ≤ 64) : SeqAt.shaped d = true := by
  show (d.canLay0 && decide (d.depth ≤ 64)) = true
  rw [h.lay, decide_eq_true (Nat.le_trans h.depth hk)] <;> rfl

theorem lay_ints : ∀ ns : List Int, PyData.canLayAll0 (dI ns) = true ∧ PyData.depthAll (dI ns) = 0
  | [] => ⟨rfl, rfl⟩
  | n :: r => by
    obtain ⟨h1, h2⟩ := lay_ints r
    refine ⟨?_, ?_⟩
    · show (true && PyData.canLayAll0 (dI r)) = true
      rw [h1] <;> rfl
    · show max 0 (PyData.depthAll (dI r)) = 0
      rw [h2] <;> rfl
theorem shaped_ints (ns : List Int) : SeqAt.shaped (.list (dI ns)) = true := by
  obtain ⟨h1, h2⟩ := lay_ints ns
  show (PyData.canLayAll0 (dI ns) && decide (PyData.depthAll (dI ns) + 1 ≤ 64)) = true
  rw [h1, h2] <;> rfl
section
variable {K : PySem.W.Frag} {H : Hp} {Q : VK} {x y : V} {d e : PyData} {n k m j : Nat}
theorem rd_repr (hx : Dp K H x d) (h : Nice n k d) (hn : n ≤ 2 ^ 20) (hk : k ≤ 40) (hd : isDisplay d = true) (q : Q (.str d.shown) H) : rRepr K [x] H Q :=
  ⟨x, d, rfl, hx, h.show_, hd, h.dict, Nat.le_trans h.depth hk, PyData.shown_fits_bulk (by decide) (by decide) h.short (Nat.le_trans h.bulk hn), q⟩
theorem rd_eqD (hx : Dp K H x d) (hy : Dp K H y e) (h1 : Nice n k d) (h2 : Nice m j e) (hk : k ≤ 64) (hj : j ≤ 64) (q : Q (.bl (PyData.eqv d e)) H) : rEqD K x y H Q :=
  ⟨d, e, hx, hy, h1.shaped hk, h2.shaped hj, q⟩
theorem rd_neD (hx : Dp K H x d) (hy : Dp K H y e) (h1 : Nice n k d) (h2 : Nice m j e) (hk : k ≤ 64) (hj : j ≤ 64) (q : Q (.bl (!PyData.eqv d e)) H) : rNeD K x y H Q :=
  ⟨d, e, hx, hy, h1.shaped hk, h2.shaped hj, q⟩
/-- xs != [] -/
theorem rd_full {p : Addr} {a : Addr} {vs : List V} {ds : List PyData} (hx : SqL K H a vs) (hv : DpAll K H vs ds) (h : SeqAt.shaped (.list ds) = true) (hp : SqL K H p [])
    (q : Q (.bl (!vs.isEmpty)) H) : rNeD K (.ref a) (.ref p) H Q := by
  refine ⟨.list ds, .list [], .lst hx hv, .lst hp .nil, h, rfl, ?_⟩
  cases hv with
  | nil => exact q
  | cons a b => exact q
end
section
variable {K : PySem.W.Frag} {H : Hp} {Q : VK} {l : Addr} {xs : List V} {y : V} {A : Prop}
theorem rd_tyL (h : H l = some (.lst xs)) (q : A) : tyV K "list" (.ref l) H ∧ A := ⟨.inl ⟨rfl, _, SqL.of h⟩, q⟩
theorem rd_append (h : H l = some (.lst xs)) (hz : xs.length < 100000) (q : Q .non (upd H l (.lst (xs ++ [y])))) : rAppend (.ref l) [y] H Q :=
  ⟨l, xs, y, rfl, rfl, h, Evl.sz_lt hz, q⟩
theorem rd_pop (h : H l = some (.lst (xs ++ [y]))) (q : Q y (upd H l (.lst xs))) : rPop (.ref l) [] H Q :=
  ⟨l, xs ++ [y], y, rfl, rfl, h, by rw [List.length_append, List.length_singleton, Nat.add_sub_cancel, List.getElem?_append_right (Nat.le_refl _), Nat.sub_self] <;> rfl, by
    rw [List.dropLast_concat]
    exact q⟩
theorem rd_popAt {k : Nat} {i : Int} (h : H l = some (.lst xs)) (e : i = (k : Int)) (hk : xs[k]? = some y) (hz : xs.length ≤ 100000) (q : Q y (upd H l (.lst (xs.eraseIdx k)))) : rPopAt (.ref l) [.int i] H Q := by
  have hk' : k < xs.length := (List.getElem?_eq_some_iff.mp hk).1
  refine ⟨l, xs, i, k, y, rfl, rfl, h, by omega, by omega, ?_, hk, q⟩
  subst e
  have z := seqIndex_of (k := (k : Int)) (n := xs.length) (Int.natCast_nonneg k) (by exact_mod_cast hk')
  simpa using z
theorem at_nat {ys : List V} {i : Int} {k : Nat} (e : i = (k : Int)) (h : ys[k]? = some y) : atI ys i = some y := by
  rw [e]
  exact atI_nat h
end
/-! ### the draws' deck read -/
theorem kv_text {x : Str} : kV (Sum.inr x) = V.str x := rfl
theorem deck_deep {d l : Addr} {s : Int} {H : Hp} (h : H d = some (.dK [(.inr "deep", .ref l), (.inr "state", .int s)])) : DGet H d (.str "deep") (some (.ref l)) :=
  DGet.k (k := Sum.inr "deep") h
theorem deck_state {d l : Addr} {s : Int} {H : Hp} (h : H d = some (.dK [(.inr "deep", .ref l), (.inr "state", .int s)])) : DGet H d (.str "state") (some (.int s)) :=
  DGet.k (k := Sum.inr "state") h
theorem deck_put {d l : Addr} {s t : Int} {H : Hp} (h : H d = some (.dK [(.inr "deep", .ref l), (.inr "state", .int s)])) :
    DPut H d (.str "state") (.int t) (upd H d (.dK [(.inr "deep", .ref l), (.inr "state", .int t)])) :=
  DPut.k (k := Sum.inr "state") (v := .int t) h (by show 2 < sizeLine; rw [sizeLine_eq]; omega)
end Ea
set_option Elab.async false
set_option linter.all false
set_option maxRecDepth 100000
set_option maxHeartbeats 4000000
/-! Comprehensions and loops among draws; texts of owners. -/
namespace Ea
open PySem PySem.Spec PyProof.Rows L2

/-- what a comprehension's walk asks, by its iterator -/
def LcR (g : TG) (tt : TT) (te : TE) (vs : List Nat) (σ : L2.St) (Q : VK) (J : It) (H1 : Hp) : Prop :=
  ∀ D, H1 D = none → ∃ W : Nat → Nat → Hp → Prop, (∃ m, W 0 m (upd H1 D (.lst []))) ∧ ∀ i m H, W i m H →
    (J.stop i H ∧ Q (.ref D) H) ∨
    (J.go i H ∧ ∃ Nx : Hp → Prop, (∀ H', Nx H' → ∃ m', m' < m ∧ W (i + 1) m' H') ∧
      ∀ x H', J.yld i H x H' → g x (wipe σ vs) H' fun σ2 H2 => wipe σ2 vs = wipe σ vs ∧ tt σ2 H2 fun b H3 =>
        if b = true then te σ2 H3 fun y H4 => ∃ acc, H4 D = some (.lst acc) ∧ acc.length < sizeLine ∧ Nx (upd H4 D (.lst (acc ++ [y]))) else Nx H3)
section
variable {K : PySem.W.Frag} {σ : L2.St} {H : Hp} {Q : VK} {QB : Bool → Hp → Prop} {g : TG} {tt : TT} {te tl : TE} {ta : TA} {vs : List Nat} {wi : TI} {R : It → Hp → Prop} {a b : Int}
theorem rd_lc (h : wi σ H (LcR g tt te vs σ Q)) : tLc wi g tt te vs σ H Q := h
theorem rd_iTup (h : tl σ H fun x H1 => ∃ a, x = .ref a ∧ (∃ xs, SqT K H1 a xs) ∧ R (Itt K a) H1) : iTup K tl σ H R := h
theorem rd_iList (h : tl σ H fun x H1 => ∃ a, x = .ref a ∧ (∃ xs, SqL K H1 a xs) ∧ R (Itl K a) H1) : iList K tl σ H R := h
theorem rd_iRng1 (h : ta σ H fun vs H1 => ∃ j : Int, vs = [.int j] ∧ -(2 ^ 62) ≤ j ∧ j < 2 ^ 62 ∧ R (Itr 0 j.toNat) H1) : iRng1 ta σ H R := h
theorem rd_rng1 (h1 : -(2 ^ 62) ≤ a) (h2 : a < 2 ^ 62) (h : R (Itr 0 a.toNat) H) : ∃ j : Int, ([.int a] : List V) = [.int j] ∧ -(2 ^ 62) ≤ j ∧ j < 2 ^ 62 ∧ R (Itr 0 j.toNat) H := ⟨a, rfl, h1, h2, h⟩
theorem rd_ref {p : Addr} {xs : List V} {P : Addr → Prop} (s : SqT K H p xs) (h : P p) : ∃ a, V.ref p = .ref a ∧ (∃ xs, SqT K H a xs) ∧ P a := ⟨p, rfl, ⟨xs, s⟩, h⟩
theorem rd_refL {p : Addr} {xs : List V} {P : Addr → Prop} (s : SqL K H p xs) (h : P p) : ∃ a, V.ref p = .ref a ∧ (∃ xs, SqL K H a xs) ∧ P a := ⟨p, rfl, ⟨xs, s⟩, h⟩
theorem rd_yes (h : QB true H) : tYes σ H QB := h
theorem rd_true {A B : Prop} (h : A) : if true = true then A else B := by
  rw [if_pos rfl]
  exact h
theorem rd_false {A B : Prop} (h : B) : if false = true then A else B := h
end

section
variable {d l : Addr} {K : PySem.W.Frag} {σ : L2.St} {H : Hp} {Q : VK} {tt : TT} {te : TE} {vs : List Nat} {j : Nat} {σx : V → L2.St} {a : Addr} {xs : List V}
/-- a turn of a comprehension among draws -/
abbrev Turn (d l : Addr) (H : Hp) (tt : TT) (te : TE) (σx : V → L2.St) (Pv : Nat → List V → Prop) (i : Nat) (x : V) : Prop :=
  ∀ (acc : List V) (H' : Hp) (N : VK) (S : Hp → Prop), Go d l H H' → Pv i acc →
    (∀ y H3, Go d l H' H3 → Pv (i + 1) (acc ++ [y]) → N y H3) → (∀ H3, Go d l H' H3 → Pv (i + 1) acc → S H3) →
    tt (σx x) H' fun b H2 => if b = true then te (σx x) H2 N else S H2
def Cg (d l : Addr) (H : Hp) (Pv : Nat → List V → Prop) (D : Addr) (i : Nat) (H' : Hp) : Prop :=
  ∃ acc, H D = none ∧ Go d l H H' ∧ H' D = some (.lst acc) ∧ acc.length ≤ i ∧ Pv i acc
theorem cg_start {Pv : Nat → List V → Prop} (hD : DeckB d l H) (h0 : Pv 0 []) {D : Addr} (e : H D = none) : Cg d l H Pv D 0 (upd H D (.lst [])) :=
  ⟨[], e, Go.new hD e, upd_same, Nat.le_refl _, h0⟩
theorem cg_turn {Pv : Nat → List V → Prop} {D : Addr} {i : Nat} {x : V} {H' : Hp} (hD : DeckB d l H) (hi : i < 100000) (ht : Turn d l H tt te σx Pv i x) (p : Cg d l H Pv D i H') :
    tt (σx x) H' fun b H3 => if b = true then te (σx x) H3 fun y H4 => ∃ acc, H4 D = some (.lst acc) ∧ acc.length < sizeLine ∧ Cg d l H Pv D (i + 1) (upd H4 D (.lst (acc ++ [y]))) else Cg d l H Pv D (i + 1) H3 := by
  obtain ⟨acc, e, g, ea, hl, hp⟩ := p
  obtain ⟨n1, n2⟩ := hD.off e
  refine ht acc H' _ _ g hp (fun y H3 g3 hp3 => ?_) fun H3 g3 hp3 => ?_
  · refine ⟨acc, g3.kp D _ n1 n2 ea, Evl.sz_lt (by omega), acc ++ [y], e, Go.mut (g.trans g3) hD e, upd_same, ?_, hp3⟩
    rw [List.length_append, List.length_singleton]
    omega
  · exact ⟨acc, e, g.trans g3, g3.kp D _ n1 n2 ea, by omega, hp3⟩
theorem lc_goT (Pv : Nat → List V → Prop) (hD : DeckB d l H) (hx : SqT K H a xs) (hz : xs.length ≤ 40000) (hσ : ∀ x, (wipe σ vs).set j (some x) = σx x) (hw : ∀ x, wipe (σx x) vs = wipe σ vs)
    (h0 : Pv 0 []) (hs : ∀ i x, xs[i]? = some x → Turn d l H tt te σx Pv i x)
    (hd : ∀ D acc H', Go d l H H' → H D = none → H' D = some (.lst acc) → Pv xs.length acc → Q (.ref D) H') : LcR (gName j) tt te vs σ Q (Itt K a) H := fun D hn =>
  lc_tup (xs := xs) (Cg d l H Pv D) (cg_start hD h0 hn) (fun i H' _ ⟨_, _, g, _⟩ => g.tup hD hx) (fun i x H' hi p => by
    rw [show gName j x (wipe σ vs) H' = fun N => N (σx x) H' from funext fun N => by rw [← hσ x] <;> rfl]
    refine ⟨hw x, ?_⟩
    have := (List.getElem?_eq_some_iff.mp hi).1
    exact cg_turn hD (by omega) (hs i x hi) p) fun H' p => by
    obtain ⟨acc, e, g, ea, _, hp⟩ := p
    exact hd D acc H' g e ea hp
theorem lc_goL (Pv : Nat → List V → Prop) (hD : DeckB d l H) (hx : ∀ H', Go d l H H' → SqL K H' a xs) (hz : xs.length ≤ 40000) (hσ : ∀ x, (wipe σ vs).set j (some x) = σx x) (hw : ∀ x, wipe (σx x) vs = wipe σ vs)
    (h0 : Pv 0 []) (hs : ∀ i x, xs[i]? = some x → Turn d l H tt te σx Pv i x)
    (hd : ∀ D acc H', Go d l H H' → H D = none → H' D = some (.lst acc) → Pv xs.length acc → Q (.ref D) H') : LcR (gName j) tt te vs σ Q (Itl K a) H := fun D hn =>
  lc_list (xs := xs) (Cg d l H Pv D) (cg_start hD h0 hn) (fun i H' _ ⟨_, _, g, _⟩ => hx H' g) (fun i x H' hi p => by
    rw [show gName j x (wipe σ vs) H' = fun N => N (σx x) H' from funext fun N => by rw [← hσ x] <;> rfl]
    refine ⟨hw x, ?_⟩
    have := (List.getElem?_eq_some_iff.mp hi).1
    exact cg_turn hD (by omega) (hs i x hi) p) fun H' p => by
    obtain ⟨acc, e, g, ea, _, hp⟩ := p
    exact hd D acc H' g e ea hp
theorem lc_goR {lo : Int} {n : Nat} (Pv : Nat → List V → Prop) (hD : DeckB d l H) (hz : n ≤ 40000) (hσ : ∀ x, (wipe σ vs).set j (some x) = σx x) (hw : ∀ x, wipe (σx x) vs = wipe σ vs)
    (h0 : Pv 0 []) (hs : ∀ i, i < n → Turn d l H tt te σx Pv i (.int (lo + i)))
    (hd : ∀ D acc H', Go d l H H' → H D = none → H' D = some (.lst acc) → Pv n acc → Q (.ref D) H') : LcR (gName j) tt te vs σ Q (Itr lo n) H := fun D hn =>
  lc_range (Cg d l H Pv D) (cg_start hD h0 hn) (fun i H' hi p => by
    rw [show gName j (.int (lo + i)) (wipe σ vs) H' = fun N => N (σx (.int (lo + i))) H' from funext fun N => by rw [← hσ (.int (lo + i))] <;> rfl]
    exact ⟨hw _, cg_turn hD (by omega) (hs i hi) p⟩) fun H' p => by
    obtain ⟨acc, e, g, ea, _, hp⟩ := p
    exact hd D acc H' g e ea hp
end

/-! ### texts of "e" and "s" -/
def OwnS (n : Nat) (z : Str) : Prop := z.length = n ∧ ∀ c ∈ z.cps.toList, c = 101 ∨ c = 115
theorem folded_mem (z : Array Nat) : ∀ (n : Nat) (acc : Array Nat) (c : Nat), c ∈ ((List.replicate n z).foldl (· ++ ·) acc).toList → c ∈ acc.toList ∨ c ∈ z.toList
  | 0, acc, c, h => .inl h
  | n + 1, acc, c, h => by
    rw [List.replicate_succ, List.foldl_cons] at h
    rcases folded_mem z n _ c h with h | h
    · rw [Array.toList_append] at h
      exact List.mem_append.mp h
    · exact .inr h
theorem own_rep {z : Str} {k : Nat} {n : Int} (h : OwnS k z) (h0 : 0 ≤ n) : OwnS (n.toNat * k) (repS z n) := by
  refine ⟨by rw [repS_length, h.1], fun c hc => ?_⟩
  rcases folded_mem z.cps n.toNat #[] c hc with q | q
  · simp at q
  · exact h.2 c q
theorem own_add {y z : Str} {k m : Nat} (h1 : OwnS k y) (h2 : OwnS m z) : OwnS (k + m) (y ++ z) := by
  refine ⟨by rw [Str.length_append, h1.1, h2.1], fun c hc => ?_⟩
  have e : (y ++ z).cps.toList = y.cps.toList ++ z.cps.toList := by
    rw [Str.cps_append, Array.toList_append]
  rw [e] at hc
  exact (List.mem_append.mp hc).elim (h1.2 c) (h2.2 c)
theorem own_cut {z : Str} {k n : Nat} (h : OwnS k z) (hn : n ≤ k) : OwnS n (cutS z none (some (n : Int))) := by
  have e1 : HT.sIx z.length 0 none = 0 := HT.sIx_none _ _
  have e2 : HT.sIx z.length z.length (some (n : Int)) = min n z.length := HT.sIx_nat _ _ _
  refine ⟨?_, fun c hc => h.2 c ?_⟩
  · show (cutS z none (some (n : Int))).cps.size = n
    unfold cutS
    rw [e1, e2, List.drop_zero, List.size_toArray, List.length_take, Nat.sub_zero]
    have e3 : z.cps.toList.length = k := h.1
    have e4 : z.length = k := h.1
    rw [e3, e4]
    omega
  · unfold cutS at hc
    rw [List.toList_toArray] at hc
    exact List.mem_of_mem_drop (List.mem_of_mem_take hc)
theorem own_e : OwnS 1 "e" := ⟨rfl, by decide⟩
theorem own_s : OwnS 1 "s" := ⟨rfl, by decide⟩
theorem own_fold : ∀ (ys : List Str) (acc : Array Nat) (m : Nat), (∀ y ∈ ys, OwnS 1 y) → OwnS m ⟨acc⟩ →
    OwnS (m + ys.length) ⟨ys.foldl (fun acc p => acc ++ (Str.ofString "").cps ++ p.cps) acc⟩
  | [], acc, m, _, h => h
  | y :: r, acc, m, hy, h => by
    rw [List.foldl_cons, List.length_cons, show m + (r.length + 1) = (m + 1) + r.length by omega]
    refine own_fold r _ (m + 1) (fun z hz => hy z (List.mem_cons_of_mem _ hz)) ?_
    have e : (⟨acc ++ (Str.ofString "").cps ++ y.cps⟩ : Str) = (⟨acc⟩ : Str) ++ y := by
      show (⟨acc ++ #[] ++ y.cps⟩ : Str) = _
      rw [Array.append_empty]
      rfl
    rw [e]
    exact own_add h (hy y List.mem_cons_self)
theorem own_join {ys : List Str} (h : ∀ y ∈ ys, OwnS 1 y) : OwnS ys.length (Txt.join "" ys) := by
  cases ys with
  | nil => exact ⟨rfl, by decide⟩
  | cons y r =>
    have z := own_fold r y.cps 1 (fun z hz => h z (List.mem_cons_of_mem _ hz)) (h y List.mem_cons_self)
    rw [List.length_cons, Nat.add_comm]
    exact z
theorem own_sum {ys : List Str} (h : ∀ y ∈ ys, OwnS 1 y) : (ys.map (·.length)).sum = ys.length := by
  induction ys with
  | nil => rfl
  | cons y r ih =>
    rw [List.map_cons, List.sum_cons, ih fun z hz => h z (List.mem_cons_of_mem _ hz), (h y List.mem_cons_self).1, List.length_cons]
    omega
/-! ### + of texts, in -/
def rAddSt : R2 := fun x y H Q => ∃ i j, x = .str i ∧ y = .str j ∧ i.length + j.length ≤ sizeLine ∧ Q (.str (i ++ j)) H
theorem op_addSt {X : Cx} : OpR X (binaryOp .Add) rAddSt := op_add_str
section
variable {K : PySem.W.Frag} {H : Hp} {Q : VK} {a : Int} {p : Addr} {ns : List Int} {y z : Str}
theorem rd_addSt (hz : y.length + z.length ≤ sizeLine) (h : Q (.str (y ++ z)) H) : rAddSt (.str y) (.str z) H Q := ⟨y, z, rfl, rfl, hz, h⟩
theorem flat_ints : ∀ ns : List Int, (ns.map V.int).all flatV = true
  | [] => rfl
  | _ :: r => flat_ints r
theorem inV_ints (a : Int) : ∀ ns : List Int, inV (.int a) (ns.map V.int) = decide (a ∈ ns)
  | [] => rfl
  | n :: r => by
    show ((n == a) || inV (.int a) (r.map V.int)) = _
    rw [inV_ints a r]
    by_cases h : n = a
    · subst h
      simp
    · have h' : ¬ a = n := fun e => h e.symm
      have e1 : (n == a) = false := beq_eq_false_iff_ne.mpr h
      rw [e1, Bool.false_or]
      simp [h']
theorem rd_inT (s : SqT K H p (ns.map V.int)) (h : Q (.bl (decide (a ∈ ns))) H) : rIn K false (.int a) (.ref p) H Q :=
  ⟨p, ns.map V.int, rfl, .inr s, rfl, flat_ints ns, by rw [inV_ints]; exact h⟩
theorem rd_inL (s : SqL K H p (ns.map V.int)) (h : Q (.bl (decide (a ∈ ns))) H) : rIn K false (.int a) (.ref p) H Q :=
  ⟨p, ns.map V.int, rfl, .inl s, rfl, flat_ints ns, by rw [inV_ints]; exact h⟩
theorem rd_notInT (s : SqT K H p (ns.map V.int)) (h : Q (.bl (!decide (a ∈ ns))) H) : rIn K true (.int a) (.ref p) H Q :=
  ⟨p, ns.map V.int, rfl, .inr s, rfl, flat_ints ns, by rw [inV_ints]; exact h⟩
theorem rd_notInL (s : SqL K H p (ns.map V.int)) (h : Q (.bl (!decide (a ∈ ns))) H) : rIn K true (.int a) (.ref p) H Q :=
  ⟨p, ns.map V.int, rfl, .inl s, rfl, flat_ints ns, by rw [inV_ints]; exact h⟩
end
/-! ### join -/
def rJoin (K : PySem.W.Frag) : V → List V → Hp → VK → Prop := fun x xs H Q =>
  ∃ (a : Str) (p : Addr) (ys : List Str), x = .str a ∧ xs = [.ref p] ∧ (SqL K H p (ys.map V.str) ∨ SqT K H p (ys.map V.str)) ∧
    (ys.map (·.length)).sum + ys.length * a.length ≤ 16777216 ∧ Q (.str (Txt.join a ys)) H
section
variable {X : Cx} {o e : Expr} {to te : TE} {apos pos : Pos}
theorem pe_joinN (ho : PE X o to) (he : PE X e te) (hs : starEach [e] X.env = [(false, eval e X.env)] := by rfl)
    (hbase : attributeBase o "join" X.env (eval o X.env) = eval o X.env := by rfl) (hline : (apos.endLine == pos.line) = true := by rfl) :
    PE X (.Call (.Attribute o "join" apos) [e] [] pos) (tM1 (rJoin X.K) to te) := pe_join ho he hs hbase hline
end
section
variable {K : PySem.W.Frag} {σ : L2.St} {H : Hp} {Q : VK} {to te : TE} {r : V → List V → Hp → VK → Prop} {z : Str} {P : Prop}
theorem rd_m1 (h : to σ H fun x H1 => (∃ a, x = .str a) ∧ te σ H1 fun y H2 => r x [y] H2 Q) : tM1 r to te σ H Q := h
theorem rd_isS (h : P) : (∃ a, V.str z = .str a) ∧ P := ⟨⟨z, rfl⟩, h⟩
theorem rd_join {p : Addr} {ys : List Str} (s : SqL K H p (ys.map V.str)) (hz : (ys.map (·.length)).sum + ys.length * z.length ≤ 16777216) (h : Q (.str (Txt.join z ys)) H) : rJoin K (.str z) [.ref p] H Q :=
  ⟨z, p, ys, rfl, rfl, .inl s, hz, h⟩
theorem rd_mulS {n : Int} (h0 : 0 ≤ n) (h1 : n ≤ 1000) (h2 : z.length ≤ 1000) (h3 : 1 ≤ z.length) (h : Q (.str (repS z n)) H) : rMulS (.str z) (.int n) H Q := ⟨z, n, rfl, rfl, h0, h1, h2, h3, h⟩
theorem rd_addS {y : Str} (hz : y.length + z.length ≤ sizeLine) (h : Q (.str (y ++ z)) H) : (∃ i j, V.str y = .str i ∧ V.str z = .str j ∧ i.length + j.length ≤ sizeLine ∧ Q (.str (i ++ j)) H) := ⟨y, z, rfl, rfl, hz, h⟩
theorem rd_slS {lo hi : Option Int} (hz : z.length ≤ sizeLine) (h : Q (.str (cutS z lo hi)) H) : rSlS (.str z) lo hi H Q := ⟨z, rfl, hz, h⟩
end
end Ea
set_option Elab.async false
set_option linter.all false
set_option maxRecDepth 100000
set_option maxHeartbeats 4000000
/-! Slices, sums of tuples, sorted lists of ints, ranges as lists; rows of literals. -/
namespace Ea
open PySem PySem.Spec PyProof.Rows L2

/-! ### slices -/
theorem take_min {α : Type} (xs : List α) (k : Nat) : xs.take (min k xs.length) = xs.take k := by
  by_cases h : k ≤ xs.length
  · rw [Nat.min_eq_left h]
  · rw [Nat.min_eq_right (by omega), List.take_of_length_le (Nat.le_refl _), List.take_of_length_le (by omega)]
theorem drop_min {α : Type} (xs : List α) (k : Nat) : xs.drop (min k xs.length) = xs.drop k := by
  by_cases h : k ≤ xs.length
  · rw [Nat.min_eq_left h]
  · rw [Nat.min_eq_right (by omega), List.drop_of_length_le (Nat.le_refl _), List.drop_of_length_le (by omega)]
section
variable {ns : List Int} {xs : List V} {a b : Int}
theorem sIx_int (n e : Nat) (h : 0 ≤ a) : HT.sIx n e (some a) = min a.toNat n := by
  have z := HT.sIx_nat n e a.toNat
  rw [Int.toNat_of_nonneg h] at z
  exact z
theorem cut_take (h : 0 ≤ b) : cutV xs none (some b) = xs.take b.toNat := by
  unfold cutV
  rw [HT.sIx_none, sIx_int _ _ h, List.drop_zero, Nat.sub_zero, take_min]
theorem cut_drop (h : 0 ≤ a) : cutV xs (some a) none = xs.drop a.toNat := by
  unfold cutV
  rw [HT.sIx_none, sIx_int _ _ h, drop_min]
  exact List.take_of_length_le (by rw [List.length_drop]; omega)
theorem cut_mid (h : 0 ≤ a) (h2 : 0 ≤ b) : cutV xs (some a) (some b) = (xs.drop a.toNat).take (b.toNat - a.toNat) := by
  unfold cutV
  rw [sIx_int _ _ h, sIx_int _ _ h2, drop_min]
  by_cases c : b.toNat ≤ xs.length
  · rw [Nat.min_eq_left c]
    by_cases c2 : a.toNat ≤ xs.length
    · rw [Nat.min_eq_left c2]
    · rw [List.drop_of_length_le (by omega), List.take_nil, List.take_nil]
  · rw [Nat.min_eq_right (by omega)]
    by_cases c2 : a.toNat ≤ xs.length
    · rw [Nat.min_eq_left c2, List.take_of_length_le (by rw [List.length_drop]; omega), List.take_of_length_le (by rw [List.length_drop]; omega)]
    · rw [List.drop_of_length_le (by omega), List.take_nil, List.take_nil]
theorem cut_whole {lo hi : Option Int} (h : HT.sIx xs.length 0 lo = 0 ∧ HT.sIx xs.length xs.length hi = xs.length) : cutV xs lo hi = xs := by
  unfold cutV
  rw [h.1, h.2, List.drop_zero, Nat.sub_zero]
  exact List.take_of_length_le (Nat.le_refl _)
end
section
variable {d l : Addr} {K : PySem.W.Frag} {σ : L2.St} {H H' : Hp} {Q : VK} {p p2 : Addr} {xs ys : List V} {lo hi : Option Int} {ns : List Int} {a b : Int}
theorem Go.ex (e : Evl.Ex H H') (h : DeckB d l H) : Go d l H H' := by
  obtain ⟨ns, s, e1, e2, r⟩ := h
  exact ⟨⟨ns, s, e _ _ e1, e _ _ e2, r⟩, fun a o _ _ q => e a o q⟩
theorem rd_slT (s : SqT K H p xs) (h : ∀ (q : Addr) (H' : Hp), Evl.Ex H H' → SqT K H' q (cutV xs lo hi) → Q (.ref q) H') : rSlA K (.ref p) lo hi H Q :=
  ⟨p, xs, rfl, s, fun e => h p H (Evl.Ex.refl H) (by rw [cut_whole e]; exact s), fun _ q hq => h q _ (Evl.Ex.new hq) (SqT.of upd_same)⟩
theorem rd_slL (s : SqL K H p xs) (h : ∀ q, H q = none → Q (.ref q) (upd H q (.lst (cutV xs lo hi)))) : rSlL K (.ref p) lo hi H Q := ⟨p, xs, rfl, s, h⟩
theorem rd_catT (s : SqT K H p xs) (s2 : SqT K H p2 ys) (hz : xs.length + ys.length ≤ sizeLine)
    (h : ∀ (q : Addr) (H' : Hp), Evl.Ex H H' → SqT K H' q (xs ++ ys) → Q (.ref q) H') : rCatA K (.ref p) (.ref p2) H Q := by
  refine ⟨p, p2, xs, ys, rfl, rfl, s, s2, hz, fun e => ?_, fun _ e => ?_, fun _ _ q hq => h q _ (Evl.Ex.new hq) (SqT.of upd_same)⟩
  · subst e
    exact h p2 H (Evl.Ex.refl H) s2
  · subst e
    exact h p H (Evl.Ex.refl H) (by rw [List.append_nil]; exact s)
theorem rd_catL (s : H p = some (.lst xs)) (s2 : H p2 = some (.lst ys)) (hz : xs.length + ys.length ≤ sizeLine) (h : ∀ q, H q = none → Q (.ref q) (upd H q (.lst (xs ++ ys)))) : rCat (.ref p) (.ref p2) H Q :=
  ⟨p, p2, xs, ys, rfl, rfl, s, s2, hz, h⟩
theorem rd_sorted (s : SqL K H p (ns.map V.int)) (h : ∀ (ms : List Int) (q : Addr), ms.Perm ns → ms.Pairwise (· ≤ ·) → H q = none → Q (.ref q) (upd H q (.lst (ms.map V.int)))) : rSortedI K [.ref p] H Q :=
  ⟨p, ns, rfl, s, h⟩
def rgI (a b : Int) : List Int := (List.range (b - a).toNat).map fun i => a + (i : Nat)
theorem rgV_ints (a b : Int) : rgV a b = (rgI a b).map V.int := by
  unfold rgV rgI
  rw [List.map_map]
  rfl
theorem rd_listRg {te : L2.St → Hp → (Int → Int → Hp → Prop) → Prop} (h : te σ H fun a b H1 => RgOk a b ∧ ∀ q, H1 q = none → Q (.ref q) (upd H1 q (.lst (rgV a b)))) : tLstRg te σ H Q := h
theorem rd_rg2 {ta tb : TE} {R : Int → Int → Hp → Prop} (h : ta σ H fun x H1 => tb σ H1 fun y H2 => ∃ i j, x = .int i ∧ y = .int j ∧ R i j H2) : tRg2 ta tb σ H R := h
theorem rd_rgk {R : Int → Int → Prop} (h : R a b) : ∃ i j, V.int a = .int i ∧ V.int b = .int j ∧ R i j := ⟨a, b, rfl, rfl, h⟩
theorem rgI_mem {a b x : Int} : x ∈ rgI a b ↔ a ≤ x ∧ x < b := by
  unfold rgI
  rw [List.mem_map]
  constructor
  · rintro ⟨i, hi, rfl⟩
    have := List.mem_range.mp hi
    omega
  · rintro ⟨h1, h2⟩
    exact ⟨(x - a).toNat, List.mem_range.mpr (by omega), by omega⟩
theorem rgI_lt (a b : Int) : (rgI a b).Pairwise (· < ·) := by
  unfold rgI
  rw [List.pairwise_map]
  exact List.pairwise_lt_range.imp fun {i j} h => by omega
theorem rgI_length (a b : Int) : (rgI a b).length = (b - a).toNat := by
  unfold rgI
  rw [List.length_map, List.length_range]
end
theorem nodup_of_lt {ns : List Int} (h : ns.Pairwise (· < ·)) : ns.Nodup := h.imp fun {a b} q => by omega
theorem lt_of_sorted {ns : List Int} (h : ns.Pairwise (· ≤ ·)) (hn : ns.Nodup) : ns.Pairwise (· < ·) := by
  refine (h.and hn).imp fun {a b} q => ?_
  obtain ⟨q1, q2⟩ := q
  have q2 : a ≠ b := q2
  omega

/-! ### rows -/
/-- a clause of n letters -/
def Row (n : Nat) (ns : List Int) : Prop := ns.Pairwise (fun x y => x.natAbs < y.natAbs) ∧ ∀ x ∈ ns, 1 ≤ x.natAbs ∧ x.natAbs ≤ n
theorem Row.nil {n : Nat} : Row n [] := ⟨List.Pairwise.nil, nofun⟩
theorem Row.sub {n : Nat} {xs ys : List Int} (h : Row n ys) (s : xs.Sublist ys) : Row n xs := ⟨h.1.sublist s, fun x hx => h.2 x (s.subset hx)⟩
theorem Row.abs {n : Nat} {xs ys : List Int} (h : Row n ys) (e : xs.map Int.natAbs = ys.map Int.natAbs) : Row n xs := by
  have h1 : (ys.map Int.natAbs).Pairwise (· < ·) := by
    rw [List.pairwise_map]
    exact h.1
  rw [← e, List.pairwise_map] at h1
  refine ⟨h1, fun x hx => ?_⟩
  have : x.natAbs ∈ ys.map Int.natAbs := by
    rw [← e]
    exact List.mem_map_of_mem hx
  obtain ⟨y, hy, e2⟩ := List.mem_map.mp this
  rw [← e2]
  exact h.2 y hy
theorem Row.of_letters {n : Nat} {ns : List Int} (h : ns.Pairwise (· < ·)) (hm : ∀ x ∈ ns, 1 ≤ x ∧ x ≤ (n : Int)) : Row n ns := by
  refine ⟨?_, fun x hx => ?_⟩
  · refine List.Pairwise.imp_of_mem (fun {a b} ha hb q => ?_) h
    have := hm a ha
    have := hm b hb
    omega
  · have := hm x hx
    omega
theorem Row.length {n : Nat} : ∀ {ns : List Int}, Row n ns → ns.length ≤ n := by
  have key : ∀ (ns : List Int) (k : Nat), ns.Pairwise (fun x y => x.natAbs < y.natAbs) → (∀ x ∈ ns, k < x.natAbs ∧ x.natAbs ≤ n) → k ≤ n → ns.length + k ≤ n := by
    intro ns
    induction ns with
    | nil => intro k _ _ h; simpa using h
    | cons x r ih =>
      intro k hp hm hk
      obtain ⟨h1, h2⟩ := List.pairwise_cons.mp hp
      have hx := hm x List.mem_cons_self
      have z := ih x.natAbs h2 (fun y hy => ⟨h1 y hy, (hm y (List.mem_cons_of_mem _ hy)).2⟩) hx.2
      rw [List.length_cons]
      omega
  intro ns h
  have z := key ns 0 h.1 (fun x hx => ⟨by have := (h.2 x hx).1; omega, (h.2 x hx).2⟩) (Nat.zero_le _)
  omega
end Ea
set_option Elab.async false
set_option linter.all false
set_option maxHeartbeats 4000000
/-! Rows dropped, clashing and met: plain lists. -/
namespace Ea
/-- without what holds at the end -/
def dropTail (f : Int → Bool) (ns : List Int) : List Int := (ns.reverse.dropWhile f).reverse
theorem dropTail_nil (f : Int → Bool) : dropTail f [] = [] := rfl
theorem dropTail_snoc_pos {f : Int → Bool} {ns : List Int} {x : Int} (h : f x = true) : dropTail f (ns ++ [x]) = dropTail f ns := by
  unfold dropTail
  rw [List.reverse_append, List.reverse_singleton, List.singleton_append, List.dropWhile_cons, if_pos h]
theorem dropTail_snoc_neg {f : Int → Bool} {ns : List Int} {x : Int} (h : f x = false) : dropTail f (ns ++ [x]) = ns ++ [x] := by
  unfold dropTail
  rw [List.reverse_append, List.reverse_singleton, List.singleton_append, List.dropWhile_cons, if_neg (by rw [h]; decide), List.reverse_cons, List.reverse_reverse]
theorem take_snoc {ns : List Int} {k : Nat} (h : k < ns.length) : ns.take (k + 1) = ns.take k ++ [ns[k]] := by
  rw [List.take_add_one, List.getElem?_eq_getElem h]
  rfl
theorem dropTail_idem (f : Int → Bool) (ns : List Int) : dropTail f (dropTail f ns) = dropTail f ns := by
  rcases List.eq_nil_or_concat (dropTail f ns) with e | ⟨m, z, e⟩
  · rw [e]
    rfl
  · have e : dropTail f ns = m ++ [z] := by simpa using e
    rw [e]
    refine dropTail_snoc_neg ?_
    have h : ns.reverse.dropWhile f = z :: m.reverse := by
      have h2 := congrArg List.reverse e
      unfold dropTail at h2
      rw [List.reverse_reverse, List.reverse_append] at h2
      simpa using h2
    have h3 := List.head?_dropWhile_not f ns.reverse
    rw [h] at h3
    simpa using h3
theorem dropTail_sub (f : Int → Bool) (ns : List Int) : (dropTail f ns).Sublist ns := by
  have h : (ns.reverse.dropWhile f).Sublist ns.reverse := List.dropWhile_sublist f
  have h2 := h.reverse
  rw [List.reverse_reverse] at h2
  exact h2
/-- the greatest letter of the other party's -/
def lastOf (f : Int → Bool) (ns : List Int) : List Int := (ns.filter fun x => !f x).map fun x => (x.natAbs : Int)
theorem short_eq {n : Nat} {f : Int → Bool} {m : Int} : ∀ {ns : List Int}, Row n ns → (m ∈ lastOf f ns ++ [0]) → (∀ y ∈ lastOf f ns ++ [0], y ≤ m) →
    (ns.filter fun x => !f x || decide ((x.natAbs : Int) < m)) = dropTail f ns := by
  intro ns
  generalize hk : ns.length = k
  induction k generalizing ns with
  | zero =>
    intro _ _ _
    rw [List.length_eq_zero_iff.mp hk]
    rfl
  | succ k ih =>
    intro hr hm hb
    obtain ⟨r, x, e⟩ : ∃ r x, ns = r ++ [x] := by
      rcases List.eq_nil_or_concat ns with e | ⟨r, x, e⟩
      · rw [e] at hk
        cases hk
      · exact ⟨r, x, by simpa using e⟩
    subst e
    have hlt : ∀ y ∈ r, y.natAbs < x.natAbs := fun y hy => (List.pairwise_append.mp hr.1).2.2 y hy x List.mem_cons_self
    have hx1 := (hr.2 x (List.mem_append_right _ List.mem_cons_self)).1
    have hr' : Row n r := hr.sub (List.sublist_append_left _ _)
    rw [List.filter_append]
    cases hf : f x with
    | false =>
      rw [dropTail_snoc_neg hf]
      have e2 : ([x].filter fun x => !f x || decide ((x.natAbs : Int) < m)) = [x] := by simp [hf]
      rw [e2]
      have hxm : (x.natAbs : Int) ≤ m := hb _ (List.mem_append_left _ (by
        unfold lastOf
        exact List.mem_map.mpr ⟨x, List.mem_filter.mpr ⟨List.mem_append_right _ List.mem_cons_self, by rw [hf]; rfl⟩, rfl⟩))
      congr 1
      refine List.filter_eq_self.mpr fun y hy => ?_
      have := hlt y hy
      rw [Bool.or_eq_true]
      exact .inr (decide_eq_true (by omega))
    | true =>
      rw [dropTail_snoc_pos hf]
      have el : lastOf f (r ++ [x]) = lastOf f r := by
        unfold lastOf
        rw [List.filter_append]
        have : ([x].filter fun x => !f x) = [] := by simp [hf]
        rw [this, List.append_nil]
      rw [el] at hm hb
      have hxm : ¬ (x.natAbs : Int) < m := by
        rcases List.mem_append.mp hm with h | h
        · obtain ⟨y, hy, e⟩ := List.mem_map.mp h
          have := hlt y (List.mem_filter.mp hy).1
          omega
        · rw [List.mem_singleton.mp h]
          omega
      have e2 : ([x].filter fun x => !f x || decide ((x.natAbs : Int) < m)) = [] := by simp [hf, hxm]
      rw [e2, List.append_nil]
      refine ih (ns := r) ?_ hr' hm hb
      rw [List.length_append, List.length_singleton] at hk
      omega

/-! ### letters in which rows clash -/
def against (one other : List Int) : List Int := (one.filter fun x => decide (-x ∈ other)).map fun x => (x.natAbs : Int)
theorem against_mem {one other : List Int} {k : Int} : k ∈ against one other ↔ ∃ x ∈ one, -x ∈ other ∧ (x.natAbs : Int) = k := by
  unfold against
  rw [List.mem_map]
  constructor
  · rintro ⟨x, hx, e⟩
    have h := List.mem_filter.mp hx
    exact ⟨x, h.1, of_decide_eq_true h.2, e⟩
  · rintro ⟨x, hx, h, e⟩
    exact ⟨x, List.mem_filter.mpr ⟨hx, decide_eq_true h⟩, e⟩
theorem against_lt {n : Nat} {one other : List Int} (h : Row n one) : (against one other).Pairwise (· < ·) := by
  unfold against
  rw [List.pairwise_map]
  exact (h.1.sublist List.filter_sublist).imp fun {a b} q => by omega
theorem eq_of_lt : ∀ {xs ys : List Int}, xs.Pairwise (· < ·) → ys.Pairwise (· < ·) → (∀ x, x ∈ xs ↔ x ∈ ys) → xs = ys
  | [], [], _, _, _ => rfl
  | [], y :: r, _, _, h => absurd ((h y).mpr List.mem_cons_self) nofun
  | x :: r, [], _, _, h => absurd ((h x).mp List.mem_cons_self) nofun
  | x :: r, y :: t, h1, h2, h => by
    obtain ⟨a1, a2⟩ := List.pairwise_cons.mp h1
    obtain ⟨b1, b2⟩ := List.pairwise_cons.mp h2
    have e : x = y := by
      rcases List.mem_cons.mp ((h x).mp List.mem_cons_self) with e | e
      · exact e
      · rcases List.mem_cons.mp ((h y).mpr List.mem_cons_self) with e2 | e2
        · exact e2.symm
        · have := a1 y e2
          have := b1 x e
          omega
    subst e
    congr 1
    refine eq_of_lt a2 b2 fun z => ⟨fun hz => ?_, fun hz => ?_⟩
    · rcases List.mem_cons.mp ((h z).mp (List.mem_cons_of_mem _ hz)) with e | e
      · have := a1 z hz
        omega
      · exact e
    · rcases List.mem_cons.mp ((h z).mpr (List.mem_cons_of_mem _ hz)) with e | e
      · have := b1 z hz
        omega
      · exact e
theorem against_comm {n m : Nat} {one other : List Int} (h1 : Row n one) (h2 : Row m other) : against other one = against one other := by
  refine eq_of_lt (against_lt h2) (against_lt h1) fun k => ?_
  rw [against_mem, against_mem]
  constructor
  · rintro ⟨x, hx, hn, e⟩
    exact ⟨-x, hn, by rw [Int.neg_neg]; exact hx, by omega⟩
  · rintro ⟨x, hx, hn, e⟩
    exact ⟨-x, hn, by rw [Int.neg_neg]; exact hx, by omega⟩
theorem against_pos {n : Nat} {one other : List Int} (h : Row n one) {k : Int} (hk : k ∈ against one other) : 1 ≤ k ∧ k ≤ n := by
  obtain ⟨x, hx, _, e⟩ := against_mem.mp hk
  have := h.2 x hx
  omega

/-! ### rows that meet -/
def IsJoin (one other r : List Int) : Prop := r.Pairwise (fun x y => x.natAbs < y.natAbs) ∧ ∀ x, x ∈ r ↔ (x ∈ one ∨ x ∈ other) ∧ (x.natAbs : Int) ∉ against one other
theorem eq_of_asc : ∀ {xs ys : List Int}, xs.Pairwise (fun x y => x.natAbs < y.natAbs) → ys.Pairwise (fun x y => x.natAbs < y.natAbs) → (∀ x, x ∈ xs ↔ x ∈ ys) → xs = ys
  | [], [], _, _, _ => rfl
  | [], y :: r, _, _, h => absurd ((h y).mpr List.mem_cons_self) nofun
  | x :: r, [], _, _, h => absurd ((h x).mp List.mem_cons_self) nofun
  | x :: r, y :: t, h1, h2, h => by
    obtain ⟨a1, a2⟩ := List.pairwise_cons.mp h1
    obtain ⟨b1, b2⟩ := List.pairwise_cons.mp h2
    have e : x = y := by
      rcases List.mem_cons.mp ((h x).mp List.mem_cons_self) with e | e
      · exact e
      · rcases List.mem_cons.mp ((h y).mpr List.mem_cons_self) with e2 | e2
        · exact e2.symm
        · have := a1 y e2
          have := b1 x e
          omega
    subst e
    congr 1
    refine eq_of_asc a2 b2 fun z => ⟨fun hz => ?_, fun hz => ?_⟩
    · rcases List.mem_cons.mp ((h z).mp (List.mem_cons_of_mem _ hz)) with e | e
      · have := a1 z hz
        rw [e] at this
        omega
      · exact e
    · rcases List.mem_cons.mp ((h z).mpr (List.mem_cons_of_mem _ hz)) with e | e
      · have := b1 z hz
        rw [e] at this
        omega
      · exact e
theorem IsJoin.eq {one other r t : List Int} (h1 : IsJoin one other r) (h2 : IsJoin one other t) : r = t :=
  eq_of_asc h1.1 h2.1 fun x => (h1.2 x).trans (h2.2 x).symm
theorem IsJoin.comm {n m : Nat} {one other r : List Int} (a : Row n one) (b : Row m other) (h : IsJoin other one r) : IsJoin one other r :=
  ⟨h.1, fun x => by rw [h.2 x, against_comm a b, or_comm]⟩
theorem IsJoin.row {n : Nat} {one other r : List Int} (a : Row n one) (b : Row n other) (h : IsJoin one other r) : Row n r :=
  ⟨h.1, fun x hx => ((h.2 x).mp hx).1.elim (a.2 x) (b.2 x)⟩
/-- literals of one letter in both are the same, where they do not clash in it -/
theorem same_of {n : Nat} {one other : List Int} (a : Row n one) (b : Row n other) {x y : Int} (hx : x ∈ one ∨ x ∈ other) (hy : y ∈ one ∨ y ∈ other) (e : x.natAbs = y.natAbs)
    (hn : (x.natAbs : Int) ∉ against one other) : x = y := by
  have key : ∀ {xs : List Int}, Row n xs → x ∈ xs → y ∈ xs → x = y := fun {xs} h h1 h2 => by
    obtain ⟨i, hi, e1⟩ := List.mem_iff_getElem.mp h1
    obtain ⟨j, hj, e2⟩ := List.mem_iff_getElem.mp h2
    have hp := List.pairwise_iff_getElem.mp h.1
    rcases Nat.lt_trichotomy i j with q | q | q
    · have := hp i j hi hj q
      rw [e1, e2] at this
      omega
    · subst q
      rw [← e1, ← e2]
    · have := hp j i hj hi q
      rw [e1, e2] at this
      omega
  have opp : x = y ∨ y = -x := by omega
  rcases opp with q | q
  · exact q
  · subst q
    rcases hx with hx | hx <;> rcases hy with hy | hy
    · exact key a hx hy
    · exact absurd (against_mem.mpr ⟨x, hx, hy, rfl⟩) hn
    · exact absurd (against_mem.mpr ⟨-x, hy, by rw [Int.neg_neg]; exact hx, by omega⟩) hn
    · exact key b hx hy
end Ea
set_option Elab.async false
set_option linter.all false
set_option maxRecDepth 100000
set_option maxHeartbeats 4000000
/-! Comprehensions over ints where nothing is changed; greatest, texts' places. -/
namespace Ea
open PySem PySem.Spec PyProof.Rows L2
section
variable {K : PySem.W.Frag} {σ : L2.St} {H : Hp} {Q : VK} {tt : TT} {te : TE} {vs : List Nat} {j : Nat} {σx : V → L2.St} {a : Addr} {ns : List Int} {f : Int → Bool} {g : Int → V}
/-- a turn: f tells whether x gives, g what -/
abbrev TurnF (H : Hp) (tt : TT) (te : TE) (σx : V → L2.St) (f : Int → Bool) (g : Int → V) (x : Int) : Prop :=
  ∀ (H' : Hp) (N : VK) (S : Hp → Prop), Evl.Ex H H' → (f x = true → ∀ H3, Evl.Ex H' H3 → N (g x) H3) → (f x = false → ∀ H3, Evl.Ex H' H3 → S H3) →
    tt (σx (.int x)) H' fun b H2 => if b = true then te (σx (.int x)) H2 N else S H2
def Cf (H : Hp) (ns : List Int) (f : Int → Bool) (g : Int → V) (D : Addr) (i : Nat) (H' : Hp) : Prop :=
  H D = none ∧ Evl.Ex H H' ∧ H' D = some (.lst (((ns.take i).filter f).map g))
theorem cf_turn {D : Addr} {i : Nat} {x : Int} {H' : Hp} (hi : ns[i]? = some x) (hz : ns.length ≤ 40000) (ht : TurnF H tt te σx f g x) (p : Cf H ns f g D i H') :
    tt (σx (.int x)) H' fun b H3 => if b = true then te (σx (.int x)) H3 fun y H4 => ∃ acc, H4 D = some (.lst acc) ∧ acc.length < sizeLine ∧ Cf H ns f g D (i + 1) (upd H4 D (.lst (acc ++ [y]))) else Cf H ns f g D (i + 1) H3 := by
  obtain ⟨e, ex, ea⟩ := p
  have hl : ((((ns.take i).filter f).map g)).length < 100000 := by
    rw [List.length_map]
    have h1 := List.length_filter_le f (ns.take i)
    have h2 := List.length_take_le i ns
    have h3 := List.length_take (i := i) (l := ns)
    omega
  refine ht H' _ _ ex (fun hf H3 e3 => ?_) fun hf H3 e3 => ?_
  · refine ⟨_, e3 D _ ea, Evl.sz_lt hl, e, Evl.Ex.mut (ex.trans e3) e, ?_⟩
    rw [upd_same, List.take_add_one, hi, List.filter_append, List.map_append]
    have : ((some x).toList.filter f) = [x] := by simp [hf]
    rw [this] <;> rfl
  · refine ⟨e, ex.trans e3, ?_⟩
    rw [List.take_add_one, hi, List.filter_append]
    have : ((some x).toList.filter f) = [] := by simp [hf]
    rw [this, List.append_nil]
    exact e3 D _ ea
theorem lc_fmT (f : Int → Bool) (g : Int → V) (hx : SqT K H a (ns.map V.int)) (hz : ns.length ≤ 40000) (hσ : ∀ x, (wipe σ vs).set j (some x) = σx x) (hw : ∀ x, wipe (σx x) vs = wipe σ vs)
    (hs : ∀ x ∈ ns, TurnF H tt te σx f g x)
    (hd : ∀ D H', Evl.Ex H H' → H D = none → H' D = some (.lst ((ns.filter f).map g)) → Q (.ref D) H') : LcR (gName j) tt te vs σ Q (Itt K a) H := fun D hn =>
  lc_tup (xs := ns.map V.int) (Cf H ns f g D) ⟨hn, Evl.Ex.new hn, upd_same⟩ (fun i H' _ ⟨_, ex, _⟩ => Evl.ex_t ex hx) (fun i x H' hi p => by
    rw [List.getElem?_map] at hi
    obtain ⟨y, hy, rfl⟩ := Option.map_eq_some_iff.mp hi
    rw [show gName j (.int y) (wipe σ vs) H' = fun N => N (σx (.int y)) H' from funext fun N => by rw [← hσ (.int y)] <;> rfl]
    exact ⟨hw _, cf_turn hy hz (hs y (List.mem_of_getElem? hy)) p⟩) fun H' p => by
    obtain ⟨e, ex, ea⟩ := p
    rw [List.length_map, List.take_of_length_le (Nat.le_refl _)] at ea
    exact hd D H' ex e ea
theorem lc_fmL (f : Int → Bool) (g : Int → V) (hx : SqL K H a (ns.map V.int)) (hz : ns.length ≤ 40000) (hσ : ∀ x, (wipe σ vs).set j (some x) = σx x) (hw : ∀ x, wipe (σx x) vs = wipe σ vs)
    (hs : ∀ x ∈ ns, TurnF H tt te σx f g x)
    (hd : ∀ D H', Evl.Ex H H' → H D = none → H' D = some (.lst ((ns.filter f).map g)) → Q (.ref D) H') : LcR (gName j) tt te vs σ Q (Itl K a) H := fun D hn =>
  lc_list (xs := ns.map V.int) (Cf H ns f g D) ⟨hn, Evl.Ex.new hn, upd_same⟩ (fun i H' _ ⟨_, ex, _⟩ => Evl.ex_l ex hx) (fun i x H' hi p => by
    rw [List.getElem?_map] at hi
    obtain ⟨y, hy, rfl⟩ := Option.map_eq_some_iff.mp hi
    rw [show gName j (.int y) (wipe σ vs) H' = fun N => N (σx (.int y)) H' from funext fun N => by rw [← hσ (.int y)] <;> rfl]
    exact ⟨hw _, cf_turn hy hz (hs y (List.mem_of_getElem? hy)) p⟩) fun H' p => by
    obtain ⟨e, ex, ea⟩ := p
    rw [List.length_map, List.take_of_length_le (Nat.le_refl _)] at ea
    exact hd D H' ex e ea
theorem rd_maxL {m : List Int} (s : SqL K H a (m.map V.int)) (h0 : 0 < m.length) (h : ∀ x, x ∈ m → (∀ y, y ∈ m → y ≤ x) → Q (.int x) H) : rMax K [.ref a] H Q := ⟨a, m, rfl, s, h0, h⟩
end
theorem rd_iteC {p : Prop} {_ : Decidable p} {σ : L2.St} {H : Hp} {Q : VK} {u v x : V} (e1 : p → u = x) (e2 : ¬ p → v = x) (h : Q x H) : if decide p = true then tC u σ H Q else tC v σ H Q := by
  by_cases c : p
  · rw [if_pos (decide_eq_true c), e1 c]
    exact h
  · rw [if_neg (by rw [decide_eq_true_eq]; exact c), e2 c]
    exact h
theorem bor_l {a b : Bool} (h : a = true) : (a || b) = true := by rw [h, Bool.true_or]
theorem bor_r {a b : Bool} (h : b = true) : (a || b) = true := by rw [h, Bool.or_true]
theorem bor_f {a b : Bool} (h : a = false) (h2 : b = false) : (a || b) = false := by rw [h, h2, Bool.or_false]
/-- the sign of a literal's letter -/
def sgn (z : Str) (x : Int) : Nat := z.cps.toList.getD (x.natAbs - 1) 0
def heldBy (z h : Str) (x : Int) : Bool := decide (V.str ⟨#[sgn z x]⟩ = V.str h)
theorem at_sgn {n : Nat} {z : Str} {x : Int} (h : OwnS n z) (h1 : 1 ≤ x.natAbs) (h2 : x.natAbs ≤ n) : atI z.cps.toList ((x.natAbs : Int) - 1) = some (sgn z x) := by
  have e : (x.natAbs : Int) - 1 = ((x.natAbs - 1 : Nat) : Int) := by omega
  have hl : x.natAbs - 1 < z.cps.toList.length := by
    have : z.cps.toList.length = n := h.1
    omega
  rw [e]
  refine atI_nat ?_
  unfold sgn
  rw [List.getElem?_eq_getElem hl, List.getD_eq_getElem?_getD, List.getElem?_eq_getElem hl]
  rfl
end Ea
set_option Elab.async false
set_option linter.all false
set_option maxRecDepth 100000
set_option maxHeartbeats 4000000
/-! Loops over tuples; dicts of literals by their letters. -/
namespace Ea
open PySem PySem.Spec PyProof.Rows L2

/-! ### a for, by its iterator -/
def ForR (g : TG) (tb : TS) (D : Ends) (σ : L2.St) (J : It) (H1 : Hp) : Prop :=
  ∃ W : Nat → Nat → L2.St → Hp → Prop, (∃ m, W 0 m σ H1) ∧ ∀ i m σ H, W i m σ H →
    (J.stop i H ∧ D.nx σ H) ∨
    (J.go i H ∧ ∃ N : L2.St → Hp → Prop, (∀ σ' H', N σ' H' → ∃ m', m' < m ∧ W (i + 1) m' σ' H') ∧
      ∀ x H', J.yld i H x H' → g x σ H' fun σ2 H2 => tb { D with nx := N, ct := N, bk := D.nx } σ2 H2)
section
variable {K : PySem.W.Frag} {σ : L2.St} {H : Hp} {g : TG} {tb : TS} {D : Ends} {wi : TI} {a : Addr} {xs : List V} {j : Nat}
theorem rd_for (h : wi σ H (ForR g tb D σ)) : tFor wi g tb D σ H := h
theorem fr_tup (Pv : Nat → L2.St → Hp → Prop) (h0 : Pv 0 σ H) (hl : ∀ i σ H, i ≤ xs.length → Pv i σ H → SqT K H a xs)
    (hs : ∀ i x σ H, xs[i]? = some x → Pv i σ H → tb { D with nx := Pv (i + 1), ct := Pv (i + 1), bk := D.nx } (σ.set j (some x)) H) (hd : ∀ σ H, Pv xs.length σ H → D.nx σ H) :
    ForR (gName j) tb D σ (Itt K a) H := for_tup Pv h0 hl (fun i x σ H hi p => hs i x σ H hi p) hd
theorem fr_list (Pv : Nat → L2.St → Hp → Prop) (h0 : Pv 0 σ H) (hl : ∀ i σ H, i ≤ xs.length → Pv i σ H → SqL K H a xs)
    (hs : ∀ i x σ H, xs[i]? = some x → Pv i σ H → tb { D with nx := Pv (i + 1), ct := Pv (i + 1), bk := D.nx } (σ.set j (some x)) H) (hd : ∀ σ H, Pv xs.length σ H → D.nx σ H) :
    ForR (gName j) tb D σ (Itl K a) H := for_list Pv h0 hl (fun i x σ H hi p => hs i x σ H hi p) hd
theorem fr_range {lo : Int} {n : Nat} (Pv : Nat → L2.St → Hp → Prop) (h0 : Pv 0 σ H)
    (hs : ∀ i σ H, i < n → Pv i σ H → tb { D with nx := Pv (i + 1), ct := Pv (i + 1), bk := D.nx } (σ.set j (some (.int (lo + i)))) H) (hd : ∀ σ H, Pv n σ H → D.nx σ H) :
    ForR (gName j) tb D σ (Itr lo n) H := for_range Pv h0 (fun i σ H hi p => hs i σ H hi p) hd
end

theorem rd_dnew {σ : L2.St} {H : Hp} {Q : VK} (h : ∀ p, H p = none → Q (.ref p) (upd H p (.dK []))) : tDNewK σ H Q := h
theorem rd_gtup2 {K : PySem.W.Frag} {σ σ' : L2.St} {H : Hp} {p : Addr} {x y : V} {n i j : Nat} {N : L2.St → Hp → Prop} (s : SqT K H p [x, y]) (hn : n = 2) (hs : (σ.set i (some x)).set j (some y) = σ') (h : N σ' H) :
    gTup K n (gCons (gName i) (gCons (gName j) gNil)) (.ref p) σ H N := ⟨p, [x, y], rfl, s, hn.symm, x, [y], rfl, y, [], rfl, rfl, by subst hs; exact h⟩
/-! ### sorted of a dict by its keys -/
def rSortD : List V → Hp → VK → Prop := fun xs H Q => ∃ (a : Addr) (kvs : List (Key × V)) (ks : List Int), xs = [.ref a] ∧ Rd H a (.dK kvs) ∧ kvs.map (·.1) = ks.map Sum.inl ∧ ks.length < 64 ∧
  ∀ (ys : List Int) (p : Addr), ys.Perm ks → ys.Pairwise (· ≤ ·) → H p = none → Q (.ref p) (upd H p (.lst (ys.map V.int)))
theorem c_sortedD {X : Cx} (h : X.calm = true) : CallR X (.builtin "sorted") rSortD := call_sortedDI h
theorem rd_sortD {H : Hp} {Q : VK} {a : Addr} {kvs : List (Key × V)} {ks : List Int} (h : H a = some (.dK kvs)) (e : kvs.map (·.1) = ks.map Sum.inl) (hl : ks.length < 64)
    (q : ∀ (ys : List Int) (p : Addr), ys.Perm ks → ys.Pairwise (· ≤ ·) → H p = none → Q (.ref p) (upd H p (.lst (ys.map V.int)))) : rSortD [.ref a] H Q := ⟨a, kvs, ks, rfl, .inl h, e, hl, q⟩

/-! ### a dict of literals by letters -/
abbrev lk (x : Int) : Key := Sum.inl (x.natAbs : Int)
structure Dic (ws : List Int) (kvs : List (Key × V)) : Prop where
  ks : ∃ ks : List Int, kvs.map (·.1) = ks.map Sum.inl ∧ ks.Nodup ∧ ∀ k, k ∈ ks ↔ ∃ x ∈ ws, (x.natAbs : Int) = k
  val : ∀ k : Int, (∃ x ∈ ws, (x.natAbs : Int) = k) → ∃ x ∈ ws, (x.natAbs : Int) = k ∧ valV kvs (.inl k) = some (.int x)
  len : kvs.length ≤ ws.length
theorem Dic.nil : Dic [] [] := by
  refine ⟨⟨[], rfl, List.nodup_nil, fun k => ⟨fun h => (nomatch h), ?_⟩⟩, ?_, Nat.le_refl _⟩
  · rintro ⟨x, h, _⟩
    cases h
  · rintro k ⟨x, h, _⟩
    cases h
theorem keys_put {kvs : List (Key × V)} {k : Key} {v : V} : (putK kvs k v).map (·.1) = if (kvs.any fun kv => decide (kv.1 = k)) = true then kvs.map (·.1) else kvs.map (·.1) ++ [k] := by
  unfold putK
  split
  · rw [List.map_map]
    refine List.map_congr_left fun p _ => ?_
    show (if p.1 = k then (p.1, v) else p).1 = p.1
    split <;> rfl
  · rw [List.map_append]
    rfl
theorem any_key {kvs : List (Key × V)} {k : Key} : (kvs.any fun kv => decide (kv.1 = k)) = true ↔ k ∈ kvs.map (·.1) := by
  rw [List.any_eq_true, List.mem_map]
  constructor
  · rintro ⟨p, hp, e⟩
    exact ⟨p, hp, of_decide_eq_true e⟩
  · rintro ⟨p, hp, e⟩
    exact ⟨p, hp, decide_eq_true e⟩
theorem Dic.put {ws : List Int} {kvs : List (Key × V)} (h : Dic ws kvs) (x : Int) : Dic (ws ++ [x]) (putK kvs (lk x) (.int x)) := by
  obtain ⟨⟨ks, e, nd, hm⟩, hv, hl⟩ := h
  refine ⟨?_, fun k hk => ?_, ?_⟩
  · rw [keys_put]
    by_cases c : (kvs.any fun kv => decide (kv.1 = lk x)) = true
    · rw [if_pos c]
      have hx : (x.natAbs : Int) ∈ ks := by
        have z := any_key.mp c
        rw [e] at z
        obtain ⟨k, hk, e2⟩ := List.mem_map.mp z
        cases e2
        exact hk
      refine ⟨ks, e, nd, fun k => ⟨fun hk => ?_, fun ⟨y, hy, e2⟩ => ?_⟩⟩
      · obtain ⟨y, hy, e2⟩ := (hm k).mp hk
        exact ⟨y, List.mem_append_left _ hy, e2⟩
      · rcases List.mem_append.mp hy with hy | hy
        · exact (hm k).mpr ⟨y, hy, e2⟩
        · rw [List.mem_singleton.mp hy] at e2
          rw [← e2]
          exact hx
    · rw [if_neg c]
      have hx : (x.natAbs : Int) ∉ ks := fun hx => c (any_key.mpr (by rw [e]; exact List.mem_map_of_mem hx))
      refine ⟨ks ++ [(x.natAbs : Int)], by rw [e, List.map_append] <;> rfl, ?_, fun k => ⟨fun hk => ?_, fun ⟨y, hy, e2⟩ => ?_⟩⟩
      · rw [List.nodup_append]
        exact ⟨nd, by simp, fun a ha b hb => by rw [List.mem_singleton.mp hb]; exact fun q => hx (q ▸ ha)⟩
      · rcases List.mem_append.mp hk with hk | hk
        · obtain ⟨y, hy, e2⟩ := (hm k).mp hk
          exact ⟨y, List.mem_append_left _ hy, e2⟩
        · exact ⟨x, List.mem_append_right _ List.mem_cons_self, (List.mem_singleton.mp hk).symm⟩
      · rcases List.mem_append.mp hy with hy | hy
        · exact List.mem_append_left _ ((hm k).mpr ⟨y, hy, e2⟩)
        · rw [List.mem_singleton.mp hy] at e2
          exact List.mem_append_right _ (by rw [← e2]; exact List.mem_cons_self)
  · rw [valV_put]
    by_cases c : (Sum.inl k : Key) = lk x
    · rw [if_pos c]
      have c2 : k = (x.natAbs : Int) := Sum.inl.inj c
      exact ⟨x, List.mem_append_right _ List.mem_cons_self, c2.symm, rfl⟩
    · rw [if_neg c]
      obtain ⟨y, hy, e2⟩ := hk
      have hy' : y ∈ ws := by
        rcases List.mem_append.mp hy with hy | hy
        · exact hy
        · rw [List.mem_singleton.mp hy] at e2
          exact absurd (congrArg Sum.inl e2.symm) c
      obtain ⟨z, hz, e3, e4⟩ := hv k ⟨y, hy', e2⟩
      exact ⟨z, List.mem_append_left _ hz, e3, e4⟩
  · have h1 := congrArg List.length (keys_put (kvs := kvs) (k := lk x) (v := .int x))
    rw [List.length_map] at h1
    rw [h1, List.length_append, List.length_singleton]
    split
    · rw [List.length_map]
      omega
    · rw [List.length_append, List.length_map, List.length_singleton]
      omega
/-- the literal that a dict has for a letter -/
def litOf (kvs : List (Key × V)) (k : Int) : Int := match valV kvs (.inl k) with
  | some (.int x) => x
  | _ => 0
theorem Dic.lit {ws : List Int} {kvs : List (Key × V)} (h : Dic ws kvs) {k : Int} (hk : ∃ x ∈ ws, (x.natAbs : Int) = k) :
    valV kvs (.inl k) = some (.int (litOf kvs k)) ∧ litOf kvs k ∈ ws ∧ ((litOf kvs k).natAbs : Int) = k := by
  obtain ⟨x, hx, e, hv⟩ := h.val k hk
  have : litOf kvs k = x := by
    unfold litOf
    rw [hv]
  rw [this]
  exact ⟨hv, hx, e⟩
theorem Dic.join {n : Nat} {one other : List Int} {kvs : List (Key × V)} (h : Dic (one ++ other) kvs) (a : Row n one) (b : Row n other) {ys : List Int} (so : ys.Pairwise (· < ·))
    (hy : ∀ k, k ∈ ys ↔ (∃ x ∈ one ++ other, (x.natAbs : Int) = k) ∧ k ∉ against one other) : IsJoin one other (ys.map (litOf kvs)) := by
  have hl : ∀ k ∈ ys, litOf kvs k ∈ one ++ other ∧ ((litOf kvs k).natAbs : Int) = k := fun k hk => (h.lit ((hy k).mp hk).1).2
  refine ⟨?_, fun x => ⟨fun hx => ?_, fun ⟨hx, hn⟩ => ?_⟩⟩
  · rw [List.pairwise_map]
    refine List.Pairwise.imp_of_mem (fun {p q} hp hq hlt => ?_) so
    have h1 := (hl p hp).2
    have h2 := (hl q hq).2
    omega
  · obtain ⟨k, hk, rfl⟩ := List.mem_map.mp hx
    obtain ⟨h1, h2⟩ := hl k hk
    exact ⟨List.mem_append.mp h1, by rw [h2]; exact ((hy k).mp hk).2⟩
  · have hk : (x.natAbs : Int) ∈ ys := (hy _).mpr ⟨⟨x, List.mem_append.mpr hx, rfl⟩, hn⟩
    obtain ⟨h1, h2⟩ := hl _ hk
    refine List.mem_map.mpr ⟨_, hk, ?_⟩
    exact (same_of a b hx (List.mem_append.mp h1) (by omega) hn).symm
theorem valV_drop {kvs : List (Key × V)} {k j : Key} (h : j ≠ k) : valV (dropK kvs k) j = valV kvs j := by
  induction kvs with
  | nil => rfl
  | cons p r ih =>
    by_cases e : p.1 = k
    · rw [dropK_pos e, ih, valV_neg (fun z => h (z.symm.trans e))]
    · rw [dropK_neg e]
      by_cases e2 : p.1 = j
      · rw [valV_pos e2, valV_pos e2]
      · rw [valV_neg e2, valV_neg e2, ih]
theorem keys_drop {kvs : List (Key × V)} {ks : List Int} {c : Int} (h : kvs.map (·.1) = ks.map Sum.inl) : (dropK kvs (.inl c)).map (·.1) = (ks.filter fun k => decide (k ≠ c)).map Sum.inl := by
  induction kvs generalizing ks with
  | nil =>
    cases ks with
    | nil => rfl
    | cons k r => cases h
  | cons p r ih =>
    cases ks with
    | nil => cases h
    | cons k t =>
      have h1 : p.1 = Sum.inl k := (List.cons.inj h).1
      have h2 := ih (List.cons.inj h).2
      by_cases e : k = c
      · subst e
        rw [dropK_pos h1, h2]
        simp
      · have e1 : ¬ p.1 = Sum.inl c := fun z => e (Sum.inl.inj (h1.symm.trans z))
        rw [dropK_neg e1, List.map_cons, h2, h1]
        simp [e]
theorem dK_not {kvs : List (Key × V)} : ∀ zs : List V, HO.dK kvs ≠ .tup zs ∧ ∀ f, HO.dK kvs ≠ .frz f (.tup zs) := fun zs => ⟨fun h => (by cases h), fun f h => (by cases h)⟩
theorem lst_not {ys : List V} : ∀ zs : List V, HO.lst ys ≠ .tup zs ∧ ∀ f, HO.lst ys ≠ .frz f (.tup zs) := fun zs => ⟨fun h => (by cases h), fun f h => (by cases h)⟩
theorem tup_upd {K : PySem.W.Frag} {H : Hp} {p a : Addr} {o u : HO} {xs : List V} (h : H p = some o) (hn : ∀ zs, o ≠ .tup zs ∧ ∀ f, o ≠ .frz f (.tup zs)) (s : SqT K H a xs) : SqT K (upd H p u) a xs := by
  rcases s with (s | ⟨f, s⟩) | s
  · refine .inl (.inl ?_)
    rw [upd_ne (ne_of s h fun e => (hn xs).1 e.symm)]
    exact s
  · refine .inl (.inr ⟨f, ?_⟩)
    rw [upd_ne (ne_of s h fun e => (hn xs).2 f e.symm)]
    exact s
  · exact .inr s
theorem nodup_le : ∀ {n : Nat} {ks : List Int}, ks.Nodup → (∀ k ∈ ks, 1 ≤ k ∧ k ≤ (n : Int)) → ks.length ≤ n
  | 0, ks, _, hm => by
    cases ks with
    | nil => exact Nat.le_refl _
    | cons k r =>
      have := hm k List.mem_cons_self
      omega
  | n + 1, ks, h, hm => by
    have h1 : (ks.erase ((n + 1 : Nat) : Int)).length ≤ n := nodup_le (h.erase _) fun k hk => by
      obtain ⟨a, b⟩ := (List.Nodup.mem_erase_iff h).mp hk
      have := hm k b
      omega
    have h2 := List.length_erase (a := ((n + 1 : Nat) : Int)) (l := ks)
    split at h2 <;> omega
section
variable {X : Cx} {st : List Stmt} {t : TS} {p : Prop}
theorem pss_guard (h : p → PSs X st t) : PSs X st (fun D σ H => p ∧ t D σ H) := ⟨fun pins s σ H D I hq => (h hq.1).run pins s σ H D I hq.2⟩
end
end Ea
set_option Elab.async false
set_option linter.all false
set_option maxRecDepth 100000
set_option maxHeartbeats 400000
/-! Dict comprehensions of literals; own errors' facts; data that stays. -/
namespace Ea
open PySem PySem.Spec PyProof.Rows L2

def DcR (g : TG) (tt : TT) (tk tv : TE) (vs : List Nat) (σ : L2.St) (Q : VK) (J : It) (H1 : Hp) : Prop :=
  ∀ D, H1 D = none → ∃ W : Nat → Nat → Hp → Prop, (∃ m, W 0 m (upd H1 D (.dK []))) ∧ ∀ i m H, W i m H →
    (J.stop i H ∧ Q (.ref D) H) ∨
    (J.go i H ∧ ∃ Nx : Hp → Prop, (∀ H', Nx H' → ∃ m', m' < m ∧ W (i + 1) m' H') ∧
      ∀ x H', J.yld i H x H' → g x (wipe σ vs) H' fun σ2 H2 => wipe σ2 vs = wipe σ vs ∧ tt σ2 H2 fun b H3 =>
        if b = true then tk σ2 H3 fun y H4 => tv σ2 H4 fun z H5 => ∃ kvs k, y = kV k ∧ H5 D = some (.dK kvs) ∧ kvs.length < sizeLine ∧ Nx (upd H5 D (.dK (putK kvs k z))) else Nx H3)
section
variable {K : PySem.W.Frag} {σ : L2.St} {H : Hp} {Q : VK} {g : TG} {tt : TT} {tk tv : TE} {vs : List Nat} {wi : TI} {j : Nat} {σx : V → L2.St} {a : Addr} {ws : List Int}
theorem rd_dc (h : wi σ H (DcR g tt tk tv vs σ Q)) : tDc wi g tt tk tv vs σ H Q := h
theorem dc_dicT (hx : SqT K H a (ws.map V.int)) (hz : ws.length ≤ 1000) (hσ : ∀ x, (wipe σ vs).set j (some x) = σx x) (hw : ∀ x, wipe (σx x) vs = wipe σ vs)
    (hk : ∀ (x : Int) (H' : Hp) (R : VK), R (.int (x.natAbs : Int)) H' → tk (σx (.int x)) H' R) (hv : ∀ (x : Int) (H' : Hp) (R : VK), R (.int x) H' → tv (σx (.int x)) H' R)
    (hd : ∀ D kvs H', Evl.Ex H H' → H D = none → H' D = some (.dK kvs) → Dic ws kvs → Q (.ref D) H') : DcR (gName j) tYes tk tv vs σ Q (Itt K a) H := fun D hn =>
  dc_tup (xs := ws.map V.int) (fun i H' => Evl.Ex H H' ∧ ∃ kvs, H' D = some (.dK kvs) ∧ Dic (ws.take i) kvs) ⟨Evl.Ex.new hn, [], upd_same, Dic.nil⟩ (fun i H' _ p => Evl.ex_t p.1 hx) (fun i x H' hi p => by
    rw [List.getElem?_map] at hi
    obtain ⟨y, hy, rfl⟩ := Option.map_eq_some_iff.mp hi
    rw [show gName j (.int y) (wipe σ vs) H' = fun N => N (σx (.int y)) H' from funext fun N => by rw [← hσ (.int y)] <;> rfl]
    refine ⟨hw _, rd_yes (rd_true (hk y H' _ (hv y H' _ ?_)))⟩
    obtain ⟨ex, kvs, e, dd⟩ := p
    have hl := dd.len
    rw [List.length_take] at hl
    refine ⟨kvs, lk y, rfl, e, by rw [sizeLine_eq]; omega, Evl.Ex.mut ex hn, _, upd_same, ?_⟩
    rw [List.take_add_one, hy]
    exact dd.put y) fun H' p => by
    obtain ⟨ex, kvs, e, dd⟩ := p
    rw [List.length_map, List.take_of_length_le (Nat.le_refl _)] at dd
    exact hd D kvs H' ex hn e dd
end
theorem rd_ddel {td ty : TE} {D : Ends} {σ : L2.St} {H : Hp} (h : td σ H fun x H1 => ty σ H1 fun y H2 => ∃ a kvs k, x = .ref a ∧ H2 a = some (.dK kvs) ∧ y = kV k ∧ (valV kvs k).isSome = true ∧ D.nx σ (upd H2 a (.dK (dropK kvs k)))) : sDDel td ty D σ H := h
theorem rd_kw {m : Nat} {sp : Sp} {gV : List V → List V} {E : L2.St → XK} {tk : TA} {σ : L2.St} {H : Hp} {Q : VK} (h : tk σ H fun zs H2 => zs.length = m ∧ sp (gV zs) H2 Q (E σ)) : tKw m sp gV E tk σ H Q := h
theorem rd_callS {sp : Sp} {E : L2.St → XK} {t : TA} {σ : L2.St} {H : Hp} {Q : VK} (h : t σ H fun vs H1 => sp vs H1 Q (E σ)) : tCallS sp E t σ H Q := h
theorem rd_ite2 {b : Bool} {te1 te2 : TE} {σ : L2.St} {H : Hp} {Q : VK} (P : V → Hp → Prop) (h1 : ∀ Q : VK, (∀ v H', P v H' → Q v H') → te1 σ H Q) (h2 : ∀ Q : VK, (∀ v H', P v H' → Q v H') → te2 σ H Q)
    (h : ∀ v H', P v H' → Q v H') : if b = true then te1 σ H Q else te2 σ H Q := by
  cases b with
  | true => exact h1 Q h
  | false => exact h2 Q h
theorem nice_row {n : Nat} {ns : List Int} (h : Row n ns) (hn : n ≤ 60) : Nice 60 1 (.tuple (dI ns)) :=
  (Nice.tup (NiceAll.ints fun x hx => by
    have := h.2 x hx
    have : (10 : Nat) ^ 12 = 1000000000000 := by decide
    omega)).mono (by have := h.length; omega) (Nat.le_refl _)
theorem rel_rev : ∀ {zs : List V} {ws : List Value}, Vals zs ws → Vals zs.reverse ws.reverse
  | _, _, .nil => .nil
  | _, _, .cons h t => by
    rw [List.reverse_cons, List.reverse_cons]
    exact (rel_rev t).append (.cons h .nil)
/-- what stands behind a body of the text -/
theorem passAt0 {X : Cx} {σ : L2.St} {E : XK} : PassesAt CX0 X σ E := fun _ _ _ _ _ _ h => h.elim
/-- what stands of an own error class behind the top -/
structure ExcF (K : PySem.W.Frag) (mg : Str → Option Value) (x : Str) (C : Addr) : Prop where
  g : mg x = some (.ref C)
  x : PySem.W.excIn K C [.type "ValueError", .type "Exception", .type "BaseException", .type "object"] "ValueError.__new__" = true
  k : PySem.W.keepIn K (.ref C) = true
  b : PySem.W.subIn K (.ref C) (.type "BaseException") = some true
  t : PySem.W.typeIn K (.ref C) = some (.type "type")
mutual
theorem dp_ex {K : PySem.W.Frag} {H H' : Hp} (e : Evl.Ex H H') : ∀ (d : PyData) (v : V), Dp K H v d → Dp K H' v d
  | .none, _, h => by cases h; exact .non
  | .bool b, _, h => by cases h; exact .bl b
  | .int i, _, h => by cases h; exact .int i
  | .str x, _, h => by cases h; exact .str x
  | .list ds, _, h => by
    cases h with
    | lst hs ha => exact .lst (Evl.ex_l e hs) (dpAll_ex e ds _ ha)
  | .tuple ds, _, h => by
    cases h with
    | tup hs ha => exact .tup (Evl.ex_t e hs) (dpAll_ex e ds _ ha)
  | .dict _, _, h => by cases h
theorem dpAll_ex {K : PySem.W.Frag} {H H' : Hp} (e : Evl.Ex H H') : ∀ (ds : List PyData) (vs : List V), DpAll K H vs ds → DpAll K H' vs ds
  | [], _, h => by cases h; exact .nil
  | d :: ds, _, h => by
    cases h with
    | cons h1 h2 => exact .cons (dp_ex e d _ h1) (dpAll_ex e ds _ h2)
end
end Ea
set_option Elab.async false
set_option linter.all false
set_option maxRecDepth 100000
set_option maxHeartbeats 400000
/-! sorted of a tuple of ints. -/
namespace Ea
open PySem PySem.Spec PyProof.Rows L2
def rSortedT (K : PySem.W.Frag) : List V → Hp → VK → Prop := fun xs H Q => ∃ (a : Addr) (ns : List Int), xs = [.ref a] ∧ SqT K H a (ns.map V.int) ∧ ns.length < 64 ∧
  ∀ (ys : List Int) (p : Addr), ys.Perm ns → ys.Pairwise (· ≤ ·) → H p = none → Q (.ref p) (upd H p (.lst (ys.map V.int)))
theorem cr_sortedT {X : Cx} {K : PySem.W.Frag} (hK : X.K = K) : CallR X (.builtin "sorted") (rSortedT K) := by
  subst hK
  intro pins s σ H xs us Q I r q
  obtain ⟨a, ns, ex, hd, h64, q⟩ := q
  subst ex
  obtain ⟨u, eu, rx⟩ := vals1 r
  subst eu
  cases rx
  obtain ⟨its, rv, ⟨o, ho, hc, n, hds⟩, hz⟩ := I.tuple hd
  have hal : its.length = ns.length := by rw [← rv.length, List.length_map]
  have hS : IntsAre its ns := rv.ints
  refine Calls.call_function_entry PyProof.Rows.kind_sorted PyProof.Rows.plain_sorted PyProof.Rows.entry_sorted (PyProof.Rows.args_sorted1 _) ?_
  unfold Builtin.«sorted»
  refine wpAny_bind (m := checkCount "sorted" 1 1 _) (wpAny_pure ?_)
  refine wpAny_bind (wpAny_collect_seq a (.inr rfl) ho hc hds (fun h' hk => ?_) (by rw [List.size_toArray, hal, sizeLine_eq]; omega))
  have I1 : Inv X pins σ H { s with heap := h' } := I.kept hk
  refine wpAny_bind (wpAny_newList ?_ (by rw [List.toList_toArray, hal, sizeLine_eq]; omega))
  have hoL : (h'.push (seqObj "list" its.toArray.toList.toArray 0)).get? h'.objs.size = some (seqObj "list" its.toArray.toList.toArray 0) := Heap.get?_push_size _ rfl
  show wpAny _ _ _ _ _ { s with heap := h'.push (seqObj "list" its.toArray.toList.toArray 0) }
  refine wpAny_bind (wpAny_holding (wpAny_call_entry PyProof.Rows.slot_list_sort ⟨_, hoL, rfl⟩ PyProof.Rows.entry_list_sort
    (PyProof.Rows.list_sort_tree (s := { s with heap := h'.push (seqObj "list" its.toArray.toList.toArray 0) }) hoL (by rw [List.toList_toArray]; exact hS) (by rw [List.toList_toArray, hal]; exact h64) fun out ys g1 g2 g3 => ⟨_, rfl, ?_⟩) (PyProof.Rows.args_list_sort _)))
  obtain ⟨e', he'⟩ := PyProof.Rows.sortedHeap_at (vs := its.toArray.toList) (out := out) hoL
  have hlen : (ys.map V.int).length ≤ sizeLine := by
    rw [List.length_map, g2.length_eq]
    exact Nat.le_trans (Nat.le_of_lt h64) (by decide)
  refine wpAny_pure ⟨_, rfl, .ref h'.objs.size, upd H h'.objs.size (.lst (ys.map V.int)), I1.laid (t' := s.toks) (fun b u e => ?_) (Nat.le_refl _)
    (show ObjOk X.prog X.w _ _ _ (.lst (ys.map V.int)) from ⟨hlen, out.toList, e', vals_of_ints g1, by rw [Array.toArray_toList]; exact he'⟩), rfl, q ys _ g2 g3 (I1.hok.fresh (Nat.le_refl _))⟩
  have hb : b < h'.objs.size := Heap.lt_size e
  rw [PyProof.Rows.sortedHeap_old (Nat.ne_of_lt hb) (by rw [size_push']; exact Nat.lt_succ_of_lt hb)]
  exact Heap.get?_push_of_some _ e
theorem rd_sortT {K : PySem.W.Frag} {H : Hp} {Q : VK} {a : Addr} {ns : List Int} (s : SqT K H a (ns.map V.int)) (hz : ns.length < 64)
    (h : ∀ (ms : List Int) (q : Addr), ms.Perm ns → ms.Pairwise (· ≤ ·) → H q = none → Q (.ref q) (upd H q (.lst (ms.map V.int)))) : rSortedT K [.ref a] H Q :=
  ⟨a, ns, rfl, s, hz, h⟩
/-- sorted of what ascends -/
theorem sorted_same {ms ns : List Int} (p : ms.Perm ns) (s : ms.Pairwise (· ≤ ·)) (h : ns.Pairwise (· < ·)) : ms = ns := by
  refine List.Perm.eq_of_pairwise (fun a b _ _ h1 h2 => by omega) s (h.imp fun {a b} q => by omega) p
theorem rd_ite2p {p : Prop} {_ : Decidable p} {te1 te2 : TE} {σ : L2.St} {H : Hp} {Q : VK} (P : V → Hp → Prop) (h1 : p → ∀ Q : VK, (∀ v H', P v H' → Q v H') → te1 σ H Q) (h2 : ¬ p → ∀ Q : VK, (∀ v H', P v H' → Q v H') → te2 σ H Q)
    (h : ∀ v H', P v H' → Q v H') : if decide p = true then te1 σ H Q else te2 σ H Q := by
  by_cases c : p
  · rw [if_pos (decide_eq_true c)]
    exact h1 c Q h
  · rw [if_neg (by rw [decide_eq_true_eq]; exact c)]
    exact h2 c Q h
theorem rd_mulL {H : Hp} {Q : VK} {l : Addr} {k : Int} {xs : List V} (h : H l = some (.lst xs)) (h1 : 0 ≤ k ∧ k < 2 ^ 63) (hz : xs.length * k.toNat ≤ sizeLine) (q : ∀ p, H p = none → Q (.ref p) (upd H p (.lst (List.replicate k.toNat xs).flatten))) : rRep (.ref l) (.int k) H Q :=
  ⟨l, k, xs, rfl, rfl, h, by omega, h1.2, hz, q⟩
theorem rd_andV {ta tb : TE} {σ : L2.St} {H : Hp} {Q : VK} (h : ta σ H fun x H1 => ∃ c, x = .bl c ∧ if c = true then tb σ H1 Q else Q (.bl false) H1) : tAndV ta tb σ H Q := h
theorem rd_orV {ta tb : TE} {σ : L2.St} {H : Hp} {Q : VK} (h : ta σ H fun x H1 => ∃ c, x = .bl c ∧ if c = true then Q (.bl true) H1 else tb σ H1 Q) : tOrV ta tb σ H Q := h
theorem rd_notV {ta : TE} {σ : L2.St} {H : Hp} {Q : VK} (h : ta σ H fun x H1 => ∃ c, x = .bl c ∧ Q (.bl (!c)) H1) : tNotV ta σ H Q := h
theorem rd_bc {b : Bool} {P : Bool → Prop} (h : P b) : ∃ c, V.bl b = V.bl c ∧ P c := ⟨b, rfl, h⟩
/-- if, its ends brought together -/
theorem rd_meet {p : Prop} {_ : Decidable p} {t1 t2 : TS} {D : Ends} {σ : L2.St} {H : Hp} (I : L2.St → Hp → Prop) (h1 : p → ∀ N : L2.St → Hp → Prop, (∀ σ' H', I σ' H' → N σ' H') → t1 { D with nx := N } σ H)
    (h2 : ¬ p → ∀ N : L2.St → Hp → Prop, (∀ σ' H', I σ' H' → N σ' H') → t2 { D with nx := N } σ H) (h : ∀ σ' H', I σ' H' → D.nx σ' H') : if decide p = true then t1 D σ H else t2 D σ H := by
  by_cases c : p
  · rw [if_pos (decide_eq_true c)]
    exact h1 c D.nx h
  · rw [if_neg (by rw [decide_eq_true_eq]; exact c)]
    exact h2 c D.nx h
end Ea
set_option Elab.async false
set_option linter.all false
set_option maxRecDepth 100000
set_option maxHeartbeats 400000
/-! A deck of draws that is a list: what draws leave as it was; comprehensions among them. -/
namespace Ea
open PySem PySem.Spec PyProof.Rows L2
/-- a deck: a list of what is left to be drawn, a number, how often it was drawn from that -/
def DeckL (d l : Addr) (H : Hp) : Prop := ∃ (ns : List Int) (m c : Int),
  H d = some (.lst [.ref l, .int m, .int c]) ∧ H l = some (.lst (ns.map V.int)) ∧ ns.length ≤ 63 ∧ (∀ n ∈ ns, 0 ≤ n) ∧ 0 ≤ m ∧ m < 4294967291
theorem deck_ne {l : Addr} {m c : Int} {ns : List Int} {d : Addr} {H : Hp} (e1 : H d = some (.lst [.ref l, .int m, .int c])) (e2 : H l = some (.lst (ns.map V.int))) : d ≠ l := by
  intro e
  rw [e, e2] at e1
  cases ns with
  | nil => cases e1
  | cons x r => cases e1
structure Gl (d l : Addr) (H H' : Hp) : Prop where
  dk : DeckL d l H'
  kp : ∀ a o, a ≠ d → a ≠ l → H a = some o → H' a = some o
section
variable {d l : Addr} {H H1 H2 : Hp}
theorem DeckL.ne (h : DeckL d l H) : d ≠ l := by
  obtain ⟨ns, m, c, e1, e2, _⟩ := h
  exact deck_ne e1 e2
theorem Gl.refl (h : DeckL d l H) : Gl d l H H := ⟨h, fun _ _ _ _ e => e⟩
theorem Gl.trans (a : Gl d l H H1) (b : Gl d l H1 H2) : Gl d l H H2 := ⟨b.dk, fun p o n1 n2 e => b.kp p o n1 n2 (a.kp p o n1 n2 e)⟩
theorem DeckL.off (h : DeckL d l H) {p : Addr} (e : H p = none) : p ≠ d ∧ p ≠ l := by
  obtain ⟨ns, m, c, e1, e2, _⟩ := h
  exact ⟨fun z => (by rw [z, e1] at e; cases e), fun z => (by rw [z, e2] at e; cases e)⟩
theorem DeckL.upd (h : DeckL d l H) {p : Addr} {o : HO} (n1 : p ≠ d) (n2 : p ≠ l) : DeckL d l (upd H p o) := by
  obtain ⟨ns, m, c, e1, e2, r⟩ := h
  exact ⟨ns, m, c, by rw [upd_ne n1.symm]; exact e1, by rw [upd_ne n2.symm]; exact e2, r⟩
theorem Gl.new (h : DeckL d l H) {p : Addr} {o : HO} (e : H p = none) : Gl d l H (upd H p o) := by
  obtain ⟨n1, n2⟩ := h.off e
  exact ⟨h.upd n1 n2, fun q u _ _ eq => by rw [upd_ne (ne_of_none eq e)]; exact eq⟩
/-- an object that H does not know may change -/
theorem Gl.mut (g : Gl d l H H1) (h : DeckL d l H) {p : Addr} {o : HO} (e : H p = none) : Gl d l H (upd H1 p o) := by
  obtain ⟨n1, n2⟩ := h.off e
  exact ⟨g.dk.upd n1 n2, fun q u m1 m2 eq => by rw [upd_ne (ne_of_none eq e)]; exact g.kp q u m1 m2 eq⟩
theorem Gl.back (g : Gl d l H H1) (h : DeckL d l H) {p : Addr} (e : H1 p = none) : H p = none := by
  obtain ⟨n1, n2⟩ := g.dk.off e
  cases q : H p with
  | none => rfl
  | some o =>
    rw [g.kp p o n1 n2 q] at e
    cases e
/-- a tuple stays -/
theorem Gl.tup {K : PySem.W.Frag} (g : Gl d l H H1) (h : DeckL d l H) {a : Addr} {xs : List V} (t : SqT K H a xs) : SqT K H1 a xs := by
  obtain ⟨ns, m, c, e1, e2, _⟩ := h
  have hn : ∀ {o : HO}, H a = some o → (∀ kv, o ≠ .dK kv) → (∀ ys, o ≠ .lst ys) → H1 a = some o := fun e c1 c2 =>
    g.kp a _ (fun z => (by rw [z, e1] at e; cases e; exact c2 _ rfl)) (fun z => (by rw [z, e2] at e; cases e; exact c2 _ rfl)) e
  rcases t with (t | ⟨o, t⟩) | t
  · exact .inl (.inl (hn t nofun nofun))
  · exact .inl (.inr ⟨o, hn t nofun nofun⟩)
  · exact .inr t
end
section
variable {d l : Addr} {K : PySem.W.Frag} {σ : L2.St} {H : Hp} {Q : VK} {tt : TT} {te : TE} {vs : List Nat} {j : Nat} {σx : V → L2.St} {a : Addr} {xs : List V}
/-- a turn of a comprehension among draws -/
abbrev TurnL (d l : Addr) (H : Hp) (tt : TT) (te : TE) (σx : V → L2.St) (Pv : Nat → List V → Prop) (i : Nat) (x : V) : Prop :=
  ∀ (acc : List V) (H' : Hp) (N : VK) (S : Hp → Prop), Gl d l H H' → Pv i acc →
    (∀ y H3, Gl d l H' H3 → Pv (i + 1) (acc ++ [y]) → N y H3) → (∀ H3, Gl d l H' H3 → Pv (i + 1) acc → S H3) →
    tt (σx x) H' fun b H2 => if b = true then te (σx x) H2 N else S H2
def Cl (d l : Addr) (H : Hp) (Pv : Nat → List V → Prop) (D : Addr) (i : Nat) (H' : Hp) : Prop :=
  ∃ acc, H D = none ∧ Gl d l H H' ∧ H' D = some (.lst acc) ∧ acc.length ≤ i ∧ Pv i acc
theorem cl_start {Pv : Nat → List V → Prop} (hD : DeckL d l H) (h0 : Pv 0 []) {D : Addr} (e : H D = none) : Cl d l H Pv D 0 (upd H D (.lst [])) :=
  ⟨[], e, Gl.new hD e, upd_same, Nat.le_refl _, h0⟩
theorem cl_turn {Pv : Nat → List V → Prop} {D : Addr} {i : Nat} {x : V} {H' : Hp} (hD : DeckL d l H) (hi : i < 100000) (ht : TurnL d l H tt te σx Pv i x) (p : Cl d l H Pv D i H') :
    tt (σx x) H' fun b H3 => if b = true then te (σx x) H3 fun y H4 => ∃ acc, H4 D = some (.lst acc) ∧ acc.length < sizeLine ∧ Cl d l H Pv D (i + 1) (upd H4 D (.lst (acc ++ [y]))) else Cl d l H Pv D (i + 1) H3 := by
  obtain ⟨acc, e, g, ea, hl, hp⟩ := p
  obtain ⟨n1, n2⟩ := hD.off e
  refine ht acc H' _ _ g hp (fun y H3 g3 hp3 => ?_) fun H3 g3 hp3 => ?_
  · refine ⟨acc, g3.kp D _ n1 n2 ea, Evl.sz_lt (by omega), acc ++ [y], e, Gl.mut (g.trans g3) hD e, upd_same, ?_, hp3⟩
    rw [List.length_append, List.length_singleton]
    omega
  · exact ⟨acc, e, g.trans g3, g3.kp D _ n1 n2 ea, by omega, hp3⟩
theorem lc_glT (Pv : Nat → List V → Prop) (hD : DeckL d l H) (hx : SqT K H a xs) (hz : xs.length ≤ 40000) (hσ : ∀ x, (wipe σ vs).set j (some x) = σx x) (hw : ∀ x, wipe (σx x) vs = wipe σ vs)
    (h0 : Pv 0 []) (hs : ∀ i x, xs[i]? = some x → TurnL d l H tt te σx Pv i x)
    (hd : ∀ D acc H', Gl d l H H' → H D = none → H' D = some (.lst acc) → Pv xs.length acc → Q (.ref D) H') : LcR (gName j) tt te vs σ Q (Itt K a) H := fun D hn =>
  lc_tup (xs := xs) (Cl d l H Pv D) (cl_start hD h0 hn) (fun i H' _ ⟨_, _, g, _⟩ => g.tup hD hx) (fun i x H' hi p => by
    rw [show gName j x (wipe σ vs) H' = fun N => N (σx x) H' from funext fun N => by rw [← hσ x] <;> rfl]
    refine ⟨hw x, ?_⟩
    have := (List.getElem?_eq_some_iff.mp hi).1
    exact cl_turn hD (by omega) (hs i x hi) p) fun H' p => by
    obtain ⟨acc, e, g, ea, _, hp⟩ := p
    exact hd D acc H' g e ea hp
theorem lc_glL (Pv : Nat → List V → Prop) (hD : DeckL d l H) (hx : ∀ H', Gl d l H H' → SqL K H' a xs) (hz : xs.length ≤ 40000) (hσ : ∀ x, (wipe σ vs).set j (some x) = σx x) (hw : ∀ x, wipe (σx x) vs = wipe σ vs)
    (h0 : Pv 0 []) (hs : ∀ i x, xs[i]? = some x → TurnL d l H tt te σx Pv i x)
    (hd : ∀ D acc H', Gl d l H H' → H D = none → H' D = some (.lst acc) → Pv xs.length acc → Q (.ref D) H') : LcR (gName j) tt te vs σ Q (Itl K a) H := fun D hn =>
  lc_list (xs := xs) (Cl d l H Pv D) (cl_start hD h0 hn) (fun i H' _ ⟨_, _, g, _⟩ => hx H' g) (fun i x H' hi p => by
    rw [show gName j x (wipe σ vs) H' = fun N => N (σx x) H' from funext fun N => by rw [← hσ x] <;> rfl]
    refine ⟨hw x, ?_⟩
    have := (List.getElem?_eq_some_iff.mp hi).1
    exact cl_turn hD (by omega) (hs i x hi) p) fun H' p => by
    obtain ⟨acc, e, g, ea, _, hp⟩ := p
    exact hd D acc H' g e ea hp
theorem lc_glR {lo : Int} {n : Nat} (Pv : Nat → List V → Prop) (hD : DeckL d l H) (hz : n ≤ 40000) (hσ : ∀ x, (wipe σ vs).set j (some x) = σx x) (hw : ∀ x, wipe (σx x) vs = wipe σ vs)
    (h0 : Pv 0 []) (hs : ∀ i, i < n → TurnL d l H tt te σx Pv i (.int (lo + i)))
    (hd : ∀ D acc H', Gl d l H H' → H D = none → H' D = some (.lst acc) → Pv n acc → Q (.ref D) H') : LcR (gName j) tt te vs σ Q (Itr lo n) H := fun D hn =>
  lc_range (Cl d l H Pv D) (cl_start hD h0 hn) (fun i H' hi p => by
    rw [show gName j (.int (lo + i)) (wipe σ vs) H' = fun N => N (σx (.int (lo + i))) H' from funext fun N => by rw [← hσ (.int (lo + i))] <;> rfl]
    exact ⟨hw _, cl_turn hD (by omega) (hs i hi) p⟩) fun H' p => by
    obtain ⟨acc, e, g, ea, _, hp⟩ := p
    exact hd D acc H' g e ea hp
end

section
variable {d l : Addr} {H H' : Hp}
theorem Gl.ex (e : Evl.Ex H H') (h : DeckL d l H) : Gl d l H H' := by
  obtain ⟨ns, m, c, e1, e2, r⟩ := h
  exact ⟨⟨ns, m, c, e _ _ e1, e _ _ e2, r⟩, fun a o _ _ q => e a o q⟩
end
theorem rd_gsub {to ti : TE} {t : TSet} {v : V} {σ : L2.St} {H : Hp} {N : L2.St → Hp → Prop} (h : to σ H fun o H1 => ti σ H1 fun i H2 => t o i v H2 fun H3 => N σ H3) : gSub to ti t v σ H N := h
end Ea
set_option Elab.async false
set_option linter.all false
set_option maxRecDepth 100000
set_option maxHeartbeats 1000000
/-! enumerate of a tuple; zip of a tuple and a list. -/
namespace Ea
open PySem PySem.Spec PyProof.Rows L2
/-- enumerate(v), v told by how its iterator begins -/
theorem meets_enum1 {v : Value} {o : Obj} {Hh : Heap → Prop} (B : Begins v o Hh) :
    Meets (Builtin.«enumerate.__new__» ⟨[.type "enumerate", v], []⟩) (fun _ R s => Hh s.heap ∧
      R (.ok (.ret (.ref (s.heap.push o).objs.size))) { s with heap := (s.heap.push o).push { cls := .type "enumerate", data := .fields #[.none, .bool false, .ref s.heap.objs.size, rawInt 0, .none, .none] } }) :=
  .of_wp fun prog w A R s h => by
    obtain ⟨hp, g, d, tk, os⟩ := s
    obtain ⟨h1, h⟩ := h
    have hsub := sub_enumerate
    have q1 : ∀ {A' : Around} {E : Value → Shared → Prop} {Q : Value → Shared → Prop}, Q (.ref hp.objs.size) ⟨hp.push o, g, d, tk, os⟩ → wpAny (model prog w) A' (pyIter v) Q E ⟨hp, g, d, tk, os⟩ :=
      fun q => B.iter prog w _ _ ⟨hp, g, d, tk, os⟩ _ h1 q
    wp_walk using q1
    refine wpAny_stack_any fun st => wpAny_pure ?_
    split
    · rename_i c _ _ _ _ _
      cases (c == Value.type "enumerate") <;> (wp_walk using q1; exact ⟨_, rfl, h⟩)
    · wp_walk using q1
      exact ⟨_, rfl, h⟩
theorem call_enum1 {prog : Program} {w : World} {A : Around} {E : Value → Shared → Prop} {s : Shared} {v : Value} {o : Obj} {Hh : Heap → Prop} {Q : Value → Shared → Prop} (B : Begins v o Hh) (h1 : Hh s.heap)
    (h : ∀ h', IsEnum h' (s.heap.objs.size + 1) s.heap.objs.size 0 .none → h'.get? s.heap.objs.size = some o → (∀ b o, s.heap.get? b = some o → h'.get? b = some o) → Q (.ref (s.heap.objs.size + 1)) { s with heap := h' }) :
    wpAny (model prog w) A (call (.type "enumerate") [v]) Q E s := by
  refine callType_new F.called_enumerate (by decide) (F.typeCall_enumerate_1 _) (F.newCall_enumerate_1 _) (fun obj => F.args_object_init_2 obj _) F.entry_enumerate_new (meets_enum1 B) ⟨h1, ?_⟩
  have hz : (s.heap.push o).objs.size = s.heap.objs.size + 1 := Heap.size_push ..
  show _ ∧ _
  rw [hz]
  have he : IsEnum ((s.heap.push o).push { cls := .type "enumerate", data := .fields #[.none, .bool false, .ref s.heap.objs.size, rawInt 0, .none, .none] }) (s.heap.objs.size + 1) s.heap.objs.size 0 .none := by
    have z := Heap.get?_push_size (s.heap.push o) (o := { cls := .type "enumerate", data := .fields #[.none, .bool false, .ref s.heap.objs.size, rawInt 0, .none, .none] }) rfl
    rw [hz] at z
    exact z
  exact ⟨⟨_, he, rfl⟩, h _ he (Heap.get?_push_of_some _ (Heap.get?_push_size _ B.free)) fun b o x => Heap.get?_push_of_some _ (Heap.get?_push_of_some _ x)⟩
/-- the tuple at a, each item in a new pair -/
def IteT (K : PySem.W.Frag) (a : Addr) : It :=
  ⟨fun i H => ∃ (xs : List V) (x : V), SqT K H a xs ∧ xs[i]? = some x, fun i H v H' => ∃ T x, v = .ref T ∧ H T = none ∧ H' = upd H T (.tup [.int (i : Nat), x]) ∧ ∀ xs, SqT K H a xs → xs[i]? = some x, fun i H => ∃ xs : List V, SqT K H a xs ∧ xs.length = i⟩
theorem apart {h : Heap} {a b : Addr} {o u : Obj} (e1 : h.get? a = some o) (e2 : h.get? b = some u) (hc : o.cls ≠ u.cls) : a ≠ b := fun e => by
  rw [e, e2] at e1
  cases e1
  exact hc rfl
theorem turn_enumT {P : Program} {w : World} {K : PySem.W.Frag} {elts : List Expr} {kk : Nat} {tpos : Pos} (a e it : Addr) :
    L2.Turn P w K (.Tuple elts kk tpos) (IteT K a) [e, it] e (fun i h => (∃ old, IsEnum h e it ((i : Nat) : Int) old) ∧ h.IsTupleIter it a i ∧ e ≠ it) where
  mem := by simp
  obj := fun i h st b hb => by
    obtain ⟨⟨old, he⟩, ⟨o, ho, hc, hd⟩, _⟩ := st
    have e' : b = e ∨ b = it := by simpa using hb
    rcases e' with rfl | rfl
    · exact ⟨_, he, fun v q => nomatch q⟩
    · exact ⟨o, ho, fun v q => by rw [hd] at q; cases q⟩
  keep := fun i h h' st k => let ⟨⟨old, he⟩, hi, hne⟩ := st; ⟨⟨old, k e (by simp) _ he⟩, hi.at fun o q => k it (by simp) o q, hne⟩
  item := by
    intro X hP hw hK hc i pins s σ H E I hf st hg
    subst hP hw hK
    obtain ⟨⟨old, he⟩, hit, hne⟩ := st
    obtain ⟨xs, x, hq, hx⟩ := hg
    obtain ⟨its, rv, p, hz⟩ := I.tuple hq
    obtain ⟨u, hu, ru⟩ := rv.get hx
    obtain ⟨oi, hoi, hci, _⟩ := id hit
    obtain ⟨ot, hot, hct, _⟩ := id p
    have hai : a ≠ it := apart hot hoi (by rw [hct, hci]; decide)
    have hea : e ≠ a := apart he hot (by rw [hct]; show Value.type "enumerate" ≠ Value.type "tuple"; decide)
    have hel : e < s.heap.objs.size := Heap.lt_size he
    have hil : it < s.heap.objs.size := Heap.lt_size hoi
    have hlt : i < its.toArray.size := by
      have := (List.getElem?_eq_some_iff.mp hu).1
      simpa using this
    refine wpAny_pyNext_enum_itemD (Draws.tuple (prog := X.prog) (w := X.w) (A := X.A.in1) (I.ok.hd hc) it a hai its.toArray) he ⟨hit, p⟩ hlt hne (by simp [hne, hea]) fun x' h' tk hP ho st' hT hsz hk => ?_
    obtain rfl : u = x' := by
      have z : its[i]? = some x' := by simpa using hP
      rw [hu] at z
      exact Option.some.inj z
    refine ⟨_, rfl, wpAny_letOwnedTupleGo_enum (s := { s with heap := h', toks := tk + 1 }) ho fun h'' he' sb => ?_⟩
    have hT2 : h''.get? s.heap.objs.size = some { cls := .type "tuple", data := .seq #[.int i tk, u] } := (sb.2 _ (Nat.ne_of_gt hel)).trans hT
    have new : ObjOk X.prog X.w (upd H s.heap.objs.size (.tup [.int (i : Nat), x])) h'' s.heap.objs.size (.tup [.int (i : Nat), x]) :=
      ⟨by show 2 ≤ sizeLine; decide, [.int i tk, u], .cons ⟨_, rfl⟩ (.cons ru .nil), ⟨_, hT2, rfl, _, rfl⟩⟩
    have I1 : Inv X pins σ (upd H s.heap.objs.size (.tup [.int (i : Nat), x])) { s with heap := h'', toks := tk + 1 } :=
      I.turnedNew (ch := [e, it]) (fun b ob hb q => (sb.2 b (fun z => hb (by simp [z]))).trans (hk b ob (fun z => hb (by simp [z])) (fun z => hb (by simp [z])) q)) hf (Nat.le_refl _) new
    refine ⟨.ref s.heap.objs.size, _, I1, rfl, ⟨_, x, rfl, I.hok.fresh (Nat.le_refl _), rfl, fun ys hy => by rw [I.tuple_inj hy hq]; exact hx⟩, ⟨⟨u, ?_⟩, st'.1.at fun o q => (sb.2 it (Ne.symm hne)).trans q, hne⟩, fun b hb => ?_⟩
    · have e1 : ((i + 1 : Nat) : Int) = (i : Int) + 1 := by omega
      rw [e1]
      exact he'
    · have hb' : b < s.heap.objs.size := by
        have e' : b = e ∨ b = it := by simpa using hb
        rcases e' with rfl | rfl
        · exact hel
        · exact hil
      rw [upd_ne (Nat.ne_of_lt hb')]
      exact (hf b hb).1
  done := by
    intro X hP hw hK hc i pins s σ H E I hf st hg
    subst hP hw hK
    obtain ⟨⟨old, he⟩, hit, hne⟩ := st
    obtain ⟨xs, hq, hx⟩ := hg
    obtain ⟨its, rv, p, hz⟩ := I.tuple hq
    obtain ⟨oi, hoi, hci, _⟩ := id hit
    obtain ⟨ot, hot, hct, _⟩ := id p
    have hai : a ≠ it := apart hot hoi (by rw [hct, hci]; decide)
    obtain ⟨f0, f1, f2, f3, f4, f5⟩ := hf it (by simp)
    have hl : i = its.toArray.size := by
      have := rv.length
      rw [List.size_toArray]
      omega
    exact wpAny_pyNext_enum_endD (Draws.tuple (prog := X.prog) (w := X.w) (A := X.A.in1) (I.ok.hd hc) it a hai its.toArray) he ⟨hl ▸ hit, p⟩ fun h' eb => ⟨rfl, I.turned (t' := s.toks) (fun b o hb q => eb b o hb q) f0 f1 f3 f4 f5⟩
  self := fun A i s Q E st h => let ⟨⟨_, he⟩, _⟩ := st; wpAny_pyIter_enum he h
def iEnumT (K : PySem.W.Frag) (ta : TA) : TI := fun σ H R => ta σ H fun vs H1 => ∃ a xs, vs = [.ref a] ∧ SqT K H1 a xs ∧ R (IteT K a) H1
theorem pi_enumT {X : Cx} {K : PySem.W.Frag} (hKK : X.K = K) {e : Expr} {ta : TA} {p pos tpos : Pos} {elts : List Expr} {kk : Nat} (hg : L2.Gl X "enumerate") (hm : X.mg "enumerate" = none) (ha : PA X [e] ta) (hs : starEach [e] X.env = [(false, eval e X.env)] := by rfl) :
    PI X (.Tuple elts kk tpos) (.Call (.Name "enumerate" p) [e] [] pos) (iEnumT K ta) := by
  subst hKK
  refine ⟨fun pins s σ H R I h => ?_⟩
  refine Call_ (ld_blt I hg hm boot_enumerate (PyProof.Rows.callWith_type1 (thn (ha.run pos pins s σ H _ I h) fun us s1 ⟨vs, H1, I1, r1, q1⟩ => ?_) hs rfl))
  obtain ⟨a, xs, ex, hq, q⟩ := q1
  subst ex
  cases r1 with
  | cons r rr =>
    cases rr
    cases r
    obtain ⟨its, rv, p', hz⟩ := I1.tuple hq
    refine call_enum1 (begins_tuple a its.toArray) (show s1.heap.IsTuple a its.toArray from p') fun h' he hit hk => wpAny_pyIter_enum he ?_
    have I2 : Inv X pins σ H1 { s1 with heap := h' } := I1.kept (t' := s1.toks) hk
    refine ⟨s1.heap.objs.size + 1, [s1.heap.objs.size + 1, s1.heap.objs.size], _, _, H1, rfl, I2, turn_enumT a (s1.heap.objs.size + 1) s1.heap.objs.size, ⟨⟨.none, he⟩, ⟨_, hit, rfl, rfl⟩, Nat.succ_ne_self _⟩, fun b hb => ?_, q⟩
    have e' : b = s1.heap.objs.size + 1 ∨ b = s1.heap.objs.size := by simpa using hb
    have hle : s1.heap.objs.size ≤ b := by
      rcases e' with rfl | rfl
      · exact Nat.le_add_right _ _
      · exact Nat.le_refl _
    exact I1.fpOk hle (I1.hok.fresh hle)
end Ea
set_option Elab.async false
set_option linter.all false
set_option maxRecDepth 100000
set_option maxHeartbeats 1000000
/-! zip of a tuple and a list. -/
namespace Ea
open PySem PySem.Spec PyProof.Rows L2
/-- the tuple at a and the list at b, the items in new pairs -/
def ItzM (K : PySem.W.Frag) (a b : Addr) : It :=
  ⟨fun i H => ∃ (xs ys : List V) (x y : V), SqT K H a xs ∧ SqL K H b ys ∧ xs[i]? = some x ∧ ys[i]? = some y,
    fun i H v H' => ∃ T x y, v = .ref T ∧ H T = none ∧ H' = upd H T (.tup [x, y]) ∧ (∀ xs, SqT K H a xs → xs[i]? = some x) ∧ ∀ ys, SqL K H b ys → ys[i]? = some y,
    fun i H => ∃ xs ys : List V, SqT K H a xs ∧ SqL K H b ys ∧ i ≤ xs.length ∧ i ≤ ys.length ∧ (i = xs.length ∨ i = ys.length)⟩
structure Cells (z TI TO i1 i2 : Addr) : Prop where
  TIz : TI ≠ z
  TOz : TO ≠ z
  TITO : TI ≠ TO
  TIi1 : TI ≠ i1
  TIi2 : TI ≠ i2
  TOi1 : TO ≠ i1
  TOi2 : TO ≠ i2
  zi1 : z ≠ i1
  zi2 : z ≠ i2
  i12 : i1 ≠ i2
theorem cells_sep {h : Heap} {z TI TO i1 i2 a b : Addr} {k1 k2 : Nat} {xs ys : Array Value} {x y : Value} (C : Cells z TI TO i1 i2) (hz : IsZip h z TI TO .none) (hTO : IsTupOf2 h TO x y)
    (h1 : h.IsTupleIter i1 a k1) (h2 : h.IsListIter i2 b k2) (ha : h.IsTuple a xs) (hb : h.IsList b ys) (hTa : TO ≠ a) : ZipSep2 z TI TO i1 i2 [i1, a] [i2, b] ∧ a ≠ i1 ∧ b ≠ i2 := by
  obtain ⟨o1, e1, c1, _⟩ := h1
  obtain ⟨o2, e2, c2, _⟩ := h2
  obtain ⟨oa, ea, ca, _⟩ := ha
  obtain ⟨ob, eb, cb, _⟩ := hb
  have nza : z ≠ a := apart hz ea (by rw [ca]; show Value.type "zip" ≠ Value.type "tuple"; decide)
  have nzb : z ≠ b := apart hz eb (by rw [cb]; show Value.type "zip" ≠ Value.type "list"; decide)
  have nTb : TO ≠ b := apart hTO eb (by rw [cb]; show Value.type "tuple" ≠ Value.type "list"; decide)
  have n1b : i1 ≠ b := apart e1 eb (by rw [c1, cb]; decide)
  have n2a : i2 ≠ a := apart e2 ea (by rw [c2, ca]; decide)
  have na1 : a ≠ i1 := apart ea e1 (by rw [ca, c1]; decide)
  have nb2 : b ≠ i2 := apart eb e2 (by rw [cb, c2]; decide)
  refine ⟨{ TIz := C.TIz, TOz := C.TOz, TITO := C.TITO, TIi1 := C.TIi1, mem1 := by simp, zf1 := ?_, Tf1 := ?_, TIi2 := C.TIi2, mem2 := by simp, zf2 := ?_, Tf2 := ?_, sep1_2 := ?_, sep2_1 := ?_ }, na1, nb2⟩
  · simp [C.zi1, nza]
  · simp [C.TOi1, hTa]
  · simp [C.zi2, nzb]
  · simp [C.TOi2, nTb]
  · simp [C.i12, n1b]
  · simp [C.i12.symm, n2a]
theorem turn_zipM {P : Program} {w : World} {K : PySem.W.Frag} {elts : List Expr} {kk : Nat} {tpos : Pos} {a b z TI TO i1 i2 : Addr} (C : Cells z TI TO i1 i2) (hTa : TO ≠ a) :
    L2.Turn P w K (.Tuple elts kk tpos) (ItzM K a b) [z, TI, TO, i1, i2] z (fun i h => IsZip h z TI TO .none ∧ IsTupOf2 h TI (.ref i1) (.ref i2) ∧ (∃ x y, IsTupOf2 h TO x y) ∧ h.IsTupleIter i1 a i ∧ h.IsListIter i2 b i) where
  mem := by simp
  obj := fun i h st c hc => by
    obtain ⟨hz, hTI, ⟨x, y, hTO⟩, ⟨o1, e1, _, d1⟩, ⟨o2, e2, _, d2⟩⟩ := st
    have e' : c = z ∨ c = TI ∨ c = TO ∨ c = i1 ∨ c = i2 := by simpa using hc
    rcases e' with rfl | rfl | rfl | rfl | rfl
    · exact ⟨_, hz, fun v q => nomatch q⟩
    · exact ⟨_, hTI, fun v q => nomatch q⟩
    · exact ⟨_, hTO, fun v q => nomatch q⟩
    · exact ⟨o1, e1, fun v q => by rw [d1] at q; cases q⟩
    · exact ⟨o2, e2, fun v q => by rw [d2] at q; cases q⟩
  keep := fun i h h' st k => by
    obtain ⟨hz, hTI, ⟨x, y, hTO⟩, h1, h2⟩ := st
    exact ⟨k z (by simp) _ hz, k TI (by simp) _ hTI, ⟨x, y, k TO (by simp) _ hTO⟩, h1.at fun o q => k i1 (by simp) o q, h2.at fun o q => k i2 (by simp) o q⟩
  item := by
    intro X hP hw hK hc i pins s σ H E I hf st hg
    subst hP hw hK
    obtain ⟨hz, hTI, ⟨x0, y0, hTO⟩, h1, h2⟩ := st
    obtain ⟨xs, ys, x, y, hqx, hqy, hx, hy⟩ := hg
    obtain ⟨its, rv, p, _⟩ := I.tuple hqx
    obtain ⟨its2, rv2, p2, _⟩ := I.list hqy
    obtain ⟨u, hu, ru⟩ := rv.get hx
    obtain ⟨u2, hu2, ru2⟩ := rv2.get hy
    have pt : s.heap.IsTuple a its.toArray := p
    obtain ⟨S, na1, nb2⟩ := cells_sep C hz hTO h1 h2 pt p2.isList hTa
    have hzl : z < s.heap.objs.size := Heap.lt_size hz
    have hlt1 : i < its.toArray.size := by
      have := (List.getElem?_eq_some_iff.mp hu).1
      simpa using this
    have hlt2 : i < its2.toArray.size := by
      have := (List.getElem?_eq_some_iff.mp hu2).1
      simpa using this
    refine wpAny_pyNext_zipD2_item S (Draws.tuple (prog := X.prog) (w := X.w) (A := X.A.in1) (I.ok.hd hc) i1 a na1 its.toArray) (Draws.list (prog := X.prog) (w := X.w) (A := X.A.in1) (I.ok.hd hc) i2 b nb2 its2.toArray) hz hTI hTO ⟨h1, pt⟩ ⟨h2, p2.isList⟩ hlt1 hlt2 fun x1 x2 h' tk hP1 hP2 z' TO' st1 st2 hT hsz hk => ?_
    obtain rfl : u = x1 := by
      have q : its[i]? = some x1 := by simpa using hP1
      rw [hu] at q
      exact Option.some.inj q
    obtain rfl : u2 = x2 := by
      have q : its2[i]? = some x2 := by simpa using hP2
      rw [hu2] at q
      exact Option.some.inj q
    refine ⟨_, rfl, wpAny_letOwnedTupleGo_zip (s := { s with heap := h', toks := tk }) z' fun h'' z'' sb => ?_⟩
    have hT2 : h''.get? s.heap.objs.size = some { cls := .type "tuple", data := .seq #[u, u2] } := (sb.2 _ (Nat.ne_of_gt hzl)).trans hT
    have new : ObjOk X.prog X.w (upd H s.heap.objs.size (.tup [x, y])) h'' s.heap.objs.size (.tup [x, y]) :=
      ⟨by show 2 ≤ sizeLine; decide, [u, u2], .cons ru (.cons ru2 .nil), ⟨_, hT2, rfl, _, rfl⟩⟩
    have I1 : Inv X pins σ (upd H s.heap.objs.size (.tup [x, y])) { s with heap := h'', toks := tk } :=
      I.turnedNew (ch := [z, TI, TO, i1, i2]) (fun c o hb q => (sb.2 c (fun q' => hb (by simp [q']))).trans (hk c o (fun q' => hb (by simp [q'])) (fun q' => hb (by simp [q'])) (fun q' => hb (by simp [q'])) (fun q' => hb (by simp [q'])) q)) hf (Nat.le_refl _) new
    refine ⟨.ref s.heap.objs.size, _, I1, rfl, ⟨_, x, y, rfl, I.hok.fresh (Nat.le_refl _), rfl, fun l hl => by rw [I.tuple_inj hl hqx]; exact hx, fun l hl => by rw [I.list_inj hl hqy]; exact hy⟩, ⟨z'', ?_, ⟨u, u2, ?_⟩, ?_, ?_⟩, fun c hcm => ?_⟩
    · exact (sb.2 _ C.TIz).trans (hk _ _ C.TIz C.TITO C.TIi1 C.TIi2 hTI)
    · exact (sb.2 _ C.TOz).trans TO'
    · exact st1.1.at fun o q => (sb.2 _ C.zi1.symm).trans q
    · exact st2.1.at fun o q => (sb.2 _ C.zi2.symm).trans q
    · have hlt : c < s.heap.objs.size := by
        have e' : c = z ∨ c = TI ∨ c = TO ∨ c = i1 ∨ c = i2 := by simpa using hcm
        rcases e' with rfl | rfl | rfl | rfl | rfl
        · exact hzl
        · exact Heap.lt_size hTI
        · exact Heap.lt_size hTO
        · obtain ⟨_, e1, _⟩ := h1
          exact Heap.lt_size e1
        · obtain ⟨_, e2, _⟩ := h2
          exact Heap.lt_size e2
      rw [upd_ne (Nat.ne_of_lt hlt)]
      exact (hf c hcm).1
  done := by
    intro X hP hw hK hc i pins s σ H E I hf st hg
    subst hP hw hK
    obtain ⟨hz, hTI, ⟨x0, y0, hTO⟩, h1, h2⟩ := st
    obtain ⟨xs, ys, hqx, hqy, l1, l2, hend⟩ := hg
    obtain ⟨its, rv, p, _⟩ := I.tuple hqx
    obtain ⟨its2, rv2, p2, _⟩ := I.list hqy
    have pt : s.heap.IsTuple a its.toArray := p
    obtain ⟨S, na1, nb2⟩ := cells_sep C hz hTO h1 h2 pt p2.isList hTa
    have k1 := rv.length
    have k2 := rv2.length
    have m1 : i ≤ its.toArray.size := by rw [List.size_toArray]; omega
    have m2 : i ≤ its2.toArray.size := by rw [List.size_toArray]; omega
    have m3 : i = its.toArray.size ∨ i = its2.toArray.size := by rw [List.size_toArray, List.size_toArray]; omega
    exact wpAny_pyNext_zipD2_end S (Draws.tuple (prog := X.prog) (w := X.w) (A := X.A.in1) (I.ok.hd hc) i1 a na1 its.toArray) (Draws.list (prog := X.prog) (w := X.w) (A := X.A.in1) (I.ok.hd hc) i2 b nb2 its2.toArray) hz hTI hTO ⟨h1, pt⟩ ⟨h2, p2.isList⟩ m1 m2 m3 fun h' tk hk => ⟨rfl, I.turnedL (t' := tk) (ch := [z, TI, TO, i1, i2]) (fun c o hb q =>
      hk c o (fun q' => hb (by simp [q'])) (fun q' => hb (by simp [q'])) (fun q' => hb (by simp [q'])) (fun q' => hb (by simp [q'])) q) hf⟩
  self := fun A i s Q E st h => wpAny_pyIter_zip st.1 h
def iZipM (K : PySem.W.Frag) (ta : TA) : TI := fun σ H R => ta σ H fun vs H1 => ∃ a b xs ys, vs = [.ref a, .ref b] ∧ SqT K H1 a xs ∧ SqL K H1 b ys ∧ R (ItzM K a b) H1
theorem pi_zipM {X : Cx} {K : PySem.W.Frag} (hKK : X.K = K) {e e2 : Expr} {ta : TA} {p pos tpos : Pos} {elts : List Expr} {kk : Nat} (hg : L2.Gl X "zip") (hm : X.mg "zip" = none) (ha : PA X [e, e2] ta)
    (hs : starEach [e, e2] X.env = (false, eval e X.env) :: starEach [e2] X.env := by rfl) (hpl : (backTo pos (starEach [e2] X.env)).any (·.1) = false := by rfl) :
    PI X (.Tuple elts kk tpos) (.Call (.Name "zip" p) [e, e2] [] pos) (iZipM K ta) := by
  subst hKK
  refine ⟨fun pins s σ H R I h => ?_⟩
  refine Call_ (ld_blt I hg hm PyProof.Rows.boot_zip (PyProof.Rows.callWith_type1 (thn (ha.run pos pins s σ H _ I h) fun us s1 ⟨vs, H1, I1, r1, q1⟩ => ?_) hs hpl))
  obtain ⟨a, b, xs, ys, ex, hqx, hqy, q⟩ := q1
  subst ex
  cases r1 with
  | cons r rr =>
    cases rr with
    | cons r' rr =>
      cases rr
      cases r
      cases r'
      obtain ⟨its, rv, p1, _⟩ := I1.tuple hqx
      obtain ⟨its2, rv2, p2, _⟩ := I1.list hqy
      obtain ⟨o1, ho1, _⟩ := id p1
      refine zip_begins2 (begins_tuple a its.toArray) (begins_list b its2.toArray) (show s1.heap.IsTuple a its.toArray from p1) p2.isList fun h' hz hTI hTO h1 h2 hsz hk => wpAny_pyIter_zip hz ?_
      have I2 : Inv X pins σ H1 { s1 with heap := h' } := I1.kept (t' := s1.toks) hk
      have C : Cells (s1.heap.objs.size + 4) (s1.heap.objs.size + 2) (s1.heap.objs.size + 3) s1.heap.objs.size (s1.heap.objs.size + 1) := by
        constructor <;> (intro e; have e : (_ : Nat) = _ := e; omega)
      have hTa : (s1.heap.objs.size + 3 : Nat) ≠ a := Nat.ne_of_gt (Nat.lt_of_lt_of_le (Heap.lt_size ho1) (Nat.le_add_right _ _))
      refine ⟨s1.heap.objs.size + 4, [s1.heap.objs.size + 4, s1.heap.objs.size + 2, s1.heap.objs.size + 3, s1.heap.objs.size, s1.heap.objs.size + 1], _, _, H1, rfl, I2, turn_zipM C hTa, ⟨hz, hTI, ⟨_, _, hTO⟩, ⟨_, h1, rfl, rfl⟩, ⟨_, h2, rfl, rfl⟩⟩, fun c hcm => ?_, q⟩
      have e' : c = s1.heap.objs.size + 4 ∨ c = s1.heap.objs.size + 2 ∨ c = s1.heap.objs.size + 3 ∨ c = s1.heap.objs.size ∨ c = s1.heap.objs.size + 1 := by simpa using hcm
      have hle : s1.heap.objs.size ≤ c := by
        rcases e' with rfl | rfl | rfl | rfl | rfl
        · exact Nat.le_add_right _ _
        · exact Nat.le_add_right _ _
        · exact Nat.le_add_right _ _
        · exact Nat.le_refl _
        · exact Nat.le_add_right _ _
      exact I1.fpOk hle (I1.hok.fresh hle)
end Ea
set_option Elab.async false
set_option linter.all false
set_option maxRecDepth 100000
set_option maxHeartbeats 400000
/-! Comprehensions over pairs, where nothing else is changed. -/
namespace Ea
open PySem PySem.Spec PyProof.Rows L2
section
variable {K : PySem.W.Frag} {σ : L2.St} {H : Hp} {Q : VK} {tt : TT} {te : TE} {vs : List Nat} {j1 j2 k : Nat} {σx : V → V → L2.St} {a b : Addr} {n : Nat} {px py : Nat → V} {f : Nat → Bool} {g : Nat → V} {J : It}
theorem range_snoc (f : Nat → Bool) (g : Nat → V) (i : Nat) : ((List.range (i + 1)).filter f).map g = ((List.range i).filter f).map g ++ (if f i = true then [g i] else []) := by
  rw [List.range_succ, List.filter_append, List.map_append]
  congr 1
  by_cases h : f i = true
  · rw [if_pos h, List.filter_cons, if_pos h] <;> rfl
  · rw [if_neg h, List.filter_cons, if_neg h] <;> rfl
abbrev TurnP (H : Hp) (tt : TT) (te : TE) (σx : V → V → L2.St) (px py : Nat → V) (f : Nat → Bool) (g : Nat → V) (i : Nat) : Prop :=
  ∀ (H' : Hp) (N : VK) (S : Hp → Prop), Evl.Ex H H' → (f i = true → ∀ H3, Evl.Ex H' H3 → N (g i) H3) → (f i = false → ∀ H3, Evl.Ex H' H3 → S H3) →
    tt (σx (px i) (py i)) H' fun b H2 => if b = true then te (σx (px i) (py i)) H2 N else S H2
theorem lc_pairs (hk : k = 2) (hz : n ≤ 40000) (go : ∀ i H', Evl.Ex H H' → i < n → J.go i H') (stop : ∀ H', Evl.Ex H H' → J.stop n H')
    (yld : ∀ i H1 x H2, Evl.Ex H H1 → i < n → J.yld i H1 x H2 → ∃ T, x = .ref T ∧ H1 T = none ∧ H2 = upd H1 T (.tup [px i, py i]))
    (hσ : ∀ x y, ((wipe σ vs).set j1 (some x)).set j2 (some y) = σx x y) (hw : ∀ x y, wipe (σx x y) vs = wipe σ vs)
    (hs : ∀ i, i < n → TurnP H tt te σx px py f g i)
    (hd : ∀ D H', Evl.Ex H H' → H D = none → H' D = some (.lst (((List.range n).filter f).map g)) → Q (.ref D) H') : LcR (gTup K k (gCons (gName j1) (gCons (gName j2) gNil))) tt te vs σ Q J H := fun D hn => by
  refine ⟨fun i m H' => i + m = n ∧ Evl.Ex H H' ∧ H' D = some (.lst (((List.range i).filter f).map g)), ⟨n, by omega, Evl.Ex.new hn, upd_same⟩, fun i m H' hW => ?_⟩
  obtain ⟨em, e, ed⟩ := hW
  have hlen : (((List.range i).filter f).map g).length < 100000 := by
    rw [List.length_map]
    have h1 := List.length_filter_le f (List.range i)
    rw [List.length_range] at h1
    omega
  by_cases hi : i < n
  · refine .inr ⟨go i H' e hi, fun H3 => Evl.Ex H H3 ∧ H3 D = some (.lst (((List.range (i + 1)).filter f).map g)), fun H3 h3 => ⟨m - 1, by omega, by omega, h3⟩, fun x H2 hy => ?_⟩
    obtain ⟨T, rfl, hT, rfl⟩ := yld i H' x H2 e hi hy
    have eT := Evl.Ex.new (o := .tup [px i, py i]) hT
    refine rd_gtup2 (x := px i) (y := py i) (SqT.of upd_same) hk (hσ _ _) ⟨hw _ _, hs i hi _ _ _ (e.trans eT) (fun hf H3 e3 => ?_) fun hf H3 e3 => ?_⟩
    · refine ⟨_, e3 D _ (eT D _ ed), Evl.sz_lt hlen, Evl.Ex.mut ((e.trans eT).trans e3) hn, ?_⟩
      rw [upd_same, range_snoc, if_pos hf]
    · refine ⟨(e.trans eT).trans e3, ?_⟩
      rw [range_snoc, if_neg (by rw [hf]; decide), List.append_nil]
      exact e3 D _ (eT D _ ed)
  · have hin : i = n := by omega
    subst hin
    exact .inl ⟨stop H' e, hd D H' e hn ed⟩
theorem lc_enumT {xs : List V} (hk : k = 2) (hx : SqT K H a xs) (hz : xs.length ≤ 40000) (hσ : ∀ x y, ((wipe σ vs).set j1 (some x)).set j2 (some y) = σx x y) (hw : ∀ x y, wipe (σx x y) vs = wipe σ vs)
    (f : Nat → Bool) (g : Nat → V) (hs : ∀ i, i < xs.length → TurnP H tt te σx (fun i => .int (i : Nat)) (fun i => xs.getD i .non) f g i)
    (hd : ∀ D H', Evl.Ex H H' → H D = none → H' D = some (.lst (((List.range xs.length).filter f).map g)) → Q (.ref D) H') : LcR (gTup K k (gCons (gName j1) (gCons (gName j2) gNil))) tt te vs σ Q (IteT K a) H :=
  lc_pairs hk hz (fun i H' e hi => ⟨xs, xs[i], Evl.ex_t e hx, List.getElem?_eq_getElem hi⟩) (fun H' e => ⟨xs, Evl.ex_t e hx, rfl⟩)
    (fun i H1 x H2 e hi hy => by
      obtain ⟨T, y, rfl, hT, rfl, h⟩ := hy
      have := h xs (Evl.ex_t e hx)
      refine ⟨T, rfl, hT, ?_⟩
      show _ = upd H1 T (.tup [.int (i : Nat), xs.getD i .non])
      rw [List.getD_eq_getElem?_getD, this] <;> rfl) hσ hw hs hd
theorem lc_enumL {xs : List V} (hk : k = 2) (hx : SqL K H a xs) (hz : xs.length ≤ 40000) (hσ : ∀ x y, ((wipe σ vs).set j1 (some x)).set j2 (some y) = σx x y) (hw : ∀ x y, wipe (σx x y) vs = wipe σ vs)
    (f : Nat → Bool) (g : Nat → V) (hs : ∀ i, i < xs.length → TurnP H tt te σx (fun i => .int (i : Nat)) (fun i => xs.getD i .non) f g i)
    (hd : ∀ D H', Evl.Ex H H' → H D = none → H' D = some (.lst (((List.range xs.length).filter f).map g)) → Q (.ref D) H') : LcR (gTup K k (gCons (gName j1) (gCons (gName j2) gNil))) tt te vs σ Q (Ite K a) H :=
  lc_pairs hk hz (fun i H' e hi => ⟨xs, xs[i], Evl.ex_l e hx, List.getElem?_eq_getElem hi⟩) (fun H' e => ⟨xs, Evl.ex_l e hx, Nat.le_refl _⟩)
    (fun i H1 x H2 e hi hy => by
      obtain ⟨T, y, rfl, hT, rfl, h⟩ := hy
      have := h xs (Evl.ex_l e hx)
      refine ⟨T, rfl, hT, ?_⟩
      show _ = upd H1 T (.tup [.int (i : Nat), xs.getD i .non])
      rw [List.getD_eq_getElem?_getD, this] <;> rfl) hσ hw hs hd
theorem lc_zipM {xs ys : List V} (hk : k = 2) (hx : SqT K H a xs) (hy : SqL K H b ys) (hl : xs.length = ys.length) (hz : xs.length ≤ 40000) (hσ : ∀ x y, ((wipe σ vs).set j1 (some x)).set j2 (some y) = σx x y) (hw : ∀ x y, wipe (σx x y) vs = wipe σ vs)
    (f : Nat → Bool) (g : Nat → V) (hs : ∀ i, i < xs.length → TurnP H tt te σx (fun i => xs.getD i .non) (fun i => ys.getD i .non) f g i)
    (hd : ∀ D H', Evl.Ex H H' → H D = none → H' D = some (.lst (((List.range xs.length).filter f).map g)) → Q (.ref D) H') : LcR (gTup K k (gCons (gName j1) (gCons (gName j2) gNil))) tt te vs σ Q (ItzM K a b) H :=
  lc_pairs hk hz (fun i H' e hi => ⟨xs, ys, xs[i], ys[i]'(hl ▸ hi), Evl.ex_t e hx, Evl.ex_l e hy, List.getElem?_eq_getElem hi, List.getElem?_eq_getElem (hl ▸ hi)⟩)
    (fun H' e => ⟨xs, ys, Evl.ex_t e hx, Evl.ex_l e hy, Nat.le_refl _, by omega, .inl rfl⟩)
    (fun i H1 x H2 e hi hq => by
      obtain ⟨T, u, v, rfl, hT, rfl, h1, h2⟩ := hq
      have q1 := h1 xs (Evl.ex_t e hx)
      have q2 := h2 ys (Evl.ex_l e hy)
      refine ⟨T, rfl, hT, ?_⟩
      show _ = upd H1 T (.tup [xs.getD i .non, ys.getD i .non])
      rw [List.getD_eq_getElem?_getD, q1, List.getD_eq_getElem?_getD, q2] <;> rfl) hσ hw hs hd
variable {R : It → Hp → Prop} {ta : TA}
theorem rd_iRng2 (h : ta σ H fun vs H1 => ∃ i j : Int, vs = [.int i, .int j] ∧ (-(2 ^ 62) ≤ i ∧ i < 2 ^ 62 ∧ -(2 ^ 62) ≤ j ∧ j < 2 ^ 62) ∧ R (Itr i (j - i).toNat) H1) : iRng2 ta σ H R := h
theorem rd_iEnumT (h : ta σ H fun vs H1 => ∃ a xs, vs = [.ref a] ∧ SqT K H1 a xs ∧ R (IteT K a) H1) : iEnumT K ta σ H R := h
theorem rd_iEnum (h : ta σ H fun vs H1 => ∃ a xs, vs = [.ref a] ∧ SqL K H1 a xs ∧ R (Ite K a) H1) : iEnum K ta σ H R := h
theorem rd_iZipM (h : ta σ H fun vs H1 => ∃ a b xs ys, vs = [.ref a, .ref b] ∧ SqT K H1 a xs ∧ SqL K H1 b ys ∧ R (ItzM K a b) H1) : iZipM K ta σ H R := h
end
section
variable {X : Cx} {K : PySem.W.Frag}
theorem pi_enumL (hKK : X.K = K) {e : Expr} {ta : TA} {p pos tpos : Pos} {elts : List Expr} {kk : Nat} (hg : L2.Gl X "enumerate") (hm : X.mg "enumerate" = none) (ha : PA X [e] ta) (hs : starEach [e] X.env = [(false, eval e X.env)] := by rfl) :
    PI X (.Tuple elts kk tpos) (.Call (.Name "enumerate" p) [e] [] pos) (iEnum K ta) := hKK ▸ pi_enum hg hm ha hs
theorem pgk_tup (hKK : X.K = K) {pos : Pos} {es : List Expr} {k : Nat} {t : TGs} {n : Nat} (hc : X.calm = true) (h : PGs X es t)
    (hn : (assignEach es X.env).length = n := by rfl) (hst : (assignEach es X.env).findIdx? (·.1) = none := by rfl) : PG X (.Tuple es k pos) (gTup K n t) := hKK ▸ pg_tup hc h hn hst
end
end Ea
set_option Elab.async false
set_option linter.all false
set_option maxRecDepth 100000
set_option maxHeartbeats 400000
/-! sorted by key=abs, a tuple whose object is known, dict of it, all, comprehensions and loops over tuples of pairs. -/
namespace Ea
open PySem PySem.Spec PyProof.Rows L2

/-! ### sorted(xs, key=abs) of a list of ints -/
def rSortAbs (K : PySem.W.Frag) : List V → Hp → VK → Prop := fun xs H Q => ∃ (a : Addr) (ns : List Int), xs = [.ref a] ∧ SqL K H a (ns.map V.int) ∧
  ∀ (ms : List Int) (p : Addr), ms.Perm ns → ms.Pairwise (fun x y => x.natAbs ≤ y.natAbs) → H p = none → Q (.ref p) (upd H p (.lst (ms.map V.int)))
theorem each_of_ints : ∀ {its : List Value} {ns : List Int}, Vals (ns.map V.int) its → PySem.W.EachIs (fun v x => ∃ t, v = Value.int x t) its ns
  | _, [], r => by
    cases r
    exact .nil
  | _, n :: ns, r => by
    rw [List.map_cons] at r
    cases r with
    | cons h t => exact .cons h (each_of_ints t)
theorem vals_of_each : ∀ {its : List Value} {ns : List Int}, PySem.W.EachIs (fun v x => ∃ t, v = Value.int x t) its ns → Vals (ns.map V.int) its
  | _, _, .nil => .nil
  | _, _, .cons h t => .cons h (vals_of_each t)
theorem sort_absK {X : Cx} {K : PySem.W.Frag} (hK : X.K = K) (hu : X.A.units + 64 < cLine) {pins : List (Addr × Obj)} {s : Shared} {σ : L2.St} {H : Hp} {xs : List V} {us : List Value} {Q : VK}
    (I : Inv X pins σ H s) (r : Vals xs us) (h : rSortAbs K xs H Q) : wpAny (model X.prog X.w) X.A (call (.builtin "sorted") us [(Str.ofString "key", .builtin "abs")]) (EP X pins σ Q) X.xe s := by
  subst hK
  obtain ⟨a, ns, rfl, hs, q⟩ := h
  rw [Vals.ref1 r]
  obtain ⟨its, rv, hl, hz⟩ := I.list hs
  have hlen : ns.length ≤ sizeLine := by
    rw [List.length_map] at hz
    exact hz
  refine PySem.W.sorted_key_data (β := Int) (R := fun v x => ∃ t, v = Value.int x t) (bs := ns) (b := false) (f := .builtin "abs") (fun n => .int (n.natAbs : Int)) hl.isList (each_of_ints rv) ?_ ?_ hlen (fun x _ => ?_)
    (PyProof.Rows.ksk_s1 _ _) (fun _ => PyProof.Rows.ksk_l1 _ _) (fun x => PyProof.Rows.ksk_t4 "abs" x) (fun v x hv hx h tk kp => ?_) fun out c h' tk kp hf hD ho he => ?_
  · intro d hd d' hd'
    obtain ⟨x, _, rfl⟩ := List.mem_map.mp hd
    obtain ⟨y, _, rfl⟩ := List.mem_map.mp hd'
    rfl
  · refine .inr fun d hd => ?_
    obtain ⟨x, _, rfl⟩ := List.mem_map.mp hd
    exact ⟨nofun, nofun⟩
  · have e : (PyData.int (x.natAbs : Int)).depth = 0 := rfl
    omega
  · obtain ⟨t, rfl⟩ := hv
    refine call_abs_int fun u tk' => ⟨h, tk', rfl, fun _ _ e => e, ?_⟩
    have e : (if x < 0 then -x else x) = (x.natAbs : Int) := by split <;> omega
    rw [e]
    exact .int _ _
  · rw [PySem.W.dataLe_int (β := Int) fun n => (n.natAbs : Int)] at he
    generalize hm : ns.mergeSort (fun a b => decide ((a.natAbs : Int) ≤ (b.natAbs : Int))) = ms at he
    have pm : ms.Perm ns := hm ▸ List.mergeSort_perm _ _
    have so : ms.Pairwise fun x y => x.natAbs ≤ y.natAbs := by
      rw [← hm]
      refine (List.pairwise_mergeSort (le := fun a b : Int => decide ((a.natAbs : Int) ≤ (b.natAbs : Int))) (fun a b c h1 h2 => ?_) (fun a b => ?_) ns).imp fun {a b} h => ?_
      · have := of_decide_eq_true h1
        have := of_decide_eq_true h2
        exact decide_eq_true (by omega)
      · rw [Bool.or_eq_true, decide_eq_true_eq, decide_eq_true_eq]
        omega
      · have := of_decide_eq_true h
        omega
    have hl2 : (ms.map V.int).length ≤ sizeLine := by
      rw [List.length_map, pm.length_eq]
      exact hlen
    exact ⟨.ref _, upd H (s.heap.objs.size + 1) (.lst (ms.map V.int)), I.laid (t' := tk) kp (Nat.le_succ _) ⟨hl2, out, c, vals_of_each he, hD⟩, rfl, q _ _ pm so (I.hok.fresh (Nat.le_succ _))⟩
theorem pe_sortAbs {X : Cx} {K : PySem.W.Frag} {e : Expr} {ta : TA} {p pos kpos apos : Pos} (hK : X.K = K) (hu : X.A.units + 64 < cLine) (hg : L2.Gl X "sorted") (hm : X.mg "sorted" = none) (hga : L2.Gl X "abs") (hma : X.mg "abs" = none) (ha : PA X [e] ta)
    (he : backTo pos (starEach [e] X.env) = (false, eval e X.env) :: backTo pos (starEach [] X.env) := by rfl) (hpl : (backTo pos (starEach [e] X.env)).any (·.1) = false := by rfl)
    (hall : (backToKw pos (keywordEach [⟨some "key", .Name "abs" apos, kpos⟩] X.env)).all (·.1.isSome) = true := by rfl) (hnone : (backToKw pos (keywordEach [⟨some "key", .Name "abs" apos, kpos⟩] X.env)).any (·.1.isNone) = false := by rfl) (hks : (backToKw pos (keywordEach [⟨some "key", .Name "abs" apos, kpos⟩] X.env)).filterMap (·.1) = [Str.ofString "key"] := by rfl) :
    PE X (.Call (.Name "sorted" p) [e] [⟨some "key", .Name "abs" apos, kpos⟩] pos) (tCB (rSortAbs K) ta) := by
  refine ⟨fun pins s σ H Q I h => ?_⟩
  refine wpAny_Call_Name_kw (ld_blt (u := .builtin "sorted") I hg hm rfl ?_)
  refine PyProof.Rows.callWith_kw (thn (ha.run pos pins s σ H _ I h) fun us s1 ⟨vs, H1, I1, r1, q1⟩ => ?_) he hpl hall hnone
  rw [hks]
  show wpAny _ _ (evalAll [do let v ← eval (.Name "abs" apos) X.env; standAt pos; pure v]) _ _ s1
  refine wpAny_evalAll_cons (wpAny_bind (ld_blt (u := .builtin "abs") I1 hga hma rfl (wpAny_bind (wpAny_standAt (wpAny_pure ?_)))))
  exact wpAny_evalAll_nil (sort_absK hK hu I1 r1 q1)
theorem rd_sortAbs {K : PySem.W.Frag} {H : Hp} {Q : VK} {a : Addr} {ns : List Int} (s : SqL K H a (ns.map V.int))
    (h : ∀ (ms : List Int) (p : Addr), ms.Perm ns → ms.Pairwise (fun x y => x.natAbs ≤ y.natAbs) → H p = none → Q (.ref p) (upd H p (.lst (ms.map V.int)))) : rSortAbs K [.ref a] H Q := ⟨a, ns, rfl, s, h⟩

/-! ### a tuple whose object is known -/
def Fz (H : Hp) (a : Addr) (xs : List V) : Prop := ∃ o, H a = some (.frz o (.tup xs)) ∧ o.dict = none
theorem Fz.sq {K : PySem.W.Frag} {H : Hp} {a : Addr} {xs : List V} (h : Fz H a xs) : SqT K H a xs := by
  obtain ⟨o, h, _⟩ := h
  exact .inl (.inr ⟨o, h⟩)
def rTupFz (K : PySem.W.Frag) : List V → Hp → VK → Prop := fun xs H Q => ∃ p ys, xs = [.ref p] ∧ SqL K H p ys ∧ ∀ (l : Addr) (o : Obj), H l = none → o.dict = none → Q (.ref l) (upd H l (.frz o (.tup ys)))
theorem c_tupFz {X : Cx} {K : PySem.W.Frag} (hK : X.K = K) : CallR X (.type "tuple") (rTupFz K) := by
  subst hK
  intro pins s σ H xs us Q I r h
  obtain ⟨p, ys, rfl, hq, q⟩ := h
  obtain ⟨u, rfl, rx⟩ := vals1 r
  cases rx
  obtain ⟨its, r', pl, hz⟩ := I.list hq
  have hlen := r'.length
  refine call_tuple_list pl.isList (fun h' kp => ?_) (by simp only [List.size_toArray] <;> omega)
  have I1 : Inv X pins σ H { s with heap := h' } := I.kept (t' := s.toks) kp
  have I2 : Inv X pins σ (upd H h'.objs.size (.frz { cls := .type "tuple", data := .seq its.toArray } (.tup ys))) { s with heap := h'.push { cls := .type "tuple", data := .seq its.toArray } } :=
    I1.laid (t' := s.toks) (fun b o e => Heap.get?_push_of_some _ e) (Nat.le_refl _) (show ObjOk X.prog X.w _ _ _ (.frz _ (.tup ys)) from ⟨Heap.get?_push_size _ rfl, hz, its, r', IsTup.new _ _⟩)
  exact ⟨.ref h'.objs.size, _, I2, rfl, q _ _ (I1.hok.fresh (Nat.le_refl _)) rfl⟩
theorem rd_tupFz {K : PySem.W.Frag} {H : Hp} {Q : VK} {p : Addr} {ys : List V} (s : SqL K H p ys) (h : ∀ (l : Addr) (o : Obj), H l = none → o.dict = none → Q (.ref l) (upd H l (.frz o (.tup ys)))) : rTupFz K [.ref p] H Q := ⟨p, ys, rfl, s, h⟩

/-! ### dict of such a tuple of pairs -/
def rDictFz (K : PySem.W.Frag) : List V → Hp → VK → Prop := fun xs H Q => ∃ (a : Addr) (ps : List Addr) (kvs : List (Key × V)), xs = [.ref a] ∧ Fz H a (ps.map V.ref) ∧ Paired (fun p kv => SqT K H p [kV kv.1, kv.2]) ps kvs ∧
    ∀ p, H p = none → Q (.ref p) (upd H p (.dK (mergeK [] kvs)))
theorem c_dictFz {X : Cx} {K : PySem.W.Frag} (hK : X.K = K) (hcalm : X.calm = true) : CallR X (.type "dict") (rDictFz K) := by
  subst hK
  intro pins s σ H xs us Q I r q
  obtain ⟨a, ps, kvs, ex, ⟨o, ho, hod⟩, hp, q⟩ := q
  subst ex
  obtain ⟨u, eu, rx⟩ := vals1 r
  subst eu
  cases rx
  obtain ⟨hoa, hz, its, rv, pl⟩ := I.hok a _ ho
  have ei := refs_at rv
  subst ei
  rw [List.length_map] at hz
  obtain ⟨prs, rel, hl, hpr⟩ := pairs_of I hp
  obtain ⟨o2, ho2, hc, n, hdat⟩ := pl
  rw [hoa] at ho2
  cases ho2
  have hps : (prs.map fun q => ((default : Value), q.2)).length = prs.length := List.length_map _
  have hun : ∀ (j : Nat) (q : Key × Value), prs[j]? = some q → ∃ (b : Addr) (u : Value), ps[j]? = some b ∧ IsTup s.heap b #[u, q.2] ∧ keyIs q.1 u = true := hpr
  -- the pairs as values
  have hex : ∃ pv : List (Value × Value), pv.length = prs.length ∧ ∀ (j : Nat) (k v : Value), pv[j]? = some (k, v) → ∃ b q, prs[j]? = some q ∧ q.2 = v ∧ ps[j]? = some b ∧ IsTup s.heap b #[k, v] ∧ keyIs q.1 k = true := by
    clear rel hps
    have key : ∀ (m : Nat), m ≤ prs.length → ∃ pv : List (Value × Value), pv.length = m ∧ ∀ (j : Nat) (k v : Value), pv[j]? = some (k, v) → ∃ b q, prs[j]? = some q ∧ q.2 = v ∧ ps[j]? = some b ∧ IsTup s.heap b #[k, v] ∧ keyIs q.1 k = true := by
      intro m
      induction m with
      | zero => exact fun _ => ⟨[], rfl, fun j k v e => by simp at e⟩
      | succ m ih =>
        intro hm
        obtain ⟨pv, e1, e2⟩ := ih (by omega)
        have hj : prs[m]? = some prs[m] := List.getElem?_eq_getElem (by omega)
        obtain ⟨b, u, h1, h2, h3⟩ := hun m _ hj
        refine ⟨pv ++ [(u, prs[m].2)], by rw [List.length_append, e1] <;> rfl, fun j k v e => ?_⟩
        by_cases c : j < m
        · rw [List.getElem?_append_left (by omega)] at e
          exact e2 j k v e
        · rw [List.getElem?_append_right (by omega), e1] at e
          have : j = m := by
            have := (List.getElem?_eq_some_iff.mp e).1
            rw [List.length_singleton] at this
            omega
          subst this
          rw [Nat.sub_self] at e
          cases Option.some.inj e
          exact ⟨b, prs[j], hj, rfl, h1, h2, h3⟩
    exact key _ (Nat.le_refl _)
  obtain ⟨pv, hpv, hpv2⟩ := hex
  have P := PySem.PairArg.tuple (prog := X.prog) (w := X.w) a (ps.map Value.ref).toArray (fun j => ps.getD j 0) pv
  refine PySem.call_dict_pairs (knd := mixKind X.prog X.w) (kvs := prs) P (I.ok.hd hcalm) ⟨⟨o, n, hoa, hc, hod, hdat⟩, ?_, ?_⟩ ⟨hpv.symm, ?_⟩ (by rw [hpv, hl]; exact hz) fun h' tk hd' k => ?_
  · rw [List.size_toArray, List.length_map, hpv, hl]
  · intro j k v e
    obtain ⟨b, q2, h1, h2, h3, h4, h5⟩ := hpv2 j k v e
    have e3 : ps.getD j 0 = b := by rw [List.getD_eq_getElem?_getD, h3] <;> rfl
    refine ⟨by show (ps.map Value.ref).toArray[j]? = some (Value.ref (ps.getD j 0)); rw [e3]; simp [h3], .inl ?_⟩
    show s.heap.IsTuple (ps.getD j 0) #[k, v]
    rw [e3]
    exact h4
  · intro j k v e
    obtain ⟨b, q2, h1, h2, h3, h4, h5⟩ := hpv2 j k v e
    exact ⟨q2.1, by rw [h1, ← h2], h5⟩
  · have hm : (s.heap.objs.size == sysModules) = false := beq_eq_false_iff_ne.mpr (Nat.ne_of_gt I.big)
    have hlen : (mergeK [] kvs).length ≤ sizeLine := by
      refine Nat.le_trans (length_mergeK kvs []) ?_
      rw [List.length_nil, Nat.zero_add, rel.length, hl]
      exact hz
    exact ⟨.ref s.heap.objs.size, upd H s.heap.objs.size (.dK (mergeK [] kvs)), I.laid (t' := tk) (fun b o e => k b o (fun h => nomatch h) e) (Nat.le_refl _) (show ObjOk X.prog X.w _ _ _ (.dK (mergeK [] kvs)) from ⟨hlen, hm, merged [] prs, KV.merge rel .nil, hd'⟩), rfl, q _ (I.hok.fresh (Nat.le_refl _))⟩
theorem rd_dictFz {K : PySem.W.Frag} {H : Hp} {Q : VK} {a : Addr} {ps : List Addr} {kvs : List (Key × V)} (s : Fz H a (ps.map V.ref)) (hp : Paired (fun p kv => SqT K H p [kV kv.1, kv.2]) ps kvs)
    (h : ∀ p, H p = none → Q (.ref p) (upd H p (.dK (mergeK [] kvs)))) : rDictFz K [.ref a] H Q := ⟨a, ps, kvs, rfl, s, hp, h⟩

/-! ### all -/
theorem c_all {X : Cx} {K : PySem.W.Frag} (h : X.K = K) (hc : X.calm = true) : CallR X (.builtin "all") (rAll K) := h ▸ cr_all hc
theorem c_any {X : Cx} {K : PySem.W.Frag} (h : X.K = K) (hc : X.calm = true) : CallR X (.builtin "any") (rAny K) := h ▸ cr_any hc
theorem rd_all {K : PySem.W.Frag} {H : Hp} {Q : VK} {a : Addr} {bs : List Bool} (s : SqL K H a (bs.map V.bl)) (h : Q (.bl (bs.all id)) H) : rAll K [.ref a] H Q := ⟨a, bs, rfl, s, h⟩
theorem rd_any {K : PySem.W.Frag} {H : Hp} {Q : VK} {a : Addr} {bs : List Bool} (s : SqL K H a (bs.map V.bl)) (h : Q (.bl (bs.any id)) H) : rAny K [.ref a] H Q := ⟨a, bs, rfl, s, h⟩

/-! ### repr of an int -/
def rReprI : List V → Hp → VK → Prop := fun xs H Q => ∃ i : Int, xs = [.int i] ∧ i.natAbs.log2 < 1920 ∧ Q (.str (toString i)) H
theorem c_reprI {X : Cx} : CallR X (.builtin "repr") rReprI := SkE.call_repr_int
theorem rd_reprI {i : Int} {H : Hp} {Q : VK} (h1 : i.natAbs < 10 ^ 12) (h : Q (.str (toString i)) H) : rReprI [.int i] H Q := ⟨i, rfl, log2_small h1, h⟩

/-! ### data without lists stay where tuples stay -/
mutual
def noL : PyData → Bool
  | .list _ => false
  | .dict _ => false
  | .tuple ds => noLs ds
  | _ => true
def noLs : List PyData → Bool
  | [] => true
  | d :: ds => noL d && noLs ds
end
mutual
theorem dp_mono {K : PySem.W.Frag} {H H' : Hp} (e : ∀ a xs, SqT K H a xs → SqT K H' a xs) : ∀ (d : PyData) (v : V), noL d = true → Dp K H v d → Dp K H' v d
  | .none, _, _, h => by cases h; exact .non
  | .bool b, _, _, h => by cases h; exact .bl b
  | .int i, _, _, h => by cases h; exact .int i
  | .str x, _, _, h => by cases h; exact .str x
  | .list _, _, c, _ => nomatch c
  | .tuple ds, _, c, h => by
    cases h with
    | tup hs ha => exact .tup (e _ _ hs) (dps_mono e ds _ c ha)
  | .dict _, _, c, _ => nomatch c
theorem dps_mono {K : PySem.W.Frag} {H H' : Hp} (e : ∀ a xs, SqT K H a xs → SqT K H' a xs) : ∀ (ds : List PyData) (vs : List V), noLs ds = true → DpAll K H vs ds → DpAll K H' vs ds
  | [], _, _, h => by cases h; exact .nil
  | d :: ds, _, c, h => by
    have c2 : noL d = true ∧ noLs ds = true := Bool.and_eq_true _ _ ▸ c
    cases h with
    | cons h1 h2 => exact .cons (dp_mono e d _ c2.1 h1) (dps_mono e ds _ c2.2 h2)
end
theorem noLs_all : ∀ {ds : List PyData}, (∀ d ∈ ds, noL d = true) → noLs ds = true
  | [], _ => rfl
  | d :: ds, h => by
    show (noL d && noLs ds) = true
    rw [h d List.mem_cons_self, noLs_all fun x hx => h x (List.mem_cons_of_mem _ hx)] <;> rfl

/-! ### walks over tuples of pairs -/
section
variable {K : PySem.W.Frag} {σ : L2.St} {H : Hp} {Q : VK} {tt : TT} {te : TE} {tb : TS} {D : Ends} {vs : List Nat} {j1 j2 k : Nat} {σx : V → V → L2.St} {a : Addr} {px py : Nat → V} {f : Nat → Bool} {g : Nat → V}
theorem lc_prT {xs : List V} (hk : k = 2) (hx : SqT K H a xs) (hz : xs.length ≤ 40000) (hp : ∀ i, i < xs.length → ∃ T, xs[i]? = some (.ref T) ∧ SqT K H T [px i, py i])
    (hσ : ∀ x y, ((wipe σ vs).set j1 (some x)).set j2 (some y) = σx x y) (hw : ∀ x y, wipe (σx x y) vs = wipe σ vs) (hs : ∀ i, i < xs.length → TurnP H tt te σx px py f g i)
    (hd : ∀ D H', Evl.Ex H H' → H D = none → H' D = some (.lst (((List.range xs.length).filter f).map g)) → Q (.ref D) H') : LcR (gTup K k (gCons (gName j1) (gCons (gName j2) gNil))) tt te vs σ Q (Itt K a) H := fun D hn =>
  lc_tup (xs := xs) (fun i H' => Evl.Ex H H' ∧ H' D = some (.lst (((List.range i).filter f).map g))) ⟨Evl.Ex.new hn, upd_same⟩ (fun i H' _ ⟨ex, _⟩ => Evl.ex_t ex hx) (fun i x H' hi p => by
    obtain ⟨e, ed⟩ := p
    have hil := (List.getElem?_eq_some_iff.mp hi).1
    obtain ⟨T, hT, sT⟩ := hp i hil
    rw [hT] at hi
    cases hi
    have hlen : (((List.range i).filter f).map g).length < 100000 := by
      rw [List.length_map]
      have h1 := List.length_filter_le f (List.range i)
      rw [List.length_range] at h1
      omega
    refine rd_gtup2 (x := px i) (y := py i) (Evl.ex_t e sT) hk (hσ _ _) ⟨hw _ _, hs i hil _ _ _ e (fun hf H3 e3 => ?_) fun hf H3 e3 => ?_⟩
    · refine ⟨_, e3 D _ ed, Evl.sz_lt hlen, Evl.Ex.mut (e.trans e3) hn, ?_⟩
      rw [upd_same, range_snoc, if_pos hf]
    · refine ⟨e.trans e3, ?_⟩
      rw [range_snoc, if_neg (by rw [hf]; decide), List.append_nil]
      exact e3 D _ ed) fun H' p => hd D H' p.1 hn p.2
theorem fr_tupP {xs : List V} {px py : Nat → V} (hk : k = 2) (Pv : Nat → L2.St → Hp → Prop) (h0 : Pv 0 σ H) (hl : ∀ i σ H, i ≤ xs.length → Pv i σ H → SqT K H a xs)
    (hs : ∀ i σ H, i < xs.length → Pv i σ H → ∃ T, xs[i]? = some (.ref T) ∧ SqT K H T [px i, py i] ∧ tb { D with nx := Pv (i + 1), ct := Pv (i + 1), bk := D.nx } ((σ.set j1 (some (px i))).set j2 (some (py i))) H) (hd : ∀ σ H, Pv xs.length σ H → D.nx σ H) :
    ForR (gTup K k (gCons (gName j1) (gCons (gName j2) gNil))) tb D σ (Itt K a) H := for_tup Pv h0 hl (fun i x σ H hi p => by
      obtain ⟨T, hT, sT, q⟩ := hs i σ H (List.getElem?_eq_some_iff.mp hi).1 p
      rw [hT] at hi
      cases hi
      exact rd_gtup2 sT hk rfl q) hd
/-- a comprehension over a range, nothing else being changed -/
theorem lc_fmR {lo : Int} {n j : Nat} {σx : V → L2.St} (f : Nat → Bool) (g : Nat → V) (hz : n ≤ 40000) (hσ : ∀ x, (wipe σ vs).set j (some x) = σx x) (hw : ∀ x, wipe (σx x) vs = wipe σ vs)
    (hs : ∀ i, i < n → ∀ (H' : Hp) (N : VK) (S : Hp → Prop), Evl.Ex H H' → (f i = true → ∀ H3, Evl.Ex H' H3 → N (g i) H3) → (f i = false → ∀ H3, Evl.Ex H' H3 → S H3) →
      tt (σx (.int (lo + i))) H' fun b H2 => if b = true then te (σx (.int (lo + i))) H2 N else S H2)
    (hd : ∀ D H', Evl.Ex H H' → H D = none → H' D = some (.lst (((List.range n).filter f).map g)) → Q (.ref D) H') : LcR (gName j) tt te vs σ Q (Itr lo n) H := fun D hn =>
  lc_range (fun i H' => Evl.Ex H H' ∧ H' D = some (.lst (((List.range i).filter f).map g))) ⟨Evl.Ex.new hn, upd_same⟩ (fun i H' hi p => by
    obtain ⟨e, ed⟩ := p
    have hlen : (((List.range i).filter f).map g).length < 100000 := by
      rw [List.length_map]
      have h1 := List.length_filter_le f (List.range i)
      rw [List.length_range] at h1
      omega
    rw [show gName j (.int (lo + i)) (wipe σ vs) H' = fun N => N (σx (.int (lo + i))) H' from funext fun N => by rw [← hσ (.int (lo + i))] <;> rfl]
    refine ⟨hw _, hs i hi _ _ _ e (fun hf H3 e3 => ?_) fun hf H3 e3 => ?_⟩
    · refine ⟨_, e3 D _ ed, Evl.sz_lt hlen, Evl.Ex.mut (e.trans e3) hn, ?_⟩
      rw [upd_same, range_snoc, if_pos hf]
    · refine ⟨e.trans e3, ?_⟩
      rw [range_snoc, if_neg (by rw [hf]; decide), List.append_nil]
      exact e3 D _ ed) fun H' p => hd D H' p.1 hn p.2
end
end Ea
set_option Elab.async false
set_option linter.all false
set_option maxRecDepth 100000
set_option maxHeartbeats 1000000
/-! enumerate of a text; list of a dict; walks over a locked dict's keys; triples. -/
namespace Ea
open PySem PySem.Spec PyProof.Rows L2
/-- the text z, each sign in a new pair -/
def IteS (z : Str) : It :=
  ⟨fun i _ => i < z.cps.size, fun i H v H' => ∃ T c, v = .ref T ∧ H T = none ∧ H' = upd H T (.tup [.int (i : Nat), .str ⟨#[c]⟩]) ∧ z.cps[i]? = some c, fun i _ => i = z.cps.size⟩
theorem turn_enumS {P : Program} {w : World} {K : PySem.W.Frag} {elts : List Expr} {kk : Nat} {tpos : Pos} (z : Str) (tz : Tok) (e it : Addr) :
    L2.Turn P w K (.Tuple elts kk tpos) (IteS z) [e, it] e (fun i h => (∃ old, IsEnum h e it ((i : Nat) : Int) old) ∧ h.IsStrIter it (strIterType z) z tz i ∧ e ≠ it) where
  mem := by simp
  obj := fun i h st b hb => by
    obtain ⟨⟨old, he⟩, ⟨o, ho, hc, hd⟩, _⟩ := st
    have e' : b = e ∨ b = it := by simpa using hb
    rcases e' with rfl | rfl
    · exact ⟨_, he, fun v q => nomatch q⟩
    · exact ⟨o, ho, fun v q => by rw [hd] at q; cases q⟩
  keep := fun i h h' st k => let ⟨⟨old, he⟩, hi, hne⟩ := st; ⟨⟨old, k e (by simp) _ he⟩, let ⟨o, ho, r⟩ := hi; ⟨o, k it (by simp) o ho, r⟩, hne⟩
  item := by
    intro X hP hw hK hc i pins s σ H E I hf st hg
    subst hP hw hK
    obtain ⟨⟨old, he⟩, hit, hne⟩ := st
    have hg : i < z.cps.size := hg
    obtain ⟨oi, hoi, hci, _⟩ := id hit
    have hel : e < s.heap.objs.size := Heap.lt_size he
    have hil : it < s.heap.objs.size := Heap.lt_size hoi
    refine wpAny_pyNext_enum_itemD (Draws.text (prog := X.prog) (w := X.w) (A := X.A.in1) (I.ok.hd hc) it z tz) he hit hg hne (by simp [hne]) fun x' h' tk hP ho st' hT hsz hk => ?_
    obtain ⟨c, u, hcx, rfl⟩ := hP
    refine ⟨_, rfl, wpAny_letOwnedTupleGo_enum (s := { s with heap := h', toks := tk + 1 }) ho fun h'' he' sb => ?_⟩
    have hT2 : h''.get? s.heap.objs.size = some { cls := .type "tuple", data := .seq #[.int i tk, .str ⟨#[c]⟩ u] } := (sb.2 _ (Nat.ne_of_gt hel)).trans hT
    have new : ObjOk X.prog X.w (upd H s.heap.objs.size (.tup [.int (i : Nat), .str ⟨#[c]⟩])) h'' s.heap.objs.size (.tup [.int (i : Nat), .str ⟨#[c]⟩]) :=
      ⟨by show 2 ≤ sizeLine; decide, [.int i tk, .str ⟨#[c]⟩ u], .cons ⟨_, rfl⟩ (.cons ⟨_, rfl⟩ .nil), ⟨_, hT2, rfl, _, rfl⟩⟩
    have I1 : Inv X pins σ (upd H s.heap.objs.size (.tup [.int (i : Nat), .str ⟨#[c]⟩])) { s with heap := h'', toks := tk + 1 } :=
      I.turnedNew (ch := [e, it]) (fun b ob hb q => (sb.2 b (fun z => hb (by simp [z]))).trans (hk b ob (fun z => hb (by simp [z])) (fun z => hb (by simp [z])) q)) hf (Nat.le_refl _) new
    refine ⟨.ref s.heap.objs.size, _, I1, rfl, ⟨_, c, rfl, I.hok.fresh (Nat.le_refl _), rfl, hcx⟩, ⟨⟨.str ⟨#[c]⟩ u, ?_⟩, (let ⟨o, ho, r⟩ := st'; ⟨o, (sb.2 it (Ne.symm hne)).trans ho, r⟩), hne⟩, fun b hb => ?_⟩
    · have e1 : ((i + 1 : Nat) : Int) = (i : Int) + 1 := by omega
      rw [e1]
      exact he'
    · have hb' : b < s.heap.objs.size := by
        have e' : b = e ∨ b = it := by simpa using hb
        rcases e' with rfl | rfl
        · exact hel
        · exact hil
      rw [upd_ne (Nat.ne_of_lt hb')]
      exact (hf b hb).1
  done := by
    intro X hP hw hK hc i pins s σ H E I hf st hg
    subst hP hw hK
    obtain ⟨⟨old, he⟩, hit, hne⟩ := st
    have hg : i = z.cps.size := hg
    obtain ⟨f0, f1, f2, f3, f4, f5⟩ := hf it (by simp)
    exact wpAny_pyNext_enum_endD (Draws.text (prog := X.prog) (w := X.w) (A := X.A.in1) (I.ok.hd hc) it z tz) he (hg ▸ hit) fun h' eb => ⟨rfl, I.turned (t' := s.toks) (fun b o hb q => eb b o hb q) f0 f1 f3 f4 f5⟩
  self := fun A i s Q E st h => let ⟨⟨_, he⟩, _⟩ := st; wpAny_pyIter_enum he h
def iEnumS (ta : TA) : TI := fun σ H R => ta σ H fun vs H1 => ∃ z, vs = [.str z] ∧ R (IteS z) H1
theorem pi_enumS {X : Cx} {e : Expr} {ta : TA} {p pos tpos : Pos} {elts : List Expr} {kk : Nat} (hg : L2.Gl X "enumerate") (hm : X.mg "enumerate" = none) (ha : PA X [e] ta) (hs : starEach [e] X.env = [(false, eval e X.env)] := by rfl) :
    PI X (.Tuple elts kk tpos) (.Call (.Name "enumerate" p) [e] [] pos) (iEnumS ta) := by
  refine ⟨fun pins s σ H R I h => ?_⟩
  refine Call_ (ld_blt I hg hm boot_enumerate (PyProof.Rows.callWith_type1 (thn (ha.run pos pins s σ H _ I h) fun us s1 ⟨vs, H1, I1, r1, q1⟩ => ?_) hs rfl))
  obtain ⟨z, ex, q⟩ := q1
  subst ex
  cases r1 with
  | cons r rr =>
    cases rr
    obtain ⟨tz, rfl⟩ := r
    refine call_enum1 (begins_text z tz) True.intro fun h' he hit hk => wpAny_pyIter_enum he ?_
    have I2 : Inv X pins σ H1 { s1 with heap := h' } := I1.kept (t' := s1.toks) hk
    refine ⟨s1.heap.objs.size + 1, [s1.heap.objs.size + 1, s1.heap.objs.size], _, _, H1, rfl, I2, turn_enumS z tz (s1.heap.objs.size + 1) s1.heap.objs.size, ⟨⟨.none, he⟩, ⟨_, hit, rfl, rfl⟩, Nat.succ_ne_self _⟩, fun b hb => ?_, q⟩
    have e' : b = s1.heap.objs.size + 1 ∨ b = s1.heap.objs.size := by simpa using hb
    have hle : s1.heap.objs.size ≤ b := by
      rcases e' with rfl | rfl
      · exact Nat.le_add_right _ _
      · exact Nat.le_refl _
    exact I1.fpOk hle (I1.hok.fresh hle)
theorem rd_iEnumS {ta : TA} {R : It → Hp → Prop} {σ : L2.St} {H : Hp} (h : ta σ H fun vs H1 => ∃ z, vs = [.str z] ∧ R (IteS z) H1) : iEnumS ta σ H R := h
section
variable {K : PySem.W.Frag} {σ : L2.St} {H : Hp} {Q : VK} {tt : TT} {te : TE} {vs : List Nat} {j1 j2 k : Nat} {σx : V → V → L2.St} {a b : Addr} {n : Nat} {px py : Nat → V} {f : Nat → Bool} {g : Nat → V} {J : It}
theorem lc_enumS {z : Str} (hk : k = 2) (hz : z.cps.size ≤ 40000) (hσ : ∀ x y, ((wipe σ vs).set j1 (some x)).set j2 (some y) = σx x y) (hw : ∀ x y, wipe (σx x y) vs = wipe σ vs)
    (f : Nat → Bool) (g : Nat → V) (hs : ∀ i, i < z.cps.size → TurnP H tt te σx (fun i => .int (i : Nat)) (fun i => .str ⟨#[z.cps.toList.getD i 0]⟩) f g i)
    (hd : ∀ D H', Evl.Ex H H' → H D = none → H' D = some (.lst (((List.range z.cps.size).filter f).map g)) → Q (.ref D) H') : LcR (gTup K k (gCons (gName j1) (gCons (gName j2) gNil))) tt te vs σ Q (IteS z) H :=
  lc_pairs hk hz (fun i H' e hi => hi) (fun H' e => rfl)
    (fun i H1 x H2 e hi hy => by
      obtain ⟨T, c, rfl, hT, rfl, h⟩ := hy
      refine ⟨T, rfl, hT, ?_⟩
      show _ = upd H1 T (.tup [.int (i : Nat), .str ⟨#[z.cps.toList.getD i 0]⟩])
      have e : z.cps.toList.getD i 0 = c := by
        rw [List.getD_eq_getElem?_getD, Array.getElem?_toList, h] <;> rfl
      rw [e]) hσ hw hs hd
end

/-! ### list of a dict with ints for keys -/
def KeysI (kvs : List (Key × V)) (ks : List Int) : Prop := kvs.map (·.1) = ks.map Sum.inl
def rListD : List V → Hp → VK → Prop := fun xs H Q => ∃ (a : Addr) (kvs : List (Key × V)) (ks : List Int), xs = [.ref a] ∧ Rd H a (.dK kvs) ∧ KeysI kvs ks ∧ ∀ p : Addr, H p = none → Q (.ref p) (upd H p (.lst (ks.map V.int)))
theorem c_listD {X : Cx} (hcalm : X.calm = true) : CallR X (.type "list") rListD := by
  intro pins s σ H xs us Q I r q
  obtain ⟨a, kvs, ks, ex, hd, hks, q⟩ := q
  subst ex
  obtain ⟨u, eu, rx⟩ := vals1 r
  subst eu
  cases rx
  obtain ⟨z, lo, vs, rel, dd⟩ := dk_rd I.hok hd
  obtain ⟨ep, hat⟩ := dd.dictAt
  have hkeys : vs.map (·.1) = ks.map Sum.inl := rel.keys.symm.trans hks
  have hl : vs.length = ks.length := by
    have e := congrArg List.length hkeys
    rw [List.length_map, List.length_map] at e
    exact e
  have h16 : vs.length ≤ sizeLine := by
    rw [← rel.length]
    exact z
  refine PySem.W.kdl_call (PySem.W.kdl_dict (knd := mixKind X.prog X.w) (kvs := vs) (ep := ep) lo) (I.ok.hd hcalm) hat h16 fun h' tk acc c' hk hS hacc => ?_
  have hal : acc.toList.length = ks.length := by rw [Array.length_toList, hacc.1, hl]
  have hI : IntsAre acc.toList ks := ints_each hal fun j v e => by
    obtain ⟨k, x, e1, e2⟩ := hacc.2 j v (by rw [← Array.getElem?_toList]; exact e)
    have e3 : (vs.map (·.1))[j]? = some k := by rw [List.getElem?_map, e1]; rfl
    rw [hkeys, List.getElem?_map] at e3
    cases e4 : ks[j]? with
    | none => rw [e4] at e3; cases e3
    | some y =>
      rw [e4] at e3
      have e5 : Sum.inl y = k := Option.some.inj e3
      subst e5
      rcases keyIs_shape (show keyIs (Sum.inl y) v = true from e2) with ⟨i, t, ek, ev⟩ | ⟨z, t, ek, ev⟩
      · cases ek
        exact ⟨y, t, rfl, ev⟩
      · cases ek
  refine ⟨.ref s.heap.objs.size, upd H s.heap.objs.size (.lst (ks.map V.int)), I.laid (t' := tk) hk (Nat.le_refl _)
    (show ObjOk X.prog X.w _ _ _ (.lst (ks.map V.int)) from ⟨by rw [List.length_map, ← hl]; exact h16, acc.toList, c', vals_of_ints hI, by rw [Array.toArray_toList]; exact hS⟩), rfl, q _ (I.hok.fresh (Nat.le_refl _))⟩
theorem rd_listD {H : Hp} {Q : VK} {a : Addr} {kvs : List (Key × V)} {ks : List Int} (h : H a = some (.dK kvs)) (hk : KeysI kvs ks) (q : ∀ p : Addr, H p = none → Q (.ref p) (upd H p (.lst (ks.map V.int)))) : rListD [.ref a] H Q := ⟨a, kvs, ks, rfl, .inl h, hk, q⟩

/-! ### keys of a dict -/
theorem rd_din {ty td : TE} {σ : L2.St} {H : Hp} {Q : VK} (h : ty σ H fun y H1 => td σ H1 fun x H2 => ∃ a o, x = .ref a ∧ DGet H2 a y o ∧ Q (.bl o.isSome) H2) : tDIn ty td σ H Q := h
theorem rd_dnotin {ty td : TE} {σ : L2.St} {H : Hp} {Q : VK} (h : ty σ H fun y H1 => td σ H1 fun x H2 => ∃ a o, x = .ref a ∧ DGet H2 a y o ∧ Q (.bl (!o.isSome)) H2) : tDNotIn ty td σ H Q := h
theorem val_some {kvs : List (Key × V)} {ks : List Int} {x : Int} (h : KeysI kvs ks) : (valV kvs (Sum.inl x)).isSome = decide (x ∈ ks) := by
  unfold valV
  rw [Option.isSome_map]
  have key : (kvs.find? fun kv => decide (kv.1 = Sum.inl x)).isSome = true ↔ x ∈ ks := by
    rw [List.find?_isSome]
    constructor
    · rintro ⟨kv, hm, e⟩
      have e2 : kv.1 = Sum.inl x := of_decide_eq_true e
      have h1 : kv.1 ∈ ks.map Sum.inl := h ▸ List.mem_map_of_mem hm
      obtain ⟨y, hy, e3⟩ := List.mem_map.mp h1
      rw [e2] at e3
      cases e3
      exact hy
    · intro hx
      have h1 : (Sum.inl x : Key) ∈ kvs.map (·.1) := h ▸ List.mem_map_of_mem hx
      obtain ⟨kv, hm, e⟩ := List.mem_map.mp h1
      exact ⟨kv, hm, decide_eq_true e⟩
  by_cases c : x ∈ ks
  · rw [decide_eq_true c]
    exact key.mpr c
  · rw [decide_eq_false c]
    cases e : (kvs.find? fun kv => decide (kv.1 = Sum.inl x)).isSome with
    | false => rfl
    | true => exact absurd (key.mp e) c
theorem KeysI.nil : KeysI [] [] := rfl
theorem KeysI.len {kvs : List (Key × V)} {ks : List Int} (h : KeysI kvs ks) : kvs.length = ks.length := by
  have e := congrArg List.length h
  rw [List.length_map, List.length_map] at e
  exact e
/-- what stands among the keys when x is put -/
def putI (ks : List Int) (x : Int) : List Int := if x ∈ ks then ks else ks ++ [x]
theorem putI_mem {ks : List Int} {x y : Int} : y ∈ putI ks x ↔ y ∈ ks ∨ y = x := by
  unfold putI
  by_cases c : x ∈ ks
  · rw [if_pos c]
    exact ⟨.inl, fun h => h.elim id fun e => e ▸ c⟩
  · rw [if_neg c, List.mem_append, List.mem_singleton]
theorem putI_nodup {ks : List Int} {x : Int} (h : ks.Nodup) : (putI ks x).Nodup := by
  unfold putI
  by_cases c : x ∈ ks
  · rw [if_pos c]
    exact h
  · rw [if_neg c, List.nodup_append]
    exact ⟨h, by simp, fun a ha b hb => by rw [List.mem_singleton.mp hb]; exact fun q => c (q ▸ ha)⟩
theorem KeysI.put {kvs : List (Key × V)} {ks : List Int} (h : KeysI kvs ks) (x : Int) (v : V) : KeysI (putK kvs (Sum.inl x) v) (putI ks x) := by
  unfold KeysI
  rw [keys_put]
  have e : ((kvs.any fun kv => decide (kv.1 = Sum.inl x)) = true) ↔ x ∈ ks := by
    rw [any_key, h]
    constructor
    · intro hm
      obtain ⟨y, hy, e⟩ := List.mem_map.mp hm
      cases e
      exact hy
    · exact fun hx => List.mem_map_of_mem hx
  unfold putI
  by_cases c : x ∈ ks
  · rw [if_pos (e.mpr c), if_pos c]
    exact h
  · rw [if_neg fun q => c (e.mp q), if_neg c, List.map_append, h] <;> rfl
theorem KeysI.get {kvs : List (Key × V)} {ks : List Int} {i : Nat} {k : Key} {v : V} (h : KeysI kvs ks) (e : kvs[i]? = some (k, v)) : ∃ x, k = Sum.inl x ∧ ks[i]? = some x := by
  have e1 : (kvs.map (·.1))[i]? = some k := by rw [List.getElem?_map, e] <;> rfl
  rw [h, List.getElem?_map] at e1
  obtain ⟨x, hx, e2⟩ := Option.map_eq_some_iff.mp e1
  exact ⟨x, e2.symm, hx⟩

/-! ### a dict made of another one's keys -/
theorem rd_lockE {t : TE} {σ : L2.St} {H : Hp} {Q : VK} (h : ∃ d u, H d = some u ∧ Mut (some u) ∧ ∀ od, t σ (upd H d (.frz od u)) fun v H' => H' d = some (.frz od u) ∧ Q v (upd H' d u)) : tLockE t σ H Q := h
theorem rd_iKeys {td : TE} {σ : L2.St} {H : Hp} {R : It → Hp → Prop} (h : td σ H fun x H1 => ∃ d o, x = .ref d ∧ ((∃ kvs, H1 d = some (.frz o (.dK kvs)) ∧ R (Itk d o kvs) H1) ∨ ∃ kvs, H1 d = some (.frz o (.dT kvs)) ∧ R (Itkt d o kvs) H1)) : iKeys td σ H R := h
section
variable {σ : L2.St} {H : Hp} {Q : VK} {tt : TT} {tk tv : TE} {vs : List Nat} {j : Nat} {σx : V → L2.St} {d : Addr} {od : Obj} {kvs : List (Key × V)} {ks : List Int}
abbrev TurnK (H : Hp) (tt : TT) (tk tv : TE) (σx : V → L2.St) (f : Int → Bool) (x : Int) : Prop :=
  ∀ (H' : Hp) (N : V → V → Hp → Prop) (S : Hp → Prop), Evl.Ex H H' → (f x = true → ∀ v H3, Evl.Ex H' H3 → N (.int x) v H3) → (f x = false → ∀ H3, Evl.Ex H' H3 → S H3) →
    tt (σx (.int x)) H' fun b H2 => if b = true then tk (σx (.int x)) H2 fun y H4 => tv (σx (.int x)) H4 fun z H5 => N y z H5 else S H2
/-- {k: .. for k in d if f k}: the new dict has the keys that f lets -/
theorem dc_keys (f : Int → Bool) (hd : H d = some (.frz od (.dK kvs))) (hk : KeysI kvs ks) (hz : ks.length ≤ 1000) (hn : ks.Nodup) (hσ : ∀ x, (wipe σ vs).set j (some x) = σx x) (hw : ∀ x, wipe (σx x) vs = wipe σ vs)
    (hs : ∀ x ∈ ks, TurnK H tt tk tv σx f x)
    (hq : ∀ D kvs' H', Evl.Ex H H' → H D = none → H' D = some (.dK kvs') → KeysI kvs' (ks.filter f) → Q (.ref D) H') : DcR (gName j) tt tk tv vs σ Q (Itk d od kvs) H := fun D hD => by
  have hl := hk.len
  refine ⟨fun i m H' => i + m = kvs.length ∧ Evl.Ex H H' ∧ ∃ kvs', H' D = some (.dK kvs') ∧ KeysI kvs' ((ks.take i).filter f), ⟨kvs.length, by omega, Evl.Ex.new hD, [], upd_same, rfl⟩, fun i m H' hW => ?_⟩
  obtain ⟨em, e, kvs', ed, hk'⟩ := hW
  by_cases hi : i < kvs.length
  · refine .inr ⟨⟨e _ _ hd, hi⟩, fun H3 => Evl.Ex H H3 ∧ ∃ kvs', H3 D = some (.dK kvs') ∧ KeysI kvs' ((ks.take (i + 1)).filter f), fun H3 h3 => ⟨m - 1, by omega, by omega, h3⟩, fun x H2 hy => ?_⟩
    obtain ⟨rfl, k, v, hkv, rfl⟩ := hy
    obtain ⟨y, rfl, hy⟩ := hk.get hkv
    show gName j (.int y) (wipe σ vs) H2 _
    rw [show gName j (.int y) (wipe σ vs) H2 = fun N => N (σx (.int y)) H2 from funext fun N => by rw [← hσ (.int y)] <;> rfl]
    have hm : y ∈ ks := List.mem_of_getElem? hy
    have ht : ks.take (i + 1) = ks.take i ++ [y] := by rw [List.take_add_one, hy] <;> rfl
    have hny : y ∉ (ks.take i).filter f := fun q => by
      have h1 := (List.mem_filter.mp q).1
      have h2 : (ks.take (i + 1)).Nodup := hn.sublist (List.take_sublist _ _)
      rw [ht, List.nodup_append] at h2
      exact h2.2.2 y h1 y (List.mem_singleton.mpr rfl) rfl
    have hlen : kvs'.length ≤ 1000 := by
      rw [hk'.len]
      have h1 := List.length_filter_le f (ks.take i)
      have h2 := List.length_take_le i ks
      have h3 : (ks.take i).length ≤ ks.length := by rw [List.length_take]; omega
      omega
    refine ⟨hw _, hs y hm H2 (fun yv z H5 => ∃ kvs k, yv = kV k ∧ H5 D = some (.dK kvs) ∧ kvs.length < sizeLine ∧ (Evl.Ex H (upd H5 D (.dK (putK kvs k z))) ∧ ∃ kvs', (upd H5 D (.dK (putK kvs k z))) D = some (.dK kvs') ∧ KeysI kvs' ((ks.take (i + 1)).filter f)))
      (fun H3 => Evl.Ex H H3 ∧ ∃ kvs', H3 D = some (.dK kvs') ∧ KeysI kvs' ((ks.take (i + 1)).filter f)) e (fun hf v H3 e3 => ?_) fun hf H3 e3 => ?_⟩
    · refine ⟨kvs', Sum.inl y, rfl, e3 _ _ ed, by rw [sizeLine_eq]; omega, Evl.Ex.mut (e.trans e3) hD, _, upd_same, ?_⟩
      have h1 := hk'.put y v
      unfold putI at h1
      rw [if_neg hny] at h1
      rw [ht, List.filter_append, List.filter_cons_of_pos hf, List.filter_nil]
      exact h1
    · refine ⟨e.trans e3, kvs', e3 _ _ ed, ?_⟩
      rw [ht, List.filter_append, List.filter_cons_of_neg (by rw [hf]; decide), List.filter_nil, List.append_nil]
      exact hk'
  · have hik : i = kvs.length := by omega
    subst hik
    rw [hl, List.take_of_length_le (Nat.le_refl _)] at hk'
    exact .inl ⟨⟨e _ _ hd, Nat.le_refl _⟩, hq D kvs' H' e hD ed hk'⟩
end
/-! ### triples -/
theorem rd_gtup3 {K : PySem.W.Frag} {σ σ' : L2.St} {H : Hp} {p : Addr} {x y z : V} {n i j k : Nat} {N : L2.St → Hp → Prop} (s : SqT K H p [x, y, z]) (hn : n = 3) (hs : ((σ.set i (some x)).set j (some y)).set k (some z) = σ') (h : N σ' H) :
    gTup K n (gCons (gName i) (gCons (gName j) (gCons (gName k) gNil))) (.ref p) σ H N := ⟨p, [x, y, z], rfl, s, hn.symm, x, [y, z], rfl, y, [z], rfl, z, [], rfl, rfl, by subst hs; exact h⟩
theorem rd_lockS {t : TS} {D : Ends} {σ : L2.St} {H : Hp} (h : tLock t D σ H) : tLock t D σ H := h
end Ea
set_option Elab.async false
set_option linter.all false
set_option maxRecDepth 100000
set_option maxHeartbeats 400000
/-! Comprehensions over rows of data: some left out, each turned into a row. -/
namespace Ea
open PySem PySem.Spec PyProof.Rows L2
theorem pairw_len {α β : Type} {R : α → β → Prop} : ∀ {l : List α} {m : List β}, Paired R l m → l.length = m.length
  | _, _, .nil => rfl
  | _, _, .cons _ t => congrArg (· + 1) (pairw_len t)
section
variable {K : PySem.W.Frag} {σ : L2.St} {H : Hp} {Q : VK} {tt : TT} {te : TE} {vs : List Nat} {j : Nat} {σx : V → L2.St} {a : Addr} {xs : List V} {ρ : Type} {F : ρ → PyData} {rs : List ρ} {f : ρ → Bool} {g : ρ → ρ}
theorem dpAll_at : ∀ {xs : List V} {ds : List PyData} {i : Nat} {x : V}, DpAll K H xs ds → xs[i]? = some x → ∃ d, ds[i]? = some d ∧ Dp K H x d
  | _, _, 0, x, .cons h _, e => by
    obtain rfl : _ = x := Option.some.inj e
    exact ⟨_, rfl, h⟩
  | _, _, i + 1, x, .cons _ h, e => dpAll_at (i := i) h e
  | _, _, i, _, .nil, e => by simp at e
theorem dpAll_size : ∀ {xs : List V} {ds : List PyData}, DpAll K H xs ds → xs.length = ds.length
  | _, _, .nil => rfl
  | _, _, .cons _ h => congrArg (· + 1) (dpAll_size h)
theorem dpAll_cat : ∀ {xs ys : List V} {ds es : List PyData}, DpAll K H xs ds → DpAll K H ys es → DpAll K H (xs ++ ys) (ds ++ es)
  | _, _, _, _, .nil, h => h
  | _, _, _, _, .cons h t, h2 => .cons h (dpAll_cat t h2)
/-- a turn over a row of data -/
abbrev TurnR (K : PySem.W.Frag) (H : Hp) (tt : TT) (te : TE) (σx : V → L2.St) (F : ρ → PyData) (f : ρ → Bool) (g : ρ → ρ) (r : ρ) : Prop :=
  ∀ (v : V) (H' : Hp) (N : VK) (S : Hp → Prop), Evl.Ex H H' → Dp K H' v (F r) → (f r = true → ∀ v' H3, Evl.Ex H' H3 → Dp K H3 v' (F (g r)) → N v' H3) → (f r = false → ∀ H3, Evl.Ex H' H3 → S H3) →
    tt (σx v) H' fun b H2 => if b = true then te (σx v) H2 N else S H2
def Cr (K : PySem.W.Frag) (H : Hp) (rs : List ρ) (F : ρ → PyData) (f : ρ → Bool) (g : ρ → ρ) (D : Addr) (i : Nat) (H' : Hp) : Prop :=
  H D = none ∧ Evl.Ex H H' ∧ ∃ acc, H' D = some (.lst acc) ∧ DpAll K H' acc ((((rs.take i).filter f).map g).map F)
theorem cr_turn {D : Addr} {i : Nat} {r : ρ} {v : V} {H' : Hp} (hF : ∀ r, noL (F r) = true) (hi : rs[i]? = some r) (hz : rs.length ≤ 40000) (ht : TurnR K H tt te σx F f g r) (hv : Dp K H v (F r)) (p : Cr K H rs F f g D i H') :
    tt (σx v) H' fun b H3 => if b = true then te (σx v) H3 fun y H4 => ∃ acc, H4 D = some (.lst acc) ∧ acc.length < sizeLine ∧ Cr K H rs F f g D (i + 1) (upd H4 D (.lst (acc ++ [y]))) else Cr K H rs F f g D (i + 1) H3 := by
  obtain ⟨e, ex, acc, ea, hd⟩ := p
  have hl : acc.length < 100000 := by
    have h0 := dpAll_size hd
    rw [List.length_map, List.length_map] at h0
    have h1 := List.length_filter_le f (rs.take i)
    have h3 := List.length_take (i := i) (l := rs)
    omega
  refine ht v H' _ _ ex (dp_ex ex _ _ hv) (fun hf v' H3 e3 hv' => ?_) fun hf H3 e3 => ?_
  · have eD := e3 D _ ea
    refine ⟨acc, eD, Evl.sz_lt hl, e, Evl.Ex.mut (ex.trans e3) e, acc ++ [v'], upd_same, ?_⟩
    have : ((some r).toList.filter f) = [r] := by simp [hf]
    rw [List.take_add_one, hi, List.filter_append, List.map_append, List.map_append, this]
    have hn : noLs (((((rs.take i).filter f).map g).map F) ++ [F (g r)]) = true := noLs_all fun d h => by
      rcases List.mem_append.mp h with h | h
      · obtain ⟨q, _, rfl⟩ := List.mem_map.mp h
        exact hF q
      · rw [List.mem_singleton.mp h]
        exact hF _
    exact dps_mono (fun _ _ t => tup_upd eD lst_not t) _ _ hn (dpAll_cat (dpAll_ex e3 _ _ hd) (.cons hv' .nil))
  · refine ⟨e, ex.trans e3, acc, e3 D _ ea, ?_⟩
    have : ((some r).toList.filter f) = [] := by simp [hf]
    rw [List.take_add_one, hi, List.filter_append, this, List.append_nil]
    exact dpAll_ex e3 _ _ hd
theorem lc_dpL (hF : ∀ r, noL (F r) = true) (f : ρ → Bool) (g : ρ → ρ) (hx : SqL K H a xs) (hd : DpAll K H xs (rs.map F)) (hz : rs.length ≤ 40000) (hσ : ∀ x, (wipe σ vs).set j (some x) = σx x) (hw : ∀ x, wipe (σx x) vs = wipe σ vs)
    (hs : ∀ r ∈ rs, TurnR K H tt te σx F f g r)
    (hq : ∀ D H' ys, Evl.Ex H H' → H D = none → H' D = some (.lst ys) → DpAll K H' ys (((rs.filter f).map g).map F) → Q (.ref D) H') : LcR (gName j) tt te vs σ Q (Itl K a) H := fun D hn =>
  lc_list (xs := xs) (Cr K H rs F f g D) ⟨hn, Evl.Ex.new hn, [], upd_same, .nil⟩ (fun i H' _ ⟨_, ex, _⟩ => Evl.ex_l ex hx) (fun i x H' hi p => by
    obtain ⟨d, h1, h2⟩ := dpAll_at hd hi
    rw [List.getElem?_map] at h1
    obtain ⟨r, hr, rfl⟩ := Option.map_eq_some_iff.mp h1
    rw [show gName j x (wipe σ vs) H' = fun N => N (σx x) H' from funext fun N => by rw [← hσ x] <;> rfl]
    exact ⟨hw _, cr_turn hF hr hz (hs r (List.mem_of_getElem? hr)) h2 p⟩) fun H' p => by
    obtain ⟨e, ex, acc, ea, hp⟩ := p
    have lx := dpAll_size hd
    rw [List.length_map] at lx
    rw [lx, List.take_of_length_le (Nat.le_refl _)] at hp
    exact hq D H' acc ex e ea hp
theorem lc_dpT (hF : ∀ r, noL (F r) = true) (f : ρ → Bool) (g : ρ → ρ) (hx : SqT K H a xs) (hd : DpAll K H xs (rs.map F)) (hz : rs.length ≤ 40000) (hσ : ∀ x, (wipe σ vs).set j (some x) = σx x) (hw : ∀ x, wipe (σx x) vs = wipe σ vs)
    (hs : ∀ r ∈ rs, TurnR K H tt te σx F f g r)
    (hq : ∀ D H' ys, Evl.Ex H H' → H D = none → H' D = some (.lst ys) → DpAll K H' ys (((rs.filter f).map g).map F) → Q (.ref D) H') : LcR (gName j) tt te vs σ Q (Itt K a) H := fun D hn =>
  lc_tup (xs := xs) (Cr K H rs F f g D) ⟨hn, Evl.Ex.new hn, [], upd_same, .nil⟩ (fun i H' _ ⟨_, ex, _⟩ => Evl.ex_t ex hx) (fun i x H' hi p => by
    obtain ⟨d, h1, h2⟩ := dpAll_at hd hi
    rw [List.getElem?_map] at h1
    obtain ⟨r, hr, rfl⟩ := Option.map_eq_some_iff.mp h1
    rw [show gName j x (wipe σ vs) H' = fun N => N (σx x) H' from funext fun N => by rw [← hσ x] <;> rfl]
    exact ⟨hw _, cr_turn hF hr hz (hs r (List.mem_of_getElem? hr)) h2 p⟩) fun H' p => by
    obtain ⟨e, ex, acc, ea, hp⟩ := p
    have lx := dpAll_size hd
    rw [List.length_map] at lx
    rw [lx, List.take_of_length_le (Nat.le_refl _)] at hp
    exact hq D H' acc ex e ea hp
end
end Ea
set_option Elab.async false
set_option linter.all false
set_option maxRecDepth 100000
set_option maxHeartbeats 400000
/-! A text turned round. -/
namespace Ea
open PySem PySem.Spec PyProof PyProof.Rows L2
theorem fm_congr {α β : Type} {f g : α → Option β} : ∀ {l : List α}, (∀ x ∈ l, f x = g x) → l.filterMap f = l.filterMap g
  | [], _ => rfl
  | x :: t, h => by
    rw [List.filterMap_cons, List.filterMap_cons, h x List.mem_cons_self, fm_congr fun y hy => h y (List.mem_cons_of_mem _ hy)]
theorem rev_picked (L : List Nat) : (List.range L.length).filterMap (fun k => L[L.length - 1 - k]?) = L.reverse := by
  have e : (List.range L.length).filterMap (fun k => L[L.length - 1 - k]?) = (List.range L.length).filterMap (fun k => some (L.reverse.getD k 0)) := by
    refine fm_congr fun k hk => ?_
    have hk := List.mem_range.mp hk
    rw [List.getElem?_eq_getElem (by omega), List.getD_eq_getElem?_getD, List.getElem?_eq_getElem (by rw [List.length_reverse]; exact hk), Option.getD_some, List.getElem_reverse]
  rw [e, List.filterMap_eq_map']
  refine List.ext_getElem (by simp) fun i h1 h2 => ?_
  rw [List.getElem_map, List.getElem_range, List.getD_eq_getElem?_getD, List.getElem?_eq_getElem h2, Option.getD_some]
def revT (z : Str) : Str := ⟨z.cps.toList.reverse.toArray⟩
theorem revT_length (z : Str) : (revT z).length = z.length := by
  show z.cps.toList.reverse.toArray.size = z.cps.size
  rw [List.size_toArray, List.length_reverse, Array.length_toList]
def tRevS (te : TE) : TE := fun σ H Q => te σ H fun x H1 => ∃ z, x = .str z ∧ z.length ≤ sizeLine ∧ Q (.str (revT z)) H1
theorem pe_revS {X : Cx} {e : Expr} {te : TE} {k : Nat} {p1 p2 p3 pos : Pos} (he : PE X e te) :
    PE X (e.Subscript (Expr.Slice none none (some (Expr.UnaryOp UnaryOp.USub (Expr.Constant (Const.int 1) k p1) p2)) p3) pos) (tRevS te) :=
  ⟨fun pins s σ H Q I h => Subscript_ (thn (he.run pins s σ H _ I h) fun v s1 ⟨x, H1, I1, r1, z, ex, hz, q⟩ => (by
    subst ex
    obtain ⟨t, rfl⟩ := r1
    have hst := po_some (X := X) (e := Expr.UnaryOp UnaryOp.USub (Expr.Constant (Const.int 1) k p1) p2) (pe_un un_neg pe_int)
    refine wpAny_Slice (thn (po_none.run pins s1 σ H1 (fun o H2 => o = none ∧ H2 = H1) I1 ⟨rfl, rfl⟩) fun vl s2 ⟨l, H2, I2, pl, el, e2⟩ => ?_)
    subst el e2
    refine thn (po_none.run pins s2 σ H2 (fun o H3 => o = none ∧ H3 = H2) I2 ⟨rfl, rfl⟩) fun vu s3 ⟨u, H3, I3, pu, eu, e3⟩ => ?_
    subst eu e3
    refine thn (hst.run pins s3 σ H3 (fun o H4 => o = some (-1) ∧ H4 = H3) I3 ?hp) fun vs s4 ⟨st, H4, I4, ps, es, e4⟩ => ?hq
    case hp => exact rd_part (rd_un (rd_c (rd_U (rd_parti ⟨rfl, rfl⟩))))
    case hq =>
    subst es e4
    have I5 := Inv.kept (t' := s4.toks) I4 fun b ob q => Heap.get?_push_of_some { cls := Value.type "slice", data := Data.fields #[vl, vu, vs] } q
    cases pl
    cases pu
    cases ps with
    | int _ ts =>
    refine tail_any (T := "str") (id := "str.__getitem__") ?ht ?hk ?hg rfl
    case ht => exact rfl
    case hk => exact F.slot_str_getitem.lookup
    case hg =>
    refine wpAny_getItem_str_slice (l := none) (u := none) (st := some (-1, ts)) ?hs rfl ?hm
    case hs => exact Heap.IsSliceOf.new s4.heap Value.none Value.none (Value.int (-1) ts)
    case hm =>
    have hc : ¬ (((Option.map (fun x : Int × Tok => x.fst) (some ((-1 : Int), ts))).getD 1 == 1 && (slicePicked z none none (some (-1, ts))).length == z.length) = true) := fun h => by
      have h := (Bool.and_eq_true _ _ |>.mp h).1
      cases h
    have ez : (⟨(List.filterMap (fun i => z.cps[i]?) (slicePicked z none none (some (-1, ts)))).toArray⟩ : Str) = revT z := by
      have e1 : slicePicked z none none (some (-1, ts)) = (List.range z.length).map fun k => z.length - 1 - k := picked_rev z.length
      have e2 : (fun i => z.cps[i]?) = fun i => z.cps.toList[i]? := funext fun i => (Array.getElem?_toList ..).symm
      rw [e1, List.filterMap_map, e2]
      unfold revT
      have := rev_picked z.cps.toList
      have hl : z.cps.toList.length = z.length := rfl
      rw [hl] at this
      rw [← this] <;> rfl
    unfold sliceMade
    rw [if_neg hc, ez]
    exact ⟨by rw [revT_length]; exact hz, .str (revT z), H4, I5.tok _, ⟨_, rfl⟩, q⟩))⟩
theorem rd_revS {te : TE} {σ : L2.St} {H : Hp} {Q : VK} (h : te σ H fun x H1 => ∃ z, x = .str z ∧ z.length ≤ sizeLine ∧ Q (.str (revT z)) H1) : tRevS te σ H Q := h
end Ea
set_option Elab.async false
set_option linter.all false
set_option maxRecDepth 100000
set_option maxHeartbeats 400000
/-! Data of all kinds, dicts too: what it is, shown; a list beside the empty one; a tuple turned round. -/
namespace Ea
open PySem PySem.Spec PyProof PyProof.Rows L2

/-! ### xs != [], whatever stands in xs -/
def rNe0 (K : PySem.W.Frag) : R2 := fun x y H Q => ∃ a b xs, x = .ref a ∧ y = .ref b ∧ SqL K H a xs ∧ SqL K H b [] ∧ Q (.bl (!xs.isEmpty)) H
theorem op_ne0 {X : Cx} {K : PySem.W.Frag} (hK : X.K = K) (hu : X.A.units + 64 < cLine) : OpR X (compareOp .NotEq) (rNe0 K) := by
  subst hK
  intro pins s σ H x y v u Q I rx ry h
  obtain ⟨a, b, xs, rfl, rfl, ha, hb, q⟩ := h
  cases rx
  cases ry
  obtain ⟨its, r, hp, hz⟩ := I.list ha
  obtain ⟨its2, r2, hp2, _⟩ := I.list hb
  cases r2
  have hlen := r.length
  have z : SeqAt.RcNeAt X.A s (.ref a) (.ref b) (!xs.isEmpty) := by
    cases xs with
    | nil =>
      cases r
      exact SeqAt.RcNeAt.lists (e := fun _ => true) hp.isList hp2.isList rfl (by omega) fun j h1 => absurd h1 (Nat.not_lt_zero _)
    | cons x t =>
      refine SeqAt.RcNeAt.lists_lengths hp.isList hp2.isList ?_ (by omega)
      rw [bne_iff_ne]
      simp only [List.size_toArray, List.length_nil, List.length_cons] at hlen ⊢
      omega
  exact z X.prog X.w _ _ ⟨.bl _, H, I, rfl, q⟩
theorem rd_ne0 {K : PySem.W.Frag} {H : Hp} {Q : VK} {a b : Addr} {xs : List V} (ha : SqL K H a xs) (hb : SqL K H b []) (q : Q (.bl (!xs.isEmpty)) H) : rNe0 K (.ref a) (.ref b) H Q := ⟨a, b, xs, rfl, rfl, ha, hb, q⟩

/-! ### a list that is made is not the table of modules -/
def tLstZ (t : TA) : TE := fun σ H Q => t σ H fun xs H1 => xs.length ≤ sizeLine ∧ ∀ p, H1 p = none → p ≠ sysModules → Q (.ref p) (upd H1 p (.lst xs))
theorem pe_lstZ {X : Cx} {es : List Expr} {t : TA} {pos : Pos} (h : PA X es t) : PE X (.List es pos) (tLstZ t) := by
  refine ⟨fun pins s σ H Q I hq => ?_⟩
  refine wpAny_List_spliced (thn (h.run pos pins s σ H _ I hq) fun us s1 ⟨xs, H1, I1, r, z, q⟩ => ⟨by rw [← r.length]; exact z, ?_⟩)
  have hf : H1 s1.heap.objs.size = none := I1.hok.fresh (Nat.le_refl _)
  refine ⟨.ref s1.heap.objs.size, upd H1 s1.heap.objs.size (.lst xs), I1.laid (t' := s1.toks) (fun b u e => Heap.get?_push_of_some _ e) (Nat.le_refl _) ?_, rfl, q _ hf (Nat.ne_of_gt I1.big)⟩
  exact ⟨z, us, 0, r, Heap.get?_push_size _ rfl⟩
theorem rd_lstZ {t : TA} {σ : L2.St} {H : Hp} {Q : VK} (h : t σ H fun xs H1 => xs.length ≤ sizeLine ∧ ∀ p, H1 p = none → p ≠ sysModules → Q (.ref p) (upd H1 p (.lst xs))) : tLstZ t σ H Q := h

/-! ### data with dicts -/
def kD : Key → PyData
  | .inl i => .int i
  | .inr x => .str x
mutual
inductive Dz (K : PySem.W.Frag) (H : Hp) : V → PyData → Prop
  | non : Dz K H .non .none
  | bl (b : Bool) : Dz K H (.bl b) (.bool b)
  | int (i : Int) : Dz K H (.int i) (.int i)
  | str (x : Str) : Dz K H (.str x) (.str x)
  | lst {a : Addr} {xs : List V} {ds : List PyData} : a ≠ sysModules → SqL K H a xs → DzAll K H xs ds → Dz K H (.ref a) (.list ds)
  | tup {a : Addr} {xs : List V} {ds : List PyData} : SqT K H a xs → DzAll K H xs ds → Dz K H (.ref a) (.tuple ds)
  | dic {a : Addr} {kvs : List (Key × Int)} : H a = some (.dK (kvs.map fun kv => (kv.1, V.int kv.2))) → Dz K H (.ref a) (.dict (kvs.map fun kv => (kD kv.1, .int kv.2)))
inductive DzAll (K : PySem.W.Frag) (H : Hp) : List V → List PyData → Prop
  | nil : DzAll K H [] []
  | cons {v : V} {vs : List V} {d : PyData} {ds : List PyData} : Dz K H v d → DzAll K H vs ds → DzAll K H (v :: vs) (d :: ds)
end
theorem key_rel {k : Key} {v : Value} (h : keyIs k v = true) : RelV (kV k) v := by
  rcases keyIs_shape h with ⟨i, t, rfl, rfl⟩ | ⟨x, t, rfl, rfl⟩
  · exact ⟨_, rfl⟩
  · exact ⟨_, rfl⟩
theorem key_reads {h : Heap} {k : Key} {v : Value} (e : keyIs k v = true) : Reads h v (kD k) [] := by
  rcases keyIs_shape e with ⟨i, t, rfl, rfl⟩ | ⟨x, t, rfl, rfl⟩
  · exact Reads.int i t
  · exact Reads.str x t
theorem reads_val {h : Heap} {v u : Value} {i : Int} (e : v = u) (r : RelV (.int i) u) : Reads h v (.int i) [] := by
  obtain ⟨t, r⟩ := r
  rw [e, r]
  exact Reads.int i t
theorem pairs_reads {h : Heap} {P : Program} {w : World} : ∀ (kvs : List (Key × Int)) (es : List DictEntry) (vs : List (Key × Value)), PySem.Pairs (mixKind P w) es vs → KV (kvs.map fun kv => (kv.1, V.int kv.2)) vs →
    ReadsAll h (es.map (·.key)) ((kvs.map fun kv => (kD kv.1, PyData.int kv.2)).map (·.1)) [] ∧ ReadsAll h (es.map (·.val)) ((kvs.map fun kv => (kD kv.1, PyData.int kv.2)).map (·.2)) [] := by
  intro kvs
  induction kvs with
  | nil =>
    intro es vs hp hk
    cases hk
    cases hp
    exact ⟨.nil, .nil⟩
  | cons kv kvs ih =>
    intro es vs hp hk
    cases hk with
    | cons r s =>
      cases hp with
      | cons h1 h2 t =>
        obtain ⟨a, b⟩ := ih _ _ t s
        obtain ⟨r1, r2⟩ := r
        rw [← r1] at h1
        exact ⟨ReadsAll.cons (as := []) (bs := []) (key_reads h1) a, ReadsAll.cons (as := []) (bs := []) (reads_val h2 r2) b⟩
section
variable {X : Cx} {pins : List (Addr × Obj)} {σ : L2.St} {H : Hp} {s : Shared}
mutual
theorem Dz.reads (I : Inv X pins σ H s) : ∀ (d : PyData) (v : V) (u : Value), Dz X.K H v d → RelV v u → ∃ as, Reads s.heap u d as ∧ sysModules ∉ as
  | .none, _, _, h, r => by
    cases h
    cases r
    exact ⟨_, Reads.none, nofun⟩
  | .bool b, _, _, h, r => by
    cases h
    cases r
    exact ⟨_, Reads.bool b, nofun⟩
  | .int i, _, _, h, r => by
    cases h
    obtain ⟨t, rfl⟩ := r
    exact ⟨_, Reads.int i t, nofun⟩
  | .str x, _, _, h, r => by
    cases h
    obtain ⟨t, rfl⟩ := r
    exact ⟨_, Reads.str x t, nofun⟩
  | .list ds, _, _, h, r => by
    cases h with
    | lst hn hs ha =>
      cases r
      obtain ⟨its, rv, ⟨o, n, ho, hc, _, hd⟩, _⟩ := I.list hs
      obtain ⟨as, hr, hm⟩ := Dz.readsAll I ds _ its ha rv
      exact ⟨_, Reads.list ho hc hd hr, fun z => (List.mem_cons.mp z).elim (fun e => hn e.symm) hm⟩
  | .tuple ds, _, _, h, r => by
    cases h with
    | tup hs ha =>
      cases r
      obtain ⟨its, rv, ⟨o, ho, hc, n, hd⟩, _⟩ := I.tuple hs
      obtain ⟨as, hr, hm⟩ := Dz.readsAll I ds _ its ha rv
      exact ⟨_, Reads.tuple ho hc hd hr, hm⟩
  | .dict ds, _, _, h, r => by
    cases h with
    | dic hs =>
      cases r
      obtain ⟨_, hn, vs, rel, o, es, ep, h1, h2, h3, _, hp, _⟩ := dk_of I.hok hs
      obtain ⟨z1, z2⟩ := pairs_reads (h := s.heap) _ _ _ hp rel
      refine ⟨_, Reads.dict h1 h2.1 h3 z1 z2, fun z => ?_⟩
      have z : sysModules ∈ [_] := z
      exact (beq_eq_false_iff_ne.mp hn) (List.mem_singleton.mp z).symm
theorem Dz.readsAll (I : Inv X pins σ H s) : ∀ (ds : List PyData) (vs : List V) (us : List Value), DzAll X.K H vs ds → Vals vs us → ∃ as, ReadsAll s.heap us ds as ∧ sysModules ∉ as
  | [], _, _, h, r => by
    cases h
    cases r
    exact ⟨_, ReadsAll.nil, nofun⟩
  | d :: ds, _, _, h, r => by
    cases h with
    | cons h1 h2 =>
      cases r with
      | cons r1 r2 =>
        obtain ⟨as, q1, m1⟩ := Dz.reads I d _ _ h1 r1
        obtain ⟨bs, q2, m2⟩ := Dz.readsAll I ds _ _ h2 r2
        exact ⟨_, ReadsAll.cons q1 q2, fun z => (List.mem_append.mp z).elim m1 m2⟩
end
end
/-- a datum of any kind -/
def Dv (K : PySem.W.Frag) (H : Hp) (v : V) (d : PyData) : Prop := Dp K H v d ∨ Dz K H v d
mutual
theorem Dp.noDict {K : PySem.W.Frag} {H : Hp} : ∀ (d : PyData) (v : V), Dp K H v d → d.hasDict = false
  | .none, _, _ => rfl
  | .bool _, _, _ => rfl
  | .int _, _, _ => rfl
  | .str _, _, _ => rfl
  | .list ds, _, h => by
    cases h with
    | lst _ ha => exact Dp.noDictAll ds _ ha
  | .tuple ds, _, h => by
    cases h with
    | tup _ ha => exact Dp.noDictAll ds _ ha
  | .dict _, _, h => by cases h
theorem Dp.noDictAll {K : PySem.W.Frag} {H : Hp} : ∀ (ds : List PyData) (vs : List V), DpAll K H vs ds → PyData.hasDictAll ds = false
  | [], _, _ => rfl
  | d :: ds, _, h => by
    cases h with
    | cons h1 h2 =>
      show (d.hasDict || PyData.hasDictAll ds) = false
      rw [Dp.noDict d _ h1, Dp.noDictAll ds _ h2] <;> rfl
end
theorem Dv.reads {X : Cx} {pins : List (Addr × Obj)} {σ : L2.St} {H : Hp} {s : Shared} (I : Inv X pins σ H s) {d : PyData} {v : V} {u : Value} (h : Dv X.K H v d) (r : RelV v u) :
    ∃ as, Reads s.heap u d as ∧ (d.hasDict = true → sysModules ∉ as) := by
  rcases h with h | h
  · obtain ⟨as, q⟩ := Dp.reads I d v u h r
    exact ⟨as, q, fun z => absurd z (by rw [Dp.noDict d v h]; decide)⟩
  · obtain ⟨as, q, m⟩ := Dz.reads I d v u h r
    exact ⟨as, q, fun _ => m⟩
/-! ### data are shown -/
structure Fair (n k : Nat) (d : PyData) : Prop where
  bulk : d.bulk ≤ n
  depth : d.depth ≤ k
  show_ : d.showable = true
  short : d.leavesShort 40 = true
structure FairAll (n k : Nat) (ds : List PyData) : Prop where
  bulk : PyData.bulkAll ds ≤ n
  depth : PyData.depthAll ds ≤ k
  show_ : PyData.showableAll ds = true
  short : PyData.leavesShortAll 40 ds = true
theorem Fair.mono {n k m j : Nat} {d : PyData} (h : Fair n k d) (a : n ≤ m) (b : k ≤ j) : Fair m j d := ⟨Nat.le_trans h.bulk a, Nat.le_trans h.depth b, h.show_, h.short⟩
theorem FairAll.mono {n k m j : Nat} {d : List PyData} (h : FairAll n k d) (a : n ≤ m) (b : k ≤ j) : FairAll m j d := ⟨Nat.le_trans h.bulk a, Nat.le_trans h.depth b, h.show_, h.short⟩
theorem FairAll.nil {k : Nat} : FairAll 0 k [] := ⟨Nat.le_refl _, Nat.zero_le _, rfl, rfl⟩
theorem FairAll.cons {n m k : Nat} {d : PyData} {ds : List PyData} (h : Fair n k d) (hs : FairAll m k ds) : FairAll (n + 1 + m) k (d :: ds) := by
  refine ⟨?_, ?_, ?_, ?_⟩
  · show d.bulk + 1 + PyData.bulkAll ds ≤ _
    have := h.bulk
    have := hs.bulk
    omega
  · show max d.depth (PyData.depthAll ds) ≤ _
    have := h.depth
    have := hs.depth
    omega
  · show (d.showable && PyData.showableAll ds) = true
    rw [h.show_, hs.show_] <;> rfl
  · show (d.leavesShort 40 && PyData.leavesShortAll 40 ds) = true
    rw [h.short, hs.short] <;> rfl
theorem Fair.tup {n k : Nat} {ds : List PyData} (h : FairAll n k ds) : Fair n (k + 1) (.tuple ds) := ⟨h.bulk, Nat.succ_le_succ h.depth, h.show_, h.short⟩
theorem Fair.lst {n k : Nat} {ds : List PyData} (h : FairAll n k ds) : Fair n (k + 1) (.list ds) := ⟨h.bulk, Nat.succ_le_succ h.depth, h.show_, h.short⟩
mutual
theorem short_mono : ∀ d : PyData, d.leavesShort 13 = true → d.leavesShort 40 = true
  | .none, _ => rfl
  | .bool _, _ => rfl
  | .int i, h => decide_eq_true (Nat.le_trans (of_decide_eq_true h) (by decide))
  | .str _, h => h
  | .list xs, h => short_monoAll xs h
  | .tuple xs, h => short_monoAll xs h
  | .dict xs, h => short_monoKv xs h
theorem short_monoAll : ∀ ds : List PyData, PyData.leavesShortAll 13 ds = true → PyData.leavesShortAll 40 ds = true
  | [], _ => rfl
  | d :: ds, h => by
    have h : (d.leavesShort 13 && PyData.leavesShortAll 13 ds) = true := h
    rw [Bool.and_eq_true] at h
    show (d.leavesShort 40 && PyData.leavesShortAll 40 ds) = true
    rw [short_mono d h.1, short_monoAll ds h.2] <;> rfl
theorem short_monoKv : ∀ ds : List (PyData × PyData), PyData.leavesShortKv 13 ds = true → PyData.leavesShortKv 40 ds = true
  | [], _ => rfl
  | (k, v) :: ds, h => by
    have h : (k.leavesShort 13 && v.leavesShort 13 && PyData.leavesShortKv 13 ds) = true := h
    rw [Bool.and_eq_true, Bool.and_eq_true] at h
    show (k.leavesShort 40 && v.leavesShort 40 && PyData.leavesShortKv 40 ds) = true
    rw [short_mono k h.1.1, short_mono v h.1.2, short_monoKv ds h.2] <;> rfl
end
theorem Nice.fair {n k : Nat} {d : PyData} (h : Nice n k d) : Fair n k d := ⟨h.bulk, h.depth, h.show_, short_mono d h.short⟩
theorem Fair.fits {n k : Nat} {d : PyData} (h : Fair n k d) (hn : n ≤ 2 ^ 18) : d.shown.length ≤ sizeLine := by
  have z := PyData.shown_le_bulk 40 (by decide) d h.short
  have hb := h.bulk
  rw [sizeLine_eq]
  omega
def rReprV (K : PySem.W.Frag) : List V → Hp → VK → Prop := fun xs H Q => ∃ (x : V) (d : PyData), xs = [x] ∧ Dv K H x d ∧ d.showable = true ∧ d.depth ≤ 40 ∧ d.shown.length ≤ sizeLine ∧ Q (.str d.shown) H
theorem c_reprV {X : Cx} {K : PySem.W.Frag} (hK : X.K = K) (hg : X.A.guards = some []) (hu : X.A.units + 64 < cLine) : CallR X (.builtin "repr") (rReprV K) := by
  subst hK
  intro pins s σ H xs us Q I r h
  obtain ⟨x, d, rfl, hd, h1, h4, h5, q⟩ := h
  obtain ⟨u, rfl, ru⟩ := vals1 r
  obtain ⟨as, rd, hm⟩ := hd.reads I ru
  cases rd with
  | none => exact P.repr_of_none ⟨.str _, H, I.tok _, ⟨_, rfl⟩, q⟩
  | bool b => exact P.repr_of_bool ⟨.str _, H, I.tok _, ⟨_, rfl⟩, q⟩
  | int i t => exact P.repr_of_int (of_decide_eq_true h1) ⟨.str _, H, I.tok _, ⟨_, rfl⟩, q⟩
  | str y t => exact P.repr_of_str (hsz := h5) ⟨.str _, H, I.tok _, ⟨_, rfl⟩, q⟩
  | list a b c e => exact repr_of_reads' (.list a b c e) h1 hm hg (by omega) (fun _ _ e => e) (fun h' tk u hk => ⟨.str _, H, I.kept hk, ⟨_, rfl⟩, q⟩) h5
  | tuple a b c e => exact repr_of_reads' (.tuple a b c e) h1 hm hg (by omega) (fun _ _ e => e) (fun h' tk u hk => ⟨.str _, H, I.kept hk, ⟨_, rfl⟩, q⟩) h5
  | dict a b c e f => exact repr_of_reads' (.dict a b c e f) h1 hm hg (by omega) (fun _ _ e => e) (fun h' tk u hk => ⟨.str _, H, I.kept hk, ⟨_, rfl⟩, q⟩) h5
theorem rd_reprV {K : PySem.W.Frag} {H : Hp} {Q : VK} {x : V} {d : PyData} {n k : Nat} (hx : Dv K H x d) (h : Fair n k d) (hn : n ≤ 2 ^ 18) (hk : k ≤ 40) (q : Q (.str d.shown) H) : rReprV K [x] H Q :=
  ⟨x, d, rfl, hx, h.show_, Nat.le_trans h.depth hk, h.fits hn, q⟩
/-! ### of which class a datum is -/
def tyD : PyData → String
  | .none => "NoneType"
  | .bool _ => "bool"
  | .int _ => "int"
  | .str _ => "str"
  | .list _ => "list"
  | .tuple _ => "tuple"
  | .dict _ => "dict"
theorem ty_l {K : PySem.W.Frag} {H : Hp} {a : Addr} {xs : List V} (h : SqL K H a xs) : TyX K H (.ref a) (.type "list") := by
  rcases h with h | ⟨o, _, _, hk, hc, _⟩
  · rcases h with h | ⟨o, h⟩
    · exact .base (.lst h)
    · exact .base (.frz h)
  · exact .kList hk hc
theorem ty_t {K : PySem.W.Frag} {H : Hp} {a : Addr} {xs : List V} (h : SqT K H a xs) : TyX K H (.ref a) (.type "tuple") := by
  rcases h with h | ⟨o, _, _, hk, hc, _⟩
  · rcases h with h | ⟨o, h⟩
    · exact .base (.tup h)
    · exact .fTuple h
  · exact .kTuple hk hc
theorem Dv.ty {K : PySem.W.Frag} {H : Hp} {v : V} {d : PyData} (h : Dv K H v d) : TyX K H v (.type (tyD d)) := by
  rcases h with h | h
  · cases h with
    | non => exact .base .non
    | bl b => exact .base (.bl b)
    | int i => exact .base (.int i)
    | str x => exact .base (.str x)
    | lst h _ => exact ty_l h
    | tup h _ => exact ty_t h
  · cases h with
    | non => exact .base .non
    | bl b => exact .base (.bl b)
    | int i => exact .base (.int i)
    | str x => exact .base (.str x)
    | lst _ h _ => exact ty_l h
    | tup h _ => exact ty_t h
    | dic h => exact .base (.dK h)
theorem c_isi {X : Cx} {K : PySem.W.Frag} (hK : X.K = K) : CallR X (.builtin "isinstance") (rIsi K) := hK ▸ call_isi
/-- isinstance(x, T), T a built-in type -/
def isD (T : String) (d : PyData) : Bool := (kitB (tyD d) T).getD false
theorem rd_isD {K : PySem.W.Frag} {H : Hp} {Q : VK} {v : V} {d : PyData} {T : String} (h : Dv K H v d) (hT : ∀ t ∈ ["NoneType", "bool", "int", "str", "list", "tuple", "dict"], (kitB t T).isSome = true) (q : Q (.bl (isD T d)) H) :
    rIsi K [v, .ty T] H Q := by
  have hs : (kitB (tyD d) T).isSome = true := hT _ (by cases d <;> simp [tyD])
  refine ⟨v, .ty T, .type (tyD d), .type T, isD T d, rfl, .ty T, h.ty, kit_ty ?_, q⟩
  unfold isD
  obtain ⟨b, e⟩ := Option.isSome_iff_exists.mp hs
  rw [e] <;> rfl
/-! ### data stay -/
mutual
theorem dz_ex {K : PySem.W.Frag} {H H' : Hp} (e : Evl.Ex H H') : ∀ (d : PyData) (v : V), Dz K H v d → Dz K H' v d
  | .none, _, h => by
    cases h
    exact .non
  | .bool b, _, h => by
    cases h
    exact .bl b
  | .int i, _, h => by
    cases h
    exact .int i
  | .str x, _, h => by
    cases h
    exact .str x
  | .list ds, _, h => by
    cases h with
    | lst hn hs ha => exact .lst hn (Evl.ex_l e hs) (dzAll_ex e ds _ ha)
  | .tuple ds, _, h => by
    cases h with
    | tup hs ha => exact .tup (Evl.ex_t e hs) (dzAll_ex e ds _ ha)
  | .dict ds, _, h => by
    cases h with
    | dic hs => exact .dic (e _ _ hs)
theorem dzAll_ex {K : PySem.W.Frag} {H H' : Hp} (e : Evl.Ex H H') : ∀ (ds : List PyData) (vs : List V), DzAll K H vs ds → DzAll K H' vs ds
  | [], _, h => by
    cases h
    exact .nil
  | d :: ds, _, h => by
    cases h with
    | cons h1 h2 => exact .cons (dz_ex e d _ h1) (dzAll_ex e ds _ h2)
end
theorem Dv.ex {K : PySem.W.Frag} {H H' : Hp} (e : Evl.Ex H H') {d : PyData} {v : V} (h : Dv K H v d) : Dv K H' v d := h.elim (fun h => .inl (dp_ex e d v h)) fun h => .inr (dz_ex e d v h)
theorem dz_get {K : PySem.W.Frag} {H : Hp} {x : V} : ∀ {xs : List V} {ds : List PyData} {i : Nat}, DzAll K H xs ds → xs[i]? = some x → ∃ d, ds[i]? = some d ∧ Dz K H x d
  | _, _, 0, .cons h _, e => by
    obtain rfl : _ = x := Option.some.inj e
    exact ⟨_, rfl, h⟩
  | _, _, i + 1, .cons _ h, e => dz_get (i := i) h e
  | _, _, i, .nil, e => by simp at e
theorem dz_len {K : PySem.W.Frag} {H : Hp} : ∀ {xs : List V} {ds : List PyData}, DzAll K H xs ds → xs.length = ds.length
  | _, _, .nil => rfl
  | _, _, .cons _ h => congrArg (· + 1) (dz_len h)
theorem dp_get {K : PySem.W.Frag} {H : Hp} {x : V} : ∀ {xs : List V} {ds : List PyData} {i : Nat}, DpAll K H xs ds → xs[i]? = some x → ∃ d, ds[i]? = some d ∧ Dp K H x d
  | _, _, 0, .cons h _, e => by
    obtain rfl : _ = x := Option.some.inj e
    exact ⟨_, rfl, h⟩
  | _, _, i + 1, .cons _ h, e => dp_get (i := i) h e
  | _, _, i, .nil, e => by simp at e
theorem dp_len {K : PySem.W.Frag} {H : Hp} : ∀ {xs : List V} {ds : List PyData}, DpAll K H xs ds → xs.length = ds.length
  | _, _, .nil => rfl
  | _, _, .cons _ h => congrArg (· + 1) (dp_len h)
/-- a tuple of data -/
theorem Dv.tuple {K : PySem.W.Frag} {H : Hp} {v : V} {ds : List PyData} (h : Dv K H v (.tuple ds)) :
    ∃ a xs, v = .ref a ∧ SqT K H a xs ∧ xs.length = ds.length ∧ ∀ (i : Nat) (x : V), xs[i]? = some x → ∃ d, ds[i]? = some d ∧ Dv K H x d := by
  rcases h with h | h
  · cases h with
    | tup hs ha => exact ⟨_, _, rfl, hs, dp_len ha, fun i x e => let ⟨d, h1, h2⟩ := dp_get ha e; ⟨d, h1, .inl h2⟩⟩
  · cases h with
    | tup hs ha => exact ⟨_, _, rfl, hs, dz_len ha, fun i x e => let ⟨d, h1, h2⟩ := dz_get ha e; ⟨d, h1, .inr h2⟩⟩
theorem Dv.int {K : PySem.W.Frag} {H : Hp} {v : V} {i : Int} (h : Dv K H v (.int i)) : v = .int i := by
  rcases h with h | h <;> cases h <;> rfl
theorem dz_ints {K : PySem.W.Frag} {H : Hp} : ∀ (ns : List Int), DzAll K H (ns.map V.int) (dI ns)
  | [] => .nil
  | n :: r => .cons (.int n) (dz_ints r)
theorem dz_app {K : PySem.W.Frag} {H : Hp} : ∀ {xs ys : List V} {ds es : List PyData}, DzAll K H xs ds → DzAll K H ys es → DzAll K H (xs ++ ys) (ds ++ es)
  | _, _, _, _, .nil, h => h
  | _, _, _, _, .cons h t, h2 => .cons h (dz_app t h2)
theorem dp_app {K : PySem.W.Frag} {H : Hp} : ∀ {xs ys : List V} {ds es : List PyData}, DpAll K H xs ds → DpAll K H ys es → DpAll K H (xs ++ ys) (ds ++ es)
  | _, _, _, _, .nil, h => h
  | _, _, _, _, .cons h t, h2 => .cons h (dp_app t h2)
/-! ### t[::-1] -/
theorem rev_pickedV (L : List Value) : (List.range L.length).filterMap (fun k => L[L.length - 1 - k]?) = L.reverse := by
  have e : (List.range L.length).filterMap (fun k => L[L.length - 1 - k]?) = (List.range L.length).filterMap (fun k => some (L.reverse.getD k Value.none)) := by
    refine fm_congr fun k hk => ?_
    have hk := List.mem_range.mp hk
    rw [List.getElem?_eq_getElem (by omega), List.getD_eq_getElem?_getD, List.getElem?_eq_getElem (by rw [List.length_reverse]; exact hk), Option.getD_some, List.getElem_reverse]
  rw [e, List.filterMap_eq_map']
  refine List.ext_getElem (by simp) fun i h1 h2 => ?_
  rw [List.getElem_map, List.getElem_range, List.getD_eq_getElem?_getD, List.getElem?_eq_getElem h2, Option.getD_some]
section
variable {prog : Program} {w : World} {A : Around} {E : Value → Shared → Prop} {s : Shared}
theorem sliceApplied_rev {sl : Addr} {vl vu vs : Value} {n : Nat} {Q : Int × Int × Nat → Shared → Prop} (hs : s.heap.IsSliceOf sl vl vu vs) (pl : IsPart vl none) (pu : IsPart vu none) (ps : IsPart vs (some (-1)))
    (h : Q ((n : Int) - 1, -1, n) s) : wpAny (model prog w) A (Builtin.Slice.sliceApplied (.ref sl) (pure (n : Int))) Q E s := by
  obtain ⟨os, hos, hcs, hds⟩ := id hs
  unfold Builtin.Slice.sliceApplied Builtin.Slice.sliceFields
  refine wpAny_bind (wpAny_bind (wpAny_field hos hds (x := vl) rfl (wpAny_bind (wpAny_field hos hds (x := vu) rfl (wpAny_bind (wpAny_field hos hds (x := vs) rfl (wpAny_pure ?_)))))))
  refine wpAny_bind (HT.slicePart_ ps ?_)
  show wpAny _ _ (if ((-1 : Int) == 0) = true then _ else _) _ _ s
  rw [if_neg (by decide)]
  refine wpAny_bind (HT.slicePart_ pl (wpAny_bind (HT.slicePart_ pu (wpAny_bind (wpAny_pure ?_)))))
  show wpAny _ _ (match Builtin.Slice.sliceAdjust none none (-1) (n : Int) with | (lo, hi) => pure (lo, (-1 : Int), Builtin.Slice.slicePlaces lo hi (-1))) _ _ s
  have e1 : Builtin.Slice.sliceAdjust none none (-1) (n : Int) = ((n : Int) - 1, -1) := rfl
  have e2 : Builtin.Slice.slicePlaces ((n : Int) - 1) (-1) (-1) = n := by
    unfold Builtin.Slice.slicePlaces
    rw [if_neg (by decide)]
    by_cases h0 : (n : Int) - 1 > -1
    · rw [if_pos h0]
      have : -(-1 : Int) = 1 := rfl
      rw [this, Int.ediv_one]
      omega
    · rw [if_neg h0]
      omega
  rw [e1]
  show wpAny _ _ (pure ((n : Int) - 1, (-1 : Int), Builtin.Slice.slicePlaces ((n : Int) - 1) (-1) (-1))) _ _ s
  rw [e2]
  exact wpAny_pure h
theorem getItem_tuple_rev {t sl : Addr} {items : Array Value} {vl vu vs : Value} {Q : Value → Shared → Prop} (ht : IsTup s.heap t items) (hs : s.heap.IsSliceOf sl vl vu vs) (pl : IsPart vl none) (pu : IsPart vu none) (ps : IsPart vs (some (-1)))
    (h : Q (.ref s.heap.objs.size) { s with heap := s.heap.push { cls := .type "tuple", data := .seq items.toList.reverse.toArray } })
    (hsz : items.size ≤ sizeLine) : wpAny (model prog w) A (getItem (.ref t) (.ref sl)) Q E s := by
  have hdrop : sizeOk (.seq items.toList.reverse.toArray) := by
    show items.toList.reverse.toArray.size ≤ sizeLine
    rw [List.size_toArray, List.length_reverse, Array.length_toList]
    exact hsz
  obtain ⟨os, hos, hcs, hds⟩ := id hs
  have hTs : s.TypeIs (.ref sl) "slice" := ⟨os, hos, hcs⟩
  unfold getItem
  try with_reducible refine wpAny_holding ?_
  first | refine wpAny_bind (wpAny_pure ?_) | skip
  refine wpAny_bind (wpAny_sequenceKey ht.typeIs (by decide) ?_)
  refine wpAny_bind (wpAny_callSpecial?_slot (name := Str.ofString "__getitem__") ht.typeIs PyProof.Rows.slot_tuple_getitem
    (wpAny_call_entry PyProof.Rows.slot_tuple_getitem ht.typeIs entry_tuple_getitem ?_ (args_tuple_getitem _ _)))
  show wpAny _ _ (Builtin.Tuple.tupleItemsOf (.ref t) >>= _) _ _ s
  refine wpAny_bind (tupleItemsOf_ ht ?_)
  refine wpAny_bind (wpAny_typeOf hTs ?_)
  rw [if_pos (by decide)]
  refine wpAny_bind (sliceApplied_rev hs pl pu ps ?_)
  have hno : ¬ ((((items.size : Int) - 1) == 0 && (-1 : Int) == 1 && items.size == items.size) = true) := by
    intro z
    have z := (Bool.and_eq_true _ _ |>.mp z).1
    have z := (Bool.and_eq_true _ _ |>.mp z).2
    cases z
  show wpAny _ _ (if (((items.size : Int) - 1) == 0 && (-1 : Int) == 1 && items.size == items.size) = true then _ else _) _ _ s
  have hp : ((List.range items.size).filterMap fun (k : Nat) => items[((items.size : Int) - 1 + (k : Int) * -1).toNat]?).toArray = items.toList.reverse.toArray := by
    congr 1
    rw [← rev_pickedV items.toList, Array.length_toList]
    refine fm_congr fun k hk => ?_
    have hk := List.mem_range.mp hk
    rw [Array.getElem?_toList]
    congr 1
    omega
  rw [if_neg hno, hp]
  first
    | exact wpAny_bind (m := Builtin.Tuple.tupleExact _) (wpAny_newObj_type (wpAny_pure ⟨_, rfl, wpAny_pure h⟩) hdrop)
    | exact wpAny_bind (m := Builtin.Tuple.tupleExact _) (wpAny_newObj_type (wpAny_bind (wpAny_pure (wpAny_pure ⟨_, rfl, wpAny_pure h⟩))) hdrop)
    | exact wpAny_bind (wpAny_bind (m := Builtin.Tuple.tupleExact _) (wpAny_newObj_type (wpAny_pure (wpAny_pure ⟨_, rfl, wpAny_pure h⟩)) hdrop))
    | exact wpAny_bind (wpAny_bind (m := Builtin.Tuple.tupleExact _) (wpAny_newObj_type (wpAny_pure ⟨_, rfl, wpAny_pure h⟩) hdrop))
end
def tRevT (K : PySem.W.Frag) (te : TE) : TE := fun σ H Q => te σ H fun x H1 => ∃ a xs, x = .ref a ∧ SqT K H1 a xs ∧ ∀ p, H1 p = none → Q (.ref p) (upd H1 p (.tup xs.reverse))
theorem pe_revT {X : Cx} {K : PySem.W.Frag} (hK : X.K = K) {e : Expr} {te : TE} {k : Nat} {p1 p2 p3 pos : Pos} (he : PE X e te) :
    PE X (.Subscript e (.Slice none none (some (.UnaryOp .USub (.Constant (.int 1) k p1) p2)) p3) pos) (tRevT K te) := by
  subst hK
  refine ⟨fun pins s σ H Q I h => ?_⟩
  refine Subscript_ (thn (he.run pins s σ H _ I h) fun v s1 ⟨x, H1, I1, r1, q1⟩ => ?_)
  obtain ⟨a, xs, ex, hx, q⟩ := q1
  subst ex
  cases r1
  have hst : PO X (some (.UnaryOp .USub (.Constant (.int 1) k p1) p2)) (tPart (tUn (rU fun i => .int (-i)) (tC (.int 1)))) := po_some (pe_un un_neg pe_int)
  refine wpAny_Slice (thn (po_none.run pins s1 σ H1 (fun o H2 => o = none ∧ H2 = H1) I1 ⟨rfl, rfl⟩) fun vl s2 ⟨l, H2, I2, pl, el, e2⟩ => ?_)
  subst el e2
  refine thn (po_none.run pins s2 σ H2 (fun o H3 => o = none ∧ H3 = H2) I2 ⟨rfl, rfl⟩) fun vu s3 ⟨u, H3, I3, pu, eu, e3⟩ => ?_
  subst eu e3
  refine thn (hst.run pins s3 σ H3 (fun o H4 => o = some (-1) ∧ H4 = H3) I3 ⟨1, rfl, -1, rfl, rfl, rfl⟩) fun vs s4 ⟨o, H4, I4, ps, eo, e4⟩ => ?_
  subst eo e4
  have I5 : Inv X pins σ H4 { s4 with heap := s4.heap.push { cls := .type "slice", data := .fields #[vl, vu, vs] } } := I4.kept (t' := s4.toks) fun b ob q => Heap.get?_push_of_some _ q
  obtain ⟨its, r, ht, hz⟩ := I5.tuple hx
  have hlen := r.length
  show wpAny (model X.prog X.w) X.A (subscriptTail e (.Slice none none (some (.UnaryOp .USub (.Constant (.int 1) k p1) p2)) p3) (.ref a) (.ref s4.heap.objs.size)) (EP X pins σ Q) X.xe { s4 with heap := s4.heap.push { cls := .type "slice", data := .fields #[vl, vu, vs] } }
  refine tail_any (ops := [.ref a, .ref s4.heap.objs.size]) ht.typeIs (PyProof.Rows.slot_tuple_getitem.lookup) ?_ (by with_unfolding_all rfl)
  refine getItem_tuple_rev ht (Heap.IsSliceOf.new _ vl vu vs) pl pu ps ?_ (by rw [List.size_toArray]; omega)
  refine ⟨.ref _, _, I5.laid (t' := s4.toks) (o := .tup xs.reverse) (fun b ob q => Heap.get?_push_of_some _ q) (Nat.le_refl _) ?_, rfl, q _ (I5.hok.fresh (Nat.le_refl _))⟩
  exact ⟨by rw [List.length_reverse]; exact hz, its.reverse, r.reverse, ⟨_, Heap.get?_push_size _ rfl, rfl, 0, rfl⟩⟩
theorem rd_revT {K : PySem.W.Frag} {te : TE} {σ : L2.St} {H : Hp} {Q : VK} (h : te σ H fun x H1 => ∃ a xs, x = .ref a ∧ SqT K H1 a xs ∧ ∀ p, H1 p = none → Q (.ref p) (upd H1 p (.tup xs.reverse))) : tRevT K te σ H Q := h
end Ea
set_option Elab.async false
set_option linter.all false
set_option maxRecDepth 100000
set_option maxHeartbeats 400000
/-! A for over enumerate of a tuple; what lies off the deck. -/
namespace Ea
open PySem PySem.Spec PyProof PyProof.Rows L2
theorem rd_ifV {tt : TT} {te tz : TE} {σ : L2.St} {H : Hp} {Q : VK} (I : V → Hp → Prop) (h1 : ∀ Q' : VK, (∀ v H', I v H' → Q' v H') → tIf tt te tz σ H Q') (h : ∀ v H', I v H' → Q v H') : tIf tt te tz σ H Q := h1 Q h
section
variable {K : PySem.W.Frag} {σ : L2.St} {H : Hp} {tb : TS} {D : Ends} {j1 j2 k : Nat} {n : Nat} {px py : Nat → V} {J : It}
/-- a for over pairs that are made for it -/
theorem fr_pairs (hk : k = 2) (Pv : Nat → L2.St → Hp → Prop) (h0 : Pv 0 σ H) (go : ∀ i σ H', Pv i σ H' → i < n → J.go i H') (stop : ∀ σ H', Pv n σ H' → J.stop n H')
    (yld : ∀ i σ H1 x H2, Pv i σ H1 → i < n → J.yld i H1 x H2 → ∃ T, x = .ref T ∧ H1 T = none ∧ H2 = upd H1 T (.tup [px i, py i]))
    (hs : ∀ i σ H1 T, i < n → Pv i σ H1 → H1 T = none → tb { D with nx := Pv (i + 1), ct := Pv (i + 1), bk := D.nx } ((σ.set j1 (some (px i))).set j2 (some (py i))) (upd H1 T (.tup [px i, py i])))
    (hd : ∀ σ H, Pv n σ H → D.nx σ H) : ForR (gTup K k (gCons (gName j1) (gCons (gName j2) gNil))) tb D σ J H := by
  refine ⟨fun i m σ' H' => i + m = n ∧ Pv i σ' H', ⟨n, by omega, h0⟩, fun i m σ' H' hW => ?_⟩
  obtain ⟨em, hp⟩ := hW
  by_cases hi : i < n
  · refine .inr ⟨go i σ' H' hp hi, Pv (i + 1), fun σ2 H2 h2 => ⟨m - 1, by omega, by omega, h2⟩, fun x H2 hy => ?_⟩
    obtain ⟨T, rfl, hT, rfl⟩ := yld i σ' H' x H2 hp hi hy
    exact rd_gtup2 (x := px i) (y := py i) (SqT.of upd_same) hk rfl (hs i σ' H' T hi hp hT)
  · have hin : i = n := by omega
    subst hin
    exact .inl ⟨stop σ' H' hp, hd σ' H' hp⟩
theorem fr_enumT {a : Addr} {xs : List V} (hk : k = 2) (Pv : Nat → L2.St → Hp → Prop) (h0 : Pv 0 σ H) (hl : ∀ i σ H, Pv i σ H → SqT K H a xs)
    (hs : ∀ i σ H1 T, i < xs.length → Pv i σ H1 → H1 T = none → tb { D with nx := Pv (i + 1), ct := Pv (i + 1), bk := D.nx } ((σ.set j1 (some (.int (i : Nat)))).set j2 (some (xs.getD i .non))) (upd H1 T (.tup [.int (i : Nat), xs.getD i .non])))
    (hd : ∀ σ H, Pv xs.length σ H → D.nx σ H) : ForR (gTup K k (gCons (gName j1) (gCons (gName j2) gNil))) tb D σ (IteT K a) H :=
  fr_pairs (px := fun i => .int (i : Nat)) (py := fun i => xs.getD i .non) hk Pv h0 (fun i σ H' p hi => ⟨xs, xs[i], hl i σ H' p, List.getElem?_eq_getElem hi⟩) (fun σ H' p => ⟨xs, hl _ σ H' p, rfl⟩)
    (fun i σ H1 x H2 p hi hy => by
      obtain ⟨T, y, rfl, hT, rfl, h⟩ := hy
      have := h xs (hl i σ H1 p)
      refine ⟨T, rfl, hT, ?_⟩
      show _ = upd H1 T (.tup [.int (i : Nat), xs.getD i .non])
      rw [List.getD_eq_getElem?_getD, this] <;> rfl) hs hd
end
/-! ### off the deck -/
def off (d l : Addr) (H : Hp) : Hp := fun a => if a = d ∨ a = l then none else H a
section
variable {d l : Addr} {H H' : Hp} {K : PySem.W.Frag}
theorem off_ex : Evl.Ex (off d l H) H := fun a o e => by
  unfold off at e
  by_cases h : a = d ∨ a = l
  · rw [if_pos h] at e
    cases e
  · rw [if_neg h] at e
    exact e
theorem off_mono (h : ∀ a o, a ≠ d → a ≠ l → H a = some o → H' a = some o) : Evl.Ex (off d l H) (off d l H') := fun a o e => by
  unfold off at e ⊢
  by_cases q : a = d ∨ a = l
  · rw [if_pos q] at e
    cases e
  · rw [if_neg q] at e ⊢
    exact h a o (fun z => q (.inl z)) (fun z => q (.inr z)) e
theorem Gl.off (g : Gl d l H H') : Evl.Ex (off d l H) (off d l H') := off_mono g.kp
theorem off_at {p : Addr} {o : HO} (h1 : p ≠ d) (h2 : p ≠ l) (e : H p = some o) : Ea.off d l H p = some o := by
  unfold Ea.off
  rw [if_neg fun z => z.elim h1 h2]
  exact e
theorem off_tup {a : Addr} {xs : List V} (hD : DeckL d l H) (h : SqT K H a xs) : SqT K (Ea.off d l H) a xs := by
  obtain ⟨ns, m, c, e1, e2, _⟩ := hD
  have hn : ∀ {o : HO}, H a = some o → (∀ ys, o ≠ .lst ys) → Ea.off d l H a = some o := fun e c2 =>
    off_at (fun z => (by rw [z, e1] at e; cases e; exact c2 _ rfl)) (fun z => (by rw [z, e2] at e; cases e; exact c2 _ rfl)) e
  rcases h with (t | ⟨o, t⟩) | t
  · exact .inl (.inl (hn t nofun))
  · exact .inl (.inr ⟨o, hn t nofun⟩)
  · exact .inr t
mutual
theorem off_dp (hD : DeckL d l H) : ∀ (e : PyData) (v : V), noL e = true → Dp K H v e → Dp K (Ea.off d l H) v e
  | .none, _, _, h => by
    cases h
    exact .non
  | .bool b, _, _, h => by
    cases h
    exact .bl b
  | .int i, _, _, h => by
    cases h
    exact .int i
  | .str x, _, _, h => by
    cases h
    exact .str x
  | .list ds, _, c, _ => by cases c
  | .dict ds, _, c, _ => by cases c
  | .tuple ds, _, c, h => by
    cases h with
    | tup hs ha => exact .tup (off_tup hD hs) (off_dps hD ds _ c ha)
theorem off_dps (hD : DeckL d l H) : ∀ (es : List PyData) (vs : List V), noLs es = true → DpAll K H vs es → DpAll K (Ea.off d l H) vs es
  | [], _, _, h => by
    cases h
    exact .nil
  | e :: es, _, c, h => by
    have c : (noL e && noLs es) = true := c
    rw [Bool.and_eq_true] at c
    cases h with
    | cons h1 h2 => exact .cons (off_dp hD e _ c.1 h1) (off_dps hD es _ c.2 h2)
end
theorem Dv.on {v : V} {e : PyData} (h : Dv K (Ea.off d l H) v e) : Dv K H v e := h.ex off_ex
theorem Dv.gl {v : V} {e : PyData} (g : Gl d l H H') (h : Dv K (Ea.off d l H) v e) : Dv K (Ea.off d l H') v e := h.ex g.off
end
/-! ### comprehensions over rows of data, each turned into a plain value -/
section
variable {K : PySem.W.Frag} {σ : L2.St} {H : Hp} {Q : VK} {tt : TT} {te : TE} {vs : List Nat} {j : Nat} {σx : V → L2.St} {a : Addr} {xs : List V} {ρ : Type} {F : ρ → PyData} {rs : List ρ} {f : ρ → Bool} {g : ρ → V}
abbrev TurnW (K : PySem.W.Frag) (H : Hp) (tt : TT) (te : TE) (σx : V → L2.St) (F : ρ → PyData) (f : ρ → Bool) (g : ρ → V) (r : ρ) : Prop :=
  ∀ (v : V) (H' : Hp) (N : VK) (S : Hp → Prop), Evl.Ex H H' → Dp K H' v (F r) → (f r = true → ∀ H3, Evl.Ex H' H3 → N (g r) H3) → (f r = false → ∀ H3, Evl.Ex H' H3 → S H3) →
    tt (σx v) H' fun b H2 => if b = true then te (σx v) H2 N else S H2
def Cw (H : Hp) (rs : List ρ) (f : ρ → Bool) (g : ρ → V) (D : Addr) (i : Nat) (H' : Hp) : Prop := H D = none ∧ Evl.Ex H H' ∧ H' D = some (.lst (((rs.take i).filter f).map g))
theorem cw_turn {D : Addr} {i : Nat} {r : ρ} {v : V} {H' : Hp} (hi : rs[i]? = some r) (hz : rs.length ≤ 40000) (ht : TurnW K H tt te σx F f g r) (hv : Dp K H v (F r)) (p : Cw H rs f g D i H') :
    tt (σx v) H' fun b H3 => if b = true then te (σx v) H3 fun y H4 => ∃ acc, H4 D = some (.lst acc) ∧ acc.length < sizeLine ∧ Cw H rs f g D (i + 1) (upd H4 D (.lst (acc ++ [y]))) else Cw H rs f g D (i + 1) H3 := by
  obtain ⟨e, ex, ea⟩ := p
  have hl : (((rs.take i).filter f).map g).length < 100000 := by
    rw [List.length_map]
    have h1 := List.length_filter_le f (rs.take i)
    have h3 := List.length_take (i := i) (l := rs)
    omega
  refine ht v H' _ _ ex (dp_ex ex _ _ hv) (fun hf H3 e3 => ?_) fun hf H3 e3 => ?_
  · refine ⟨_, e3 D _ ea, Evl.sz_lt hl, e, Evl.Ex.mut (ex.trans e3) e, ?_⟩
    have : ((some r).toList.filter f) = [r] := by simp [hf]
    rw [upd_same, List.take_add_one, hi, List.filter_append, List.map_append, this] <;> rfl
  · refine ⟨e, ex.trans e3, ?_⟩
    have : ((some r).toList.filter f) = [] := by simp [hf]
    rw [List.take_add_one, hi, List.filter_append, this, List.append_nil]
    exact e3 D _ ea
theorem lc_dvT (F : ρ → PyData) (f : ρ → Bool) (g : ρ → V) (hx : SqT K H a xs) (hd : DpAll K H xs (rs.map F)) (hz : rs.length ≤ 40000) (hσ : ∀ x, (wipe σ vs).set j (some x) = σx x) (hw : ∀ x, wipe (σx x) vs = wipe σ vs)
    (hs : ∀ r ∈ rs, TurnW K H tt te σx F f g r)
    (hq : ∀ D H', Evl.Ex H H' → H D = none → H' D = some (.lst ((rs.filter f).map g)) → Q (.ref D) H') : LcR (gName j) tt te vs σ Q (Itt K a) H := fun D hn =>
  lc_tup (xs := xs) (Cw H rs f g D) ⟨hn, Evl.Ex.new hn, upd_same⟩ (fun i H' _ ⟨_, ex, _⟩ => Evl.ex_t ex hx) (fun i x H' hi p => by
    obtain ⟨d, h1, h2⟩ := dpAll_at hd hi
    rw [List.getElem?_map] at h1
    obtain ⟨r, hr, rfl⟩ := Option.map_eq_some_iff.mp h1
    rw [show gName j x (wipe σ vs) H' = fun N => N (σx x) H' from funext fun N => by rw [← hσ x] <;> rfl]
    exact ⟨hw _, cw_turn hr hz (hs r (List.mem_of_getElem? hr)) h2 p⟩) fun H' p => by
    obtain ⟨e, ex, ea⟩ := p
    have lx := dpAll_size hd
    rw [List.length_map] at lx
    rw [lx, List.take_of_length_le (Nat.le_refl _)] at ea
    exact hq D H' ex e ea
theorem lc_dvL (F : ρ → PyData) (f : ρ → Bool) (g : ρ → V) (hx : SqL K H a xs) (hd : DpAll K H xs (rs.map F)) (hz : rs.length ≤ 40000) (hσ : ∀ x, (wipe σ vs).set j (some x) = σx x) (hw : ∀ x, wipe (σx x) vs = wipe σ vs)
    (hs : ∀ r ∈ rs, TurnW K H tt te σx F f g r)
    (hq : ∀ D H', Evl.Ex H H' → H D = none → H' D = some (.lst ((rs.filter f).map g)) → Q (.ref D) H') : LcR (gName j) tt te vs σ Q (Itl K a) H := fun D hn =>
  lc_list (xs := xs) (Cw H rs f g D) ⟨hn, Evl.Ex.new hn, upd_same⟩ (fun i H' _ ⟨_, ex, _⟩ => Evl.ex_l ex hx) (fun i x H' hi p => by
    obtain ⟨d, h1, h2⟩ := dpAll_at hd hi
    rw [List.getElem?_map] at h1
    obtain ⟨r, hr, rfl⟩ := Option.map_eq_some_iff.mp h1
    rw [show gName j x (wipe σ vs) H' = fun N => N (σx x) H' from funext fun N => by rw [← hσ x] <;> rfl]
    exact ⟨hw _, cw_turn hr hz (hs r (List.mem_of_getElem? hr)) h2 p⟩) fun H' p => by
    obtain ⟨e, ex, ea⟩ := p
    have lx := dpAll_size hd
    rw [List.length_map] at lx
    rw [lx, List.take_of_length_le (Nat.le_refl _)] at ea
    exact hq D H' ex e ea
end
theorem rd_noneI {K : PySem.W.Frag} {H : Hp} {Q : VK} {a p : Addr} {ns : List Int} (hx : SqL K H a (ns.map V.int)) (hp : SqL K H p []) (q : Q (.bl ns.isEmpty) H) : rEqD K (.ref a) (.ref p) H Q :=
  ⟨.list (dI ns), .list [], .lst hx (dp_ints ns), .lst hp .nil, shaped_ints ns, rfl, by cases ns <;> exact q⟩
theorem rd_someI {K : PySem.W.Frag} {H : Hp} {Q : VK} {a p : Addr} {ns : List Int} (hx : SqL K H a (ns.map V.int)) (hp : SqL K H p []) (q : Q (.bl (!ns.isEmpty)) H) : rNeD K (.ref a) (.ref p) H Q :=
  ⟨.list (dI ns), .list [], .lst hx (dp_ints ns), .lst hp .nil, shaped_ints ns, rfl, by cases ns <;> exact q⟩
/-! ### without the list at o -/
def wo (o : Addr) (H : Hp) : Hp := fun a => if a = o then none else H a
section
variable {d l o : Addr} {H H' : Hp} {K : PySem.W.Frag}
theorem wo_mono (h : ∀ a u, a ≠ o → H a = some u → H' a = some u) : Evl.Ex (wo o H) (wo o H') := fun a u e => by
  unfold wo at e ⊢
  by_cases q : a = o
  · rw [if_pos q] at e
    cases e
  · rw [if_neg q] at e ⊢
    exact h a u q e
theorem wo_ex : Evl.Ex (wo o H) H := fun a u e => by
  unfold wo at e
  by_cases h : a = o
  · rw [if_pos h] at e
    cases e
  · rw [if_neg h] at e
    exact e
theorem wo_new (h : H o = none) : Evl.Ex H (wo o H) := fun a u e => by
  unfold wo
  rw [if_neg (ne_of_none e h)]
  exact e
theorem wo_tup {a : Addr} {xs ys : List V} (ho : H o = some (.lst ys)) (h : SqT K H a xs) : SqT K (wo o H) a xs := by
  have hn : ∀ {u : HO}, H a = some u → (∀ ys, u ≠ .lst ys) → wo o H a = some u := fun e c => by
    unfold wo
    rw [if_neg fun z => (by rw [z, ho] at e; cases e; exact c _ rfl)]
    exact e
  rcases h with (t | ⟨u, t⟩) | t
  · exact .inl (.inl (hn t nofun))
  · exact .inl (.inr ⟨u, hn t nofun⟩)
  · exact .inr t
theorem wo_at {a : Addr} {u : HO} (h : a ≠ o) (e : H a = some u) : wo o H a = some u := by
  unfold wo
  rw [if_neg h]
  exact e
theorem wo_gl (g : Gl d l H H') : Evl.Ex (wo o (off d l H)) (wo o (off d l H')) := wo_mono fun a u _ e => g.off a u e
theorem wo_mut {u : HO} : Evl.Ex (wo o (off d l H)) (wo o (off d l (upd H o u))) := wo_mono fun a v h e => by
  unfold off at e ⊢
  by_cases q : a = d ∨ a = l
  · rw [if_pos q] at e
    cases e
  · rw [if_neg q] at e ⊢
    rw [upd_ne h]
    exact e
end
end Ea
set_option Elab.async false
set_option linter.all false
set_option maxRecDepth 100000
set_option maxHeartbeats 1000000
/-! A tuple times an int, also times one. -/
namespace Ea
open PySem PySem.Spec PyProof PyProof.Rows L2
theorem tuple_mul1 (l : Addr) (items : Array Value) (n : Nat) (dd : Option Addr) (sl : Array (Option Value)) (x : Int) (u : Tok) (c0 : (decide (x < -(2 ^ 63)) || decide (x ≥ 2 ^ 63)) = false) (c1 : (items.isEmpty || x == 1) = true) :
    Meets (Builtin.«tuple.__mul__» ⟨[.ref l, .int x u], []⟩) (fun _ R s => s.heap.get? l = some { cls := .type "tuple", dict := dd, data := .seq items n, slots := sl } ∧
      R (.ok (.ret (Value.ref l))) s) :=
  .of_wp fun prog w A R s h => by
    obtain ⟨hp, g, d, tk, os⟩ := s
    obtain ⟨hl, h⟩ := h
    have f1 := AutoSeq1.idx_int
    wp_walk using wpAny_loadPart' hl
    repeat (first
      | (refine wpAny_ite_false (decide_eq_false (by rw [c0]; exact Bool.false_ne_true)) ?_; wp_walk using wpAny_loadPart' hl)
      | (refine wpAny_ite_true (decide_eq_true c1) ?_; wp_walk using wpAny_loadPart' hl))
    exact ⟨_, rfl, h⟩
theorem op_repT1 {X : Cx} {K : PySem.W.Frag} (hK : X.K = K) : OpR X (binaryOp .Mult) (fun x y H Q => ∃ l xs, x = .ref l ∧ y = .int 1 ∧ SqT K H l xs ∧ Q (.ref l) H) := by
  subst hK
  intro pins s σ H x y v u Q I rx ry h
  obtain ⟨l, xs, rfl, rfl, hT, q⟩ := h
  cases rx
  obtain ⟨t, rfl⟩ := ry
  obtain ⟨its, r, ⟨⟨cls, dd, data, sl⟩, ho, hc, n, hd⟩, hs⟩ := I.tuple hT
  simp only at hc hd
  subst hc hd
  refine wpAny_binaryOp_repeat_ref (T := "tuple") (U := "int") (by decide) ⟨_, ho, rfl⟩ (fun s' => typeIs_int s' 1 t) noFill_tuple_mul F.fills_int_mul F.slot_int_rmul repeat_tuple F.slot_int_index.lookup
    (call_meets F.slot_int_rmul (typeIs_int s 1 t) F.entry_int_rmul (F.args_int_rmul_2 _ _) (int_rmul_tuple 1 t l its.toArray n dd sl)
      ⟨ho, rfl, ⟨_, ho, rfl⟩, call_meets F.slot_tuple_mul ⟨_, ho, rfl⟩ F.entry_tuple_mul (F.args_tuple_mul_2 _ _) (tuple_mul1 l its.toArray n dd sl 1 t (by decide) (by rw [Bool.or_eq_true]; exact .inr rfl)) ⟨ho, ?_⟩⟩)
  exact ⟨.ref l, H, I, rfl, q⟩
/-- a tuple of at least one, times k from 1 on -/
def rRepA (K : PySem.W.Frag) : R2 := fun x y H Q => ∃ l k xs, x = .ref l ∧ y = .int k ∧ SqT K H l xs ∧ xs ≠ [] ∧ 1 ≤ k ∧ k ≤ 1000 ∧ xs.length ≤ 1000 ∧
  ∀ (p : Addr) (H' : Hp), Evl.Ex H H' → SqT K H' p (List.replicate k.toNat xs).flatten → Q (.ref p) H'
theorem op_repA {X : Cx} {K : PySem.W.Frag} (hK : X.K = K) : OpR X (binaryOp .Mult) (rRepA K) := by
  subst hK
  intro pins s σ H x y v u Q I rx ry h
  obtain ⟨l, k, xs, rfl, rfl, hT, hne, h1, h2, hz, q⟩ := h
  by_cases c : k = 1
  · subst c
    refine op_repT1 rfl pins s σ H _ _ v u Q I rx ry ⟨l, xs, rfl, rfl, hT, q l H (Evl.Ex.refl _) ?_⟩
    have : (List.replicate (1 : Int).toNat xs).flatten = xs := by simp
    rw [this]
    exact hT
  · exact op_repT pins s σ H _ _ v u Q I rx ry ⟨l, k, xs, rfl, rfl, hT, hne, by omega, h2, hz, fun p hp => q p _ (Evl.Ex.new hp) (SqT.of upd_same)⟩
theorem rd_repA {K : PySem.W.Frag} {H : Hp} {Q : VK} {l : Addr} {k : Int} {xs : List V} (hT : SqT K H l xs) (hne : xs ≠ []) (h1 : 1 ≤ k) (h2 : k ≤ 1000) (hz : xs.length ≤ 1000)
    (q : ∀ (p : Addr) (H' : Hp), Evl.Ex H H' → SqT K H' p (List.replicate k.toNat xs).flatten → Q (.ref p) H') : rRepA K (.ref l) (.int k) H Q := ⟨l, k, xs, rfl, rfl, hT, hne, h1, h2, hz, q⟩
end Ea
set_option Elab.async false
set_option linter.all false
set_option maxRecDepth 100000
set_option maxHeartbeats 1000000
/-! An own error over ValueError whose __init__ says super().__init__(text) and keeps what it was given. -/
namespace Ea
open PySem PySem.Spec PyProof PyProof.Rows L2 NdefX
def spSup (C : Addr) (fld : Str) : Sp := fun vs H Q _ => ∃ (a : Addr) (y : V), vs = [.ref a, y] ∧ H a = some (exo a C none) ∧
  ∀ dx, H dx = none → dx ≠ a → Q .non (upd (upd H dx (exd dx [(fld, y)])) a (exo a C (some dx)))
/-- the wrapper's call -/
theorem call_wrap {prog : Program} {w : World} {A : Around} {E : Value → Shared → Prop} {s : Shared} {K : PySem.W.Frag} {C a u t0 : Addr} {rest : List Value} {Q : Value → Shared → Prop} (KX : K.In s.heap)
    (q : PySem.W.excInitIn K C [.type "ValueError", .type "Exception", .type "BaseException", .type "object"] "ValueError.__new__" = true)
    (he : s.heap.get? a = some (PySem.W.excObj C t0 none .none)) (hu : s.heap.get? u = some (PySem.W.kxs_mw "ValueError.__init__" a)) (hz : rest.length ≤ sizeLine)
    (h : ∀ h' t1, (∀ b o, b ≠ a → s.heap.get? b = some o → h'.get? b = some o) → h'.get? a = some (PySem.W.excObj C t1 none .none) → Q .none { s with heap := h' }) :
    wpAny (model prog w) A (call (.ref u) rest) Q E s := by
  obtain ⟨nm, N', qn, bs, bm, hdct, sn, sub, ab, col, dd, k0, k1, k2, k3, k5, hC, hT⟩ := PySem.W.excInit_of KX q
  obtain ⟨hh, g, d, tk, os⟩ := s
  refine wpAny_call (codeAny_of_tree ?_)
  show wpAny _ A.in1 (callAny (.ref u) ⟨rest, []⟩) _ _ _
  simp only [callAny]
  refine wpAny_bind (wpAny_load hu ?_)
  simp only [PySem.W.kxs_mw, show (Value.type "method-wrapper" == Value.type "method" || Value.type "method-wrapper" == Value.type "builtin_function_or_method" || Value.type "method-wrapper" == Value.type "method-wrapper") = true by decide, if_true]
  refine PySem.W.KFB.if_so (by decide) ?_
  refine wpAny_bind (PySem.W.check_bound_init PySem.F.excBase_ValueError.toExcCallFacts hC he rfl ?_)
  refine wpAny_bind (wpAny_pure (wpAny_pure ?_))
  refine ⟨plainId_quiet PySem.F.excBase_ValueError.init.plain _, codeAny_builtin PySem.F.excBase_ValueError.initEntry ?_⟩
  exact PySem.W.exc_init_tree (cls := .ref C) (t0 := t0) (dv := none) (c2 := .none) (c3 := .none) (b4 := .bool false) he hz fun h' k e' t' => h h' _ k e'
theorem cw1 {M : Model} {A : Around} {E : Value → Shared → Prop} {s : Shared} {u x : Addr} {i : String} {pos : Pos} {env : Env} {e : Expr} {rest : List Expr} {Q : Value → Shared → Prop}
    (h : wpAny M A (spliced (backTo pos (starEach (e :: rest) env))) (fun vs s₁ => PySem.W.KxsAt i u x s₁.heap ∧ wpAny M A (call (.ref u) vs) Q E s₁) E s)
    (he : starEach (e :: rest) env = (false, eval e env) :: starEach rest env := by rfl) (hplain : (backTo pos (starEach rest env)).any (·.1) = false := by rfl) :
    wpAny M A (callWith pos (.ref u) [] (backTo pos (starEach (e :: rest) env)) []) Q E s := by
  rw [he] at h ⊢
  refine PySem.W.kxs_callWith (i := i) (x := x) (by show (false || (backTo pos (starEach rest env)).any (·.1)) = false; rw [hplain]; rfl) ?_
  exact Calls.evalArgs_plain h
section
variable {P : Program} {w : World} {K : PySem.W.Frag} {mg : Str → Option Value} {base : Heap} {C fI cc cda : Addr} {nm qual fld msg file self : Str} {args : Arguments} {sc : Scope} {kV doc pm ct oc c1 cl : Value} {an od c2 cld : Option Addr} {osl c3 csl : Array (Option Value)} {vs : Array Value} {tf : Tok}
  {p0 p1 p2 p3 p4 p5 p6 p7 p8 p9 : Pos} {kk : Nat} {k : Nat}
abbrev supCall (msg : Str) (p0 p1 p2 p3 p4 : Pos) (kk : Nat) : Expr := .Call (.Attribute (.Call (.Name "super" p0) [] [] p1) "__init__" p2) [.Constant (.str msg) kk p3] [] p4
abbrev supBody (self fld msg : Str) (p0 p1 p2 p3 p4 p5 p6 p7 p8 p9 : Pos) (kk : Nat) : List Stmt :=
  [.Expr (supCall msg p0 p1 p2 p3 p4 kk) p5, .Assign [.Attribute (.Name self p6) fld p7] (.Name fld p8) p9]
theorem ok_super (T : OexC K C)
    (q : PySem.W.excInitIn K C [.type "ValueError", .type "Exception", .type "BaseException", .type "object"] "ValueError.__new__" = true)
    (lf : K.lookup fI = some ⟨oc, od, .func (PySem.W.ksFn nm qual args (supBody self fld msg p0 p1 p2 p3 p4 p5 p6 p7 p8 p9 kk) sc .none kV doc pm an (.ref cda) ct cc), osl⟩)
    (hcd : PySem.W.codeIn K (.ref cda) qual = true) (lc : K.lookup cda = some ⟨c1, c2, .fields vs, c3⟩) (hvs : vs[2]? = some (.str file tf)) (hfile : ((P.main.file : Str) == file) = true)
    (htop : (P.main.scope.names.lookup ("super" : Str)).isSome = false) (lcell : K.lookup cc = some ⟨cl, cld, .cell (some (.ref C)), csl⟩)
    (hsub : PySem.W.mroIn K C (.ref C) = some true) (hsup : PySem.W.ks_superIn K C C "__init__" = some (some (.builtin "ValueError.__init__")))
    (hB : PySem.W.subIn K (.ref C) (.type "ValueError") = some true) (hop : PySem.W.nsIn K cStatics "thirdparty.any" = some none) (hmg : mg "super" = none)
    (hfind : PySem.W.findIn K (.ref C) fld = some none) (S : NScope [self, fld, "__class__"] [self, fld] ["__class__"] sc)
    (hks : sc.names.lookup ("super" : Str) = some .globalImplicit) {ar : Arg} (ha1 : (args.posonlyargs ++ args.args).head? = some ar) (har : ar.arg = self) (hne : (self == fld) = false) (v1 : Vis sc self) (v2 : Vis sc fld) (n1 : (self == ("__debug__" : Str)) = false) (n2 : (self == ("__classdict__" : Str)) = false) (n3 : (fld == ("__debug__" : Str)) = false) (n4 : (fld == ("__classdict__" : Str)) = false)
    {pl : Addr → Sem Bool} (hev : ∀ L : Addr, eval (supCall msg p0 p1 p2 p3 p4 kk) (PySem.W.envX qual sc L fI (.ref cda) [("__class__", cc)]) = (do
      let ov ← attributeBase (.Call (.Name "super" p0) [] [] p1) "__init__" (PySem.W.envX qual sc L fI (.ref cda) [("__class__", cc)]) (eval (.Call (.Name "super" p0) [] [] p1) (PySem.W.envX qual sc L fI (.ref cda) [("__class__", cc)]))
      standAt p2.atName
      let (f, first) ← holding [ov] (getMethod ov "__init__" (pl L))
      callWith p4 f first (backTo p4 (starEach [.Constant (.str msg) kk p3] (PySem.W.envX qual sc L fI (.ref cda) [("__class__", cc)]))) []))
    (hin : ∀ L : Addr, interactive (PySem.W.envX qual sc L fI (.ref cda) [("__class__", cc)]) = false)
    (hsw : ∀ L : Addr, swapsWith (supCall msg p0 p1 p2 p3 p4 kk) none p5.line (PySem.W.envX qual sc L fI (.ref cda) [("__class__", cc)]) = pure false)
    (hsw2 : ∀ L : Addr, swapsWith (.Name fld p8) (some (.Attribute (.Name self p6) fld p7)) p9.line (PySem.W.envX qual sc L fI (.ref cda) [("__class__", cc)]) = pure false) :
    FnOk P w K mg base CX0 (k + 1) fI (PySem.W.ksFn nm qual args (supBody self fld msg p0 p1 p2 p3 p4 p5 p6 p7 p8 p9 kk) sc .none kV doc pm an (.ref cda) ct cc) [self, fld] (spSup C fld) := by
  refine ⟨fun vs H Q E ⟨_, _, e, _⟩ => by rw [e]; rfl, fun A outer s H ar0 us vals Q E hr e0 hb r hsp => ?_⟩
  obtain ⟨a, y, rfl, ha, hq⟩ := hsp
  obtain ⟨u1, u2, rfl, r1, r2⟩ := vals2 r
  cases (show u1 = Value.ref a from r1)
  have hb : BindsTo s _ ar0 [(self, Value.ref a), (fld, u2)] := hb
  have KX : K.In s.heap := e0.mod.kin.keeps fun b o e => (e0.bs b o e).1
  have lim : s.heap.NoLimit := e0.mod.nolimit.keeps fun b o e => (e0.bs b o e).1
  refine codeAny_call_function hr.depth (KX _ _ lf) rfl S.co S.gen rfl (PySem.W.codeRec_of KX hcd) (hb _ _ _ _ ?_)
  refine wpAny_newFunctionEnv S.nocell (fun y hy => ?_) (fun h₁ hns hsb => ⟨lim.fresh _ hsb, ?_⟩) S.kind
  · simp only [List.mem_cons, List.not_mem_nil, or_false] at hy
    rcases hy with rfl | rfl
    · exact S.par _ (by simp)
    · exact S.par _ (by simp)
  let F : NF := ⟨nm, qual, args, supBody self fld msg p0 p1 p2 p3 p4 p5 p6 p7 p8 p9 kk, sc, [("__class__", cc)], cda⟩
  have kp : ∀ b o, s.heap.get? b = some o → h₁.get? b = some o := fun b o e => hsb.extBut b o (Nat.ne_of_lt (Heap.lt_size e)) (Heap.get?_push_of_some _ e)
  have hHc : H cc = none := (e0.bs _ _ (e0.mod.kin _ _ lcell)).2
  have cells : CellsAt F.cl ["__class__"] [some (.ref C)] s.heap H := {
    len := rfl
    all := fun y c e => by
      have e : List.lookup y [((Str.ofString "__class__"), cc)] = some c := e
      unfold List.lookup at e
      split at e
      · cases e
        exact ⟨hHc, _, _, KX _ _ lcell, rfl⟩
      · cases e
    inj := fun x y c e1 e2 => by
      have e1 : List.lookup x [((Str.ofString "__class__"), cc)] = some c := e1
      have e2 : List.lookup y [((Str.ofString "__class__"), cc)] = some c := e2
      have one : ∀ {x : Str}, List.lookup x [((Str.ofString "__class__"), cc)] = some c → x = Str.ofString "__class__" := fun {x} e => by
        unfold List.lookup at e
        split at e
        · next h => exact eq_of_beq h
        · cases e
      rw [one e1, one e2]
    has := fun i y e => by
      cases i with
      | zero =>
        cases e
        refine ⟨cc, by simp [List.lookup, F], fun v hv => ?_⟩
        cases hv
        exact ⟨.ref C, rfl, _, KX _ _ lcell, rfl⟩
      | succ i => simp at e }
  have I : Inv (ncx CX0 P w K mg base [self, fld, "__class__"] F fI A outer s H E) [] (startF [self, fld, "__class__"] [.ref a, y] [some (.ref C)]) H { s with heap := h₁, toks := s.toks + [(self, Value.ref a), (fld, u2)].length } :=
    inv_startN (us := [.ref a, u2]) S hr.hd e0 rfl r cells hns kp
  have hloc : h₁.Ns s.heap.objs.size fun x => ([(self, Value.ref a), (fld, u2)]).reverse.lookup x := hns
  have hFb : F.body = supBody self fld msg p0 p1 p2 p3 p4 p5 p6 p7 p8 p9 kk := rfl
  have hkc : sc.names.lookup ("__class__" : Str) = some .free := S.frk _ (by simp)
  have hkself : sc.names.lookup self = some .local := S.par _ (by simp)
  have hvself : ([(self, Value.ref a), (fld, u2)]).reverse.lookup self = some (.ref a) := by simp [List.lookup, hne]
  show codeAny _ _ (.func (supBody self fld msg p0 p1 p2 p3 p4 p5 p6 p7 p8 p9 kk) (envF F fI s.heap.objs.size)) _ _
  generalize hs1 : ({ s with heap := h₁, toks := s.toks + [(self, Value.ref a), (fld, u2)].length } : Shared) = s1 at I ⊢
  have hh1 : s1.heap = h₁ := by rw [← hs1]
  clear hs1
  obtain ⟨hh, g, d, tk, os⟩ := s1
  obtain rfl : hh = h₁ := hh1
  obtain ⟨t1, hoe⟩ := exo_at I.hok ha
  obtain ⟨nm1, q1, N1, bs1, bm, sn1, sub1, ab1, col1, dd1, x0, x1, x2, x3, x5, hC, hbm⟩ := T.cls
  have hcl : PySem.W.clsIn K C = some { name := nm1, bases := bs1, mro := .ref C :: bm, ns := N1, qualname := q1, hasDict := true, slotNames := sn1, subclasses := sub1, abstract := ab1, collection := col1, hasDel := false } := by unfold PySem.W.clsIn; rw [hC] <;> rfl
  have hCn : H C = none := (e0.bs _ _ (e0.mod.kin _ _ hC)).2
  obtain ⟨mb, hb1, hb2⟩ := e0.mod.blt
  refine ks_codeAny_funcAt ?_
  refine ks_wpAt_execs_cons ?_
  refine ks_wpAt_mono (Q := fun fl s' => fl = .next ∧ Inv (ncx CX0 P w K mg base [self, fld, "__class__"] F fI A outer s H E) [] (startF [self, fld, "__class__"] [.ref a, y] [some (.ref C)]) H s') ?_ (fun fl s' hs => ?_) fun _ _ z => z
  · refine ks_wpAt_Expr_any (ks_wpAt_MethodCall (ks_wpAt_super_base (env := envF F fI s.heap.objs.size) hks hkc rfl rfl (I.kIn _ _ lf) rfl ha1 rfl (I.kIn _ _ lc) rfl hvs hfile htop ?_) (hev _)) (hin _) (hsw _)
    refine PySem.W.ks_loadName_global S.kind hks (Calls.loadGlobal_builtin (env := envF F fI s.heap.objs.size) (I.mod.glob.keeps I.bk) hmg (hb1.keeps I.bk) ((hb2 _ (by decide)).trans (by rfl)) ⟨rfl, ?_⟩)
    refine wpAny_loadName_free S.kind hkc rfl ⟨_, I.kIn _ _ lcell, rfl⟩ ?_
    rw [har]
    refine wpAny_loadName_local S.kind hkself hloc hvself ?_
    refine ks_wpAny_isType_cls (I.kIn _ _ hC) rfl ⟨rfl, ?_⟩
    refine ks_wpAny_call_super (I.kIn _ _ hC) rfl hoe rfl (fun c e => by cases e) (PySem.W.looks_mroIn I.kIn hsub) fun h' e k => ?_
    have J1 := I.kept (t' := tk) k
    have hal : PySem.W.alongIn K "__init__" (((Value.ref C :: bm).dropWhile (· != .ref C)).drop 1) = some (some (.builtin "ValueError.__init__")) := by
      have z := hsup
      unfold PySem.W.ks_superIn at z
      rw [hcl] at z
      exact z
    have IA : PySem.W.InstAt h' a (PySem.W.excObj C t1 none .none) C none := ⟨k _ _ hoe, rfl, rfl, trivial⟩
    refine PySem.W.kxs_getMethod PySem.W.kxs_ValueError e (PySem.W.looks_opaque J1.kIn hop) (l₀ := .ref C :: bm) (fun A Q E s k q => wpAny_bind ((PySem.W.looks_clsIn J1.kIn hcl) A _ E s k (wpAny_pure q))) rfl J1.kIn hal (IA.type.andThen (PySem.W.looks_subIn J1.kIn hB)) (ne_of_none ha hCn) (by decide) ?_
    have J2 := J1.kept (t' := tk + 1) (h' := h'.push (PySem.W.kxs_mw "ValueError.__init__" a)) fun b o q => Heap.get?_push_of_some _ q
    have hu : (h'.push (PySem.W.kxs_mw "ValueError.__init__" a)).get? h'.objs.size = some (PySem.W.kxs_mw "ValueError.__init__" a) := Heap.get?_push_at rfl rfl
    refine cw1 (i := "ValueError.__init__") (x := a) (PyProof.Rows.spliced_more (Calls.Constant_str (PyProof.Rows.spliced_none ⟨hu, ?_⟩)))
    refine call_wrap (K := K) J2.kIn q (Heap.get?_push_of_some _ (k _ _ hoe)) hu (by show 1 ≤ sizeLine; decide) fun h'' t2 k2 e2 => ⟨rfl, ?_⟩
    have J3 := J2.write (x := a) (e := a) (o := exo a C none) (t' := tk + 1 + 1) (by rw [ha]; exact True.intro) (.inl rfl) k2 ⟨_, e2⟩ (exo_ok e2)
    have eu : upd H a (exo a C none) = H := by
      funext b
      by_cases hb : b = a
      · rw [hb, upd_same, ha]
      · rw [upd_ne hb]
    rw [eu] at J3
    exact J3
  · obtain ⟨rfl, J⟩ := hs
    refine wpAt_of_wpAny ?_
    have hps : PSs (ncx CX0 P w K mg base [self, fld, "__class__"] F fI A outer s H E) [.Assign [.Attribute (.Name self p6) fld p7] (.Name fld p8) p9] (tOst K fld (tVar 0) (tVar 1)) :=
      pss_one (ps_ost (pe_var (i := 0) rfl v1 n1 n2) (pe_var (i := 1) rfl v2 n3 n4) (hsw2 _))
    have hread : tOst K fld (tVar 0) (tVar 1) { nx := fun _ H' => Q .non H', rt := Q } (startF [self, fld, "__class__"] [.ref a, y] [some (.ref C)]) H :=
      ⟨y, rfl, .ref a, rfl, a, C, rfl, T, hfind, .inl ⟨ha, hq⟩⟩
    refine wpAny_mono (hps.run [] _ _ H _ J hread) (fun fl s' hs => ?_) fun e s' hs => hs
    have fin : ∀ {σ' : L2.St} {H' : Hp} {v : V} {u : Value}, Inv (ncx CX0 P w K mg base [self, fld, "__class__"] F fI A outer s H E) [] σ' H' s' → L2.RelV v u → Q v H' → CE outer P w H s Q u s' :=
      fun {σ' H' v u} J rv q => ⟨v, H', J.os, J.bare, J.base, J.hok, rv, q⟩
    cases fl with
    | ret u =>
      obtain ⟨v, σ', H', J, rv, q⟩ := hs
      exact fin J rv q
    | next =>
      obtain ⟨σ', H', J, q⟩ := hs
      exact fin (v := V.non) (u := Value.none) J rfl q
    | brk =>
      obtain ⟨_, _, _, q⟩ := hs
      exact False.elim q
    | cont =>
      obtain ⟨_, _, _, q⟩ := hs
      exact False.elim q
end
end Ea
set_option Elab.async false
set_option linter.all false
set_option maxRecDepth 100000
set_option maxHeartbeats 1000000
/-! A caught error that has a dict: a field of it, isinstance of it. -/
namespace Ea
open PySem PySem.Spec PyProof PyProof.Rows L2
section
variable {X : Cx} {C : Addr} {fld : Str}
/-- e.fld, e the exception that the suite holds -/
def tByF (fld : Str) (C a : Addr) (cls : Value) (d : Option Addr) (te : TE) : TE := fun σ H Q => te σ H fun x H1 => x = .ref a ∧ cls = .ref C ∧ ∃ (dd : Addr) (v : V), d = some dd ∧ H1 dd = some (.xd [(fld, v)]) ∧ Q v H1
theorem pe_byF {a : Addr} {oe : Obj} {cls : Value} {d : Option Addr} {pn : List (Addr × Obj)} {e : Expr} {te : TE} {pos : Pos} (T : ExcC X.K C) (noN : PySem.W.findIn X.K (.ref C) fld = some none) (hz : Zc cls d oe) (hf : ∃ vs, oe.data = .fields vs) (he : PE (X.suite a ((a, oe) :: pn)) e te)
    (hb : attributeBase e fld X.env (eval e X.env) = eval e X.env := by rfl) :
    PE (X.suite a ((a, oe) :: pn)) (.Attribute e fld pos) (tByF fld C a cls d te) := by
  refine ⟨fun pins s σ H Q I h => ?_⟩
  refine attr_of hb (thn (he.run pins s σ H _ I h) fun u s1 hh => ?_)
  obtain ⟨x, H1, I1, rx, ex, ec, dd, v, ed, ea, q⟩ := hh
  subst ex
  obtain rfl : u = Value.ref a := rx
  subst ec
  subst ed
  obtain ⟨ha, _⟩ := I1.pin (a, oe) (List.mem_append_left _ List.mem_cons_self)
  obtain ⟨vs, hd⟩ := hf
  have hx : ObjOk X.prog X.w H1 s1.heap dd (.xd [(fld, v)]) := I1.hok dd _ ea
  obtain ⟨mA, hns, hr⟩ := hx
  obtain ⟨od, ho, hl⟩ := lookIn_ns hns
  have l : List.lookup fld [(fld, v)] = some v := by simp [List.lookup]
  obtain ⟨u, hu, ru⟩ := RelO.some_of (v := v) (o := mA fld) (by rw [← l]; exact hr fld)
  have J : PySem.W.InstAt s1.heap a oe C (some od) := ⟨ha, hz.1, by unfold PySem.W.notCls; rw [hd] <;> rfl, by rw [hz.2]; exact ho⟩
  exact HandSPX.exc_get I1.kIn J T.hg T.hk T.hs (PySem.W.findObj_own T.hd noN rfl (by rw [hl, hu])) (handed_of ru) ⟨v, H1, I1.tok _, ru, q⟩
/-- isinstance(e, c), e with a dict -/
def rIsE2 (K : PySem.W.Frag) (D a : Addr) (cls : Value) (d : Option Addr) : List V → Hp → VK → Prop := fun xs H Q => ∃ (c : V) (cv : Value) (b : Bool), xs = [.ref a, c] ∧ cls = .ref D ∧ (∃ dd fs, d = some dd ∧ H dd = some (.xd fs)) ∧ (∀ u, RelV c u → u = cv) ∧ PySem.W.kitOne K (.ref D) cv = some b ∧ Q (.bl b) H
theorem call_isE2 {a D : Addr} {cls : Value} {d : Option Addr} {oe : Obj} {pn : List (Addr × Obj)} (C : ExcC X.K D) (hz : Zc cls d oe) (hf : ∃ vs, oe.data = .fields vs) : CallR (X.suite a ((a, oe) :: pn)) (.builtin "isinstance") (rIsE2 X.K D a cls d) := by
  intro pins s σ H xs us Q I r h
  obtain ⟨c, cv, b, rfl, ec, ⟨dd, fs, ed, hx⟩, hcv, e, q⟩ := h
  subst ec
  subst ed
  cases r with
  | cons rx rr =>
    cases rr with
    | cons rt rr =>
      cases rr
      cases rx
      have ec := hcv _ rt
      subst ec
      obtain ⟨hget, _⟩ := I.pin (a, oe) (List.mem_append.mpr (.inl List.mem_cons_self))
      obtain ⟨vs, hv⟩ := hf
      obtain ⟨mA, hns, _⟩ := (show ObjOk X.prog X.w H s.heap dd (.xd fs) from I.hok dd _ hx)
      obtain ⟨od, ho, _⟩ := lookIn_ns hns
      have J : PySem.W.InstAt s.heap a oe D (some od) := ⟨hget, hz.1, by unfold PySem.W.notCls; rw [hv] <;> rfl, by rw [hz.2]; exact ho⟩
      have hcl : (PySem.W.clsIn X.K D).isSome = true := by
        obtain ⟨cd, hc, _⟩ := PySem.W.any_some C.hd
        rw [hc] <;> rfl
      exact PySem.W.kia_one (PySem.W.kitx_exc hcl C.hg C.hk C.hs C.ha C.hn C.ht C.hm) I.kIn J e (fun z => nomatch z) fun tk => ⟨.bl b, H, I.kept (t' := tk) fun _ _ z => z, rfl, q⟩
end
end Ea
set_option Elab.async false
set_option linter.all false
set_option maxRecDepth 100000
set_option maxHeartbeats 400000
/-! A comprehension over a tuple, each turn laying what it likes; a chained comparison. -/
namespace Ea
open PySem PySem.Spec PyProof PyProof.Rows L2
section
variable {K : PySem.W.Frag} {σ : L2.St} {H : Hp} {Q : VK} {te : TE} {vs : List Nat} {j : Nat} {σx : V → L2.St} {a : Addr} {xs : List V}
theorem lc_exT (Pv : Nat → List V → Hp → Prop) (stay : ∀ i acc H1 D ys u, H1 D = some (.lst ys) → Pv i acc H1 → Pv i acc (upd H1 D (.lst u)))
    (hx : SqT K H a xs) (hz : xs.length ≤ 40000) (hσ : ∀ x, (wipe σ vs).set j (some x) = σx x) (hw : ∀ x, wipe (σx x) vs = wipe σ vs) (h0 : ∀ H', Evl.Ex H H' → Pv 0 [] H')
    (hs : ∀ i x, xs[i]? = some x → ∀ (acc : List V) (H' : Hp) (N : VK), Evl.Ex H H' → Pv i acc H' → (∀ v H3, Evl.Ex H' H3 → Pv (i + 1) (acc ++ [v]) H3 → N v H3) → te (σx x) H' N)
    (hd : ∀ D acc H', Evl.Ex H H' → H D = none → H' D = some (.lst acc) → Pv xs.length acc H' → Q (.ref D) H') : LcR (gName j) tYes te vs σ Q (Itt K a) H := fun D hn =>
  lc_tup (xs := xs) (fun i H' => i ≤ xs.length ∧ Evl.Ex H H' ∧ ∃ acc, H' D = some (.lst acc) ∧ acc.length = i ∧ Pv i acc H') ⟨Nat.zero_le _, Evl.Ex.new hn, [], upd_same, rfl, h0 _ (Evl.Ex.new hn)⟩ (fun i H' _ ⟨_, ex, _⟩ => Evl.ex_t ex hx) (fun i x H' hi p => by
    obtain ⟨_, ex, acc, ea, hl, hp⟩ := p
    have hlt := (List.getElem?_eq_some_iff.mp hi).1
    rw [show gName j x (wipe σ vs) H' = fun N => N (σx x) H' from funext fun N => by rw [← hσ x] <;> rfl]
    refine ⟨hw _, ?_⟩
    refine rd_yes ?_
    rw [if_pos rfl]
    refine hs i x hi acc H' _ ex hp fun v H3 e3 hp3 => ⟨acc, e3 D _ ea, Evl.sz_lt (by omega), by omega, Evl.Ex.mut (ex.trans e3) hn, acc ++ [v], upd_same, by rw [List.length_append, hl] <;> rfl, stay _ _ _ _ _ _ (e3 D _ ea) hp3⟩) fun H' p => by
    obtain ⟨_, ex, acc, ea, _, hp⟩ := p
    exact hd D acc H' ex hn ea hp
end
theorem rd_chain {r r' : R2} {ta tb tc : TE} {σ : L2.St} {H : Hp} {Q : VK} (h : ta σ H fun x H1 => tb σ H1 fun y H2 => r x y H2 fun z H3 => ∃ k, z = .bl k ∧ (if k = true then tc σ H3 fun w' H4 => r' y w' H4 Q else Q (.bl false) H3)) : tChain r r' ta tb tc σ H Q := h
end Ea
set_option Elab.async false
set_option linter.all false
set_option maxRecDepth 100000
set_option maxHeartbeats 400000
/-! Rows held as cells (keys of a dict want the very cell); a comprehension over a list that makes lists. -/
namespace Ea
open PySem PySem.Spec PyProof PyProof.Rows L2
theorem rd_catC {K : PySem.W.Frag} {H : Hp} {Q : VK} {p p2 : Addr} {xs ys : List V} (s : H p = some (.tup xs)) (s2 : H p2 = some (.tup ys)) (hz : xs.length + ys.length ≤ sizeLine)
    (h : ∀ (q : Addr) (H' : Hp), Evl.Ex H H' → H' q = some (.tup (xs ++ ys)) → Q (.ref q) H') : rCatA K (.ref p) (.ref p2) H Q := by
  refine ⟨p, p2, xs, ys, rfl, rfl, SqT.of s, SqT.of s2, hz, fun e => ?_, fun _ e => ?_, fun _ _ q hq => h q _ (Evl.Ex.new hq) upd_same⟩
  · subst e
    exact h p2 H (Evl.Ex.refl H) s2
  · subst e
    exact h p H (Evl.Ex.refl H) (by rw [List.append_nil]; exact s)
/-- rows as cells -/
def Cs (H : Hp) (vs : List V) (ps : List (List Int)) : Prop := vs.length = ps.length ∧ ∀ (j : Nat) (p : List Int), ps[j]? = some p → ∃ b : Addr, vs[j]? = some (.ref b) ∧ H b = some (.tup (p.map V.int))
theorem Cs.nil {H : Hp} : Cs H [] [] := ⟨rfl, fun j p h => by simp at h⟩
theorem Cs.one {H : Hp} {b : Addr} {p : List Int} (h : H b = some (.tup (p.map V.int))) : Cs H [.ref b] [p] := ⟨rfl, fun j q hq => by
  cases j with
  | zero =>
    obtain rfl : p = q := Option.some.inj hq
    exact ⟨b, rfl, h⟩
  | succ j => simp at hq⟩
theorem Cs.app {H : Hp} {vs us : List V} {ps qs : List (List Int)} (h : Cs H vs ps) (h2 : Cs H us qs) : Cs H (vs ++ us) (ps ++ qs) := ⟨by rw [List.length_append, List.length_append, h.1, h2.1], fun j p hj => by
  rw [List.getElem?_append] at hj
  split at hj
  · next c =>
    obtain ⟨b, h3, h4⟩ := h.2 j p hj
    exact ⟨b, by rw [List.getElem?_append_left (by rw [h.1]; exact c)]; exact h3, h4⟩
  · next c =>
    obtain ⟨b, h3, h4⟩ := h2.2 _ p hj
    exact ⟨b, by rw [List.getElem?_append_right (by rw [h.1]; omega), h.1]; exact h3, h4⟩⟩
theorem Cs.two {H : Hp} {b c : Addr} {p q : List Int} (h : H b = some (.tup (p.map V.int))) (h2 : H c = some (.tup (q.map V.int))) : Cs H [.ref b, .ref c] [p, q] := (Cs.one h).app (Cs.one h2)
theorem Cs.ex {H H' : Hp} {vs : List V} {ps : List (List Int)} (e : Evl.Ex H H') (h : Cs H vs ps) : Cs H' vs ps := ⟨h.1, fun j p hj => by
  obtain ⟨b, h3, h4⟩ := h.2 j p hj
  exact ⟨b, h3, e _ _ h4⟩⟩
theorem Cs.get {H : Hp} {vs : List V} {ps : List (List Int)} (h : Cs H vs ps) {j : Nat} {v : V} (hj : vs[j]? = some v) : ∃ (b : Addr) (p : List Int), v = .ref b ∧ ps[j]? = some p ∧ H b = some (.tup (p.map V.int)) := by
  have hl := (List.getElem?_eq_some_iff.mp hj).1
  obtain ⟨p, hp⟩ : ∃ p, ps[j]? = some p := ⟨_, List.getElem?_eq_getElem (by rw [← h.1]; exact hl)⟩
  obtain ⟨b, h3, h4⟩ := h.2 j p hp
  rw [h3] at hj
  exact ⟨b, p, (Option.some.inj hj).symm, hp, h4⟩
theorem Cs.mut {H : Hp} {vs : List V} {ps : List (List Int)} {D : Addr} {ys u : List V} (h : Cs H vs ps) (hD : H D = some (.lst ys)) : Cs (upd H D (.lst u)) vs ps := ⟨h.1, fun j p hj => by
  obtain ⟨b, h3, h4⟩ := h.2 j p hj
  refine ⟨b, h3, ?_⟩
  rw [upd_ne (fun e => by rw [e, hD] at h4; cases h4)]
  exact h4⟩
/-- lists of rows as cells -/
def Ws (H : Hp) (vs : List V) (ws : List (List (List Int))) : Prop := vs.length = ws.length ∧ ∀ (j : Nat) (w : List (List Int)), ws[j]? = some w → ∃ (b : Addr) (ys : List V), vs[j]? = some (.ref b) ∧ H b = some (.lst ys) ∧ Cs H ys w
theorem Ws.nil {H : Hp} : Ws H [] [] := ⟨rfl, fun j p h => by simp at h⟩
theorem Ws.one {H : Hp} {b : Addr} {ys : List V} {w : List (List Int)} (h : H b = some (.lst ys)) (hc : Cs H ys w) : Ws H [.ref b] [w] := ⟨rfl, fun j q hq => by
  cases j with
  | zero =>
    obtain rfl : w = q := Option.some.inj hq
    exact ⟨b, ys, rfl, h, hc⟩
  | succ j => simp at hq⟩
theorem Ws.app {H : Hp} {vs us : List V} {ps qs : List (List (List Int))} (h : Ws H vs ps) (h2 : Ws H us qs) : Ws H (vs ++ us) (ps ++ qs) := ⟨by rw [List.length_append, List.length_append, h.1, h2.1], fun j p hj => by
  rw [List.getElem?_append] at hj
  split at hj
  · next c =>
    obtain ⟨b, ys, h3, h4⟩ := h.2 j p hj
    exact ⟨b, ys, by rw [List.getElem?_append_left (by rw [h.1]; exact c)]; exact h3, h4⟩
  · next c =>
    obtain ⟨b, ys, h3, h4⟩ := h2.2 _ p hj
    exact ⟨b, ys, by rw [List.getElem?_append_right (by rw [h.1]; omega), h.1]; exact h3, h4⟩⟩
theorem Ws.ex {H H' : Hp} {vs : List V} {ps : List (List (List Int))} (e : Evl.Ex H H') (h : Ws H vs ps) : Ws H' vs ps := ⟨h.1, fun j p hj => by
  obtain ⟨b, ys, h3, h4, h5⟩ := h.2 j p hj
  exact ⟨b, ys, h3, e _ _ h4, h5.ex e⟩⟩
theorem Ws.get {H : Hp} {vs : List V} {ps : List (List (List Int))} (h : Ws H vs ps) {j : Nat} {v : V} (hj : vs[j]? = some v) : ∃ (b : Addr) (ys : List V) (w : List (List Int)), v = .ref b ∧ ps[j]? = some w ∧ H b = some (.lst ys) ∧ Cs H ys w := by
  have hl := (List.getElem?_eq_some_iff.mp hj).1
  obtain ⟨p, hp⟩ : ∃ p, ps[j]? = some p := ⟨_, List.getElem?_eq_getElem (by rw [← h.1]; exact hl)⟩
  obtain ⟨b, ys, h3, h4, h5⟩ := h.2 j p hp
  rw [h3] at hj
  exact ⟨b, ys, p, (Option.some.inj hj).symm, hp, h4, h5⟩
/-- .. while another list is written -/
theorem Ws.mut {H : Hp} {vs : List V} {ps : List (List (List Int))} {D : Addr} {ys u : List V} (h : Ws H vs ps) (hD : H D = some (.lst ys)) (off : ∀ v ∈ vs, v ≠ .ref D) : Ws (upd H D (.lst u)) vs ps := ⟨h.1, fun j p hj => by
  obtain ⟨b, zs, h3, h4, h5⟩ := h.2 j p hj
  refine ⟨b, zs, h3, ?_, h5.mut hD⟩
  rw [upd_ne (fun e => off _ (List.mem_of_getElem? h3) (by rw [e]))]
  exact h4⟩
section
variable {K : PySem.W.Frag} {σ : L2.St} {H : Hp} {Q : VK} {te : TE} {vs : List Nat} {j : Nat} {σx : V → L2.St} {a : Addr} {xs : List V}
/-- .. over a list, what is made may be lists -/
theorem lc_lsL (Pv : Addr → Nat → List V → Hp → Prop) (stay : ∀ i acc H1 D u, H1 D = some (.lst acc) → Pv D i acc H1 → Pv D i acc (upd H1 D (.lst u)))
    (hx : SqL K H a xs) (hz : xs.length ≤ 40000) (hσ : ∀ x, (wipe σ vs).set j (some x) = σx x) (hw : ∀ x, wipe (σx x) vs = wipe σ vs) (h0 : ∀ D H', Evl.Ex H H' → Pv D 0 [] H')
    (hs : ∀ i x, xs[i]? = some x → ∀ (D : Addr) (acc : List V) (H' : Hp) (N : VK), Evl.Ex H H' → H' D = some (.lst acc) → Pv D i acc H' → (∀ v H3, Evl.Ex H' H3 → Pv D (i + 1) (acc ++ [v]) (upd H3 D (.lst (acc ++ [v]))) → N v H3) → te (σx x) H' N)
    (hd : ∀ D acc H', Evl.Ex H H' → H D = none → H' D = some (.lst acc) → Pv D xs.length acc H' → Q (.ref D) H') : LcR (gName j) tYes te vs σ Q (Itl K a) H := fun D hn =>
  lc_list (xs := xs) (fun i H' => i ≤ xs.length ∧ Evl.Ex H H' ∧ ∃ acc, H' D = some (.lst acc) ∧ acc.length = i ∧ Pv D i acc H') ⟨Nat.zero_le _, Evl.Ex.new hn, [], upd_same, rfl, h0 _ _ (Evl.Ex.new hn)⟩ (fun i H' _ ⟨_, ex, _⟩ => Evl.ex_l ex hx) (fun i x H' hi p => by
    obtain ⟨_, ex, acc, ea, hl, hp⟩ := p
    have hlt := (List.getElem?_eq_some_iff.mp hi).1
    rw [show gName j x (wipe σ vs) H' = fun N => N (σx x) H' from funext fun N => by rw [← hσ x] <;> rfl]
    refine ⟨hw _, ?_⟩
    refine rd_yes ?_
    rw [if_pos rfl]
    refine hs i x hi D acc H' _ ex ea hp fun v H3 e3 hp3 => ⟨acc, e3 D _ ea, Evl.sz_lt (by omega), by omega, Evl.Ex.mut (ex.trans e3) hn, acc ++ [v], upd_same, by rw [List.length_append, hl] <;> rfl, hp3⟩) fun H' p => by
    obtain ⟨_, ex, acc, ea, _, hp⟩ := p
    exact hd D acc H' ex hn ea hp
/-- .. over a tuple, what is made may be lists -/
theorem lc_lsT (Pv : Addr → Nat → List V → Hp → Prop) (stay : ∀ i acc H1 D u, H1 D = some (.lst acc) → Pv D i acc H1 → Pv D i acc (upd H1 D (.lst u)))
    (hx : SqT K H a xs) (hz : xs.length ≤ 40000) (hσ : ∀ x, (wipe σ vs).set j (some x) = σx x) (hw : ∀ x, wipe (σx x) vs = wipe σ vs) (h0 : ∀ D H', Evl.Ex H H' → Pv D 0 [] H')
    (hs : ∀ i x, xs[i]? = some x → ∀ (D : Addr) (acc : List V) (H' : Hp) (N : VK), Evl.Ex H H' → H' D = some (.lst acc) → Pv D i acc H' → (∀ v H3, Evl.Ex H' H3 → Pv D (i + 1) (acc ++ [v]) (upd H3 D (.lst (acc ++ [v]))) → N v H3) → te (σx x) H' N)
    (hd : ∀ D acc H', Evl.Ex H H' → H D = none → H' D = some (.lst acc) → Pv D xs.length acc H' → Q (.ref D) H') : LcR (gName j) tYes te vs σ Q (Itt K a) H := fun D hn =>
  lc_tup (xs := xs) (fun i H' => i ≤ xs.length ∧ Evl.Ex H H' ∧ ∃ acc, H' D = some (.lst acc) ∧ acc.length = i ∧ Pv D i acc H') ⟨Nat.zero_le _, Evl.Ex.new hn, [], upd_same, rfl, h0 _ _ (Evl.Ex.new hn)⟩ (fun i H' _ ⟨_, ex, _⟩ => Evl.ex_t ex hx) (fun i x H' hi p => by
    obtain ⟨_, ex, acc, ea, hl, hp⟩ := p
    have hlt := (List.getElem?_eq_some_iff.mp hi).1
    rw [show gName j x (wipe σ vs) H' = fun N => N (σx x) H' from funext fun N => by rw [← hσ x] <;> rfl]
    refine ⟨hw _, ?_⟩
    refine rd_yes ?_
    rw [if_pos rfl]
    refine hs i x hi D acc H' _ ex ea hp fun v H3 e3 hp3 => ⟨acc, e3 D _ ea, Evl.sz_lt (by omega), by omega, Evl.Ex.mut (ex.trans e3) hn, acc ++ [v], upd_same, by rw [List.length_append, hl] <;> rfl, hp3⟩) fun H' p => by
    obtain ⟨_, ex, acc, ea, _, hp⟩ := p
    exact hd D acc H' ex hn ea hp
end
end Ea
set_option Elab.async false
set_option linter.all false
set_option maxRecDepth 100000
set_option maxHeartbeats 400000
/-! x in t, x not in t for a tuple of data of any depth. -/
namespace Ea
open PySem PySem.Spec PyProof PyProof.Rows L2
def rInDT (K : PySem.W.Frag) : R2 := fun x y H Q => ∃ d ds, Dp K H x d ∧ Dp K H y (.tuple ds) ∧ SeqAt.shaped d = true ∧ SeqAt.shaped (.tuple ds) = true ∧ Q (.bl (ds.any fun z => PyData.eqv z d)) H
def rNotInDT (K : PySem.W.Frag) : R2 := fun x y H Q => ∃ d ds, Dp K H x d ∧ Dp K H y (.tuple ds) ∧ SeqAt.shaped d = true ∧ SeqAt.shaped (.tuple ds) = true ∧ Q (.bl (!ds.any fun z => PyData.eqv z d)) H
theorem op_inDT {X : Cx} {K : PySem.W.Frag} (hK : X.K = K) (hu : X.A.units + 65 < cLine) : OpR X (compareOp .In) (rInDT K) := by
  subst hK
  intro pins s σ H x y v u Q I rx ry h
  obtain ⟨d, ds, hd, he, sd, se, q⟩ := h
  obtain ⟨as, r1⟩ := Dp.reads I d x v hd rx
  obtain ⟨bs, r2⟩ := Dp.reads I (.tuple ds) y u he ry
  exact SeqAt.in_tuple_reads r2 r1 (SeqAt.canLay_of_shaped se) (SeqAt.canLay_of_shaped sd) (room_in_shaped sd hu) ⟨.bl _, H, I, rfl, q⟩
theorem op_notInDT {X : Cx} {K : PySem.W.Frag} (hK : X.K = K) (hu : X.A.units + 65 < cLine) : OpR X (compareOp .NotIn) (rNotInDT K) := by
  subst hK
  intro pins s σ H x y v u Q I rx ry h
  obtain ⟨d, ds, hd, he, sd, se, q⟩ := h
  obtain ⟨as, r1⟩ := Dp.reads I d x v hd rx
  obtain ⟨bs, r2⟩ := Dp.reads I (.tuple ds) y u he ry
  exact SeqAt.notIn_tuple_reads r2 r1 (SeqAt.canLay_of_shaped se) (SeqAt.canLay_of_shaped sd) (room_in_shaped sd hu) ⟨.bl _, H, I, rfl, q⟩
end Ea
set_option Elab.async false
set_option linter.all false
set_option maxRecDepth 100000
set_option maxHeartbeats 400000
/-! sorted of a list of alike data (pairs of an int and something). -/
namespace Ea
open PySem PySem.Spec PyProof PyProof.Rows L2
theorem vals_fst {β : Type} : ∀ {ps : List (V × β)} {its : List Value}, Vals (ps.map (·.1)) its → PySem.W.EachIs (fun v (p : V × β) => RelV p.1 v) its ps
  | [], _, r => by
    cases r
    exact .nil
  | p :: ps, _, r => by
    rw [List.map_cons] at r
    cases r with
    | cons h t => exact .cons h (vals_fst t)
theorem fst_vals {β : Type} : ∀ {its : List Value} {ps : List (V × β)}, PySem.W.EachIs (fun v (p : V × β) => RelV p.1 v) its ps → Vals (ps.map (·.1)) its
  | _, _, .nil => .nil
  | _, _, .cons h t => .cons h (fst_vals t)
theorem perm_map_back {α β : Type} (f : α → β) : ∀ {qs : List β} {xs : List α}, qs.Perm (xs.map f) → ∃ ts : List α, ts.Perm xs ∧ qs = ts.map f := by
  intro qs xs h
  have key : ∀ {as bs : List β}, as.Perm bs → ∀ xs : List α, bs = xs.map f → ∃ ts : List α, ts.Perm xs ∧ as = ts.map f := by
    intro as bs h
    induction h with
    | nil =>
      intro xs e
      cases xs with
      | nil => exact ⟨[], .nil, rfl⟩
      | cons x t => cases e
    | cons x p ih =>
      intro xs e
      cases xs with
      | nil => cases e
      | cons y t =>
        rw [List.map_cons] at e
        injection e with e1 e2
        obtain ⟨ts, p2, e3⟩ := ih t e2
        exact ⟨y :: ts, p2.cons y, by rw [List.map_cons, e1, e3]⟩
    | swap x y l =>
      intro xs e
      match xs, e with
      | a :: b :: t, e =>
        rw [List.map_cons, List.map_cons] at e
        injection e with e1 e2
        injection e2 with e2 e3
        exact ⟨b :: a :: t, .swap a b t, by rw [List.map_cons, List.map_cons, e1, e2, e3]⟩
    | trans p1 p2 ih1 ih2 =>
      intro xs e
      obtain ⟨ts, p3, e3⟩ := ih2 xs e
      obtain ⟨us, p4, e4⟩ := ih1 ts e3
      exact ⟨us, p4.trans p3, e4⟩
  exact key h xs rfl
def rSortDt (K : PySem.W.Frag) : List V → Hp → VK → Prop := fun xs H Q => ∃ (a : Addr) (ps : List (V × PyData)), xs = [.ref a] ∧ SqL K H a (ps.map (·.1)) ∧ (∀ p ∈ ps, Dp K H p.1 p.2) ∧ PySem.W.AllAlike (ps.map (·.2)) ∧ PySem.W.Sortable (ps.map (·.2)) ∧ (∀ p ∈ ps, p.2.depth ≤ 8) ∧
  ∀ (qs : List (V × PyData)) (b : Addr), qs.Perm ps → qs.Pairwise (fun x y => PySem.W.dataLe false (fun p : V × PyData => p.2) x y = true) → H b = none → Q (.ref b) (upd H b (.lst (qs.map (·.1))))
theorem cr_sortDt {X : Cx} {K : PySem.W.Frag} (hK : X.K = K) (hu : X.A.units + 64 < cLine) : CallR X (.builtin "sorted") (rSortDt K) := by
  subst hK
  intro pins s σ H xs us Q I r h
  obtain ⟨a, ps, rfl, hs, hdp, hal, hsr, hdep, q⟩ := h
  rw [Vals.ref1 r]
  obtain ⟨its, rv, hl, hz⟩ := I.list hs
  have hlen : ps.length ≤ sizeLine := by
    rw [List.length_map] at hz
    exact hz
  have hR := vals_fst rv
  refine PySem.W.sorted_data (β := V × PyData) (R := fun v p => RelV p.1 v) (bs := ps) (enc := fun p => p.2) hl.isList hR ?_ hal hsr hlen (fun x hx => ?_) fun out ho he => ?_
  · refine (PySem.W.each_mem hR).mono fun v p ⟨hv, hp⟩ => ?_
    exact Dp.reads I p.2 p.1 v (hdp p hp) hv
  · have := hdep x hx
    omega
  · have pm : (ps.mergeSort (PySem.W.dataLe false fun p : V × PyData => p.2)).Perm ps := List.mergeSort_perm _ _
    have tot := PySem.W.sortLe_total (listOrd itemOrd) false fun p : V × PyData => PySem.W.keyToks p.2
    have so : (ps.mergeSort (PySem.W.dataLe false fun p : V × PyData => p.2)).Pairwise (fun x y => PySem.W.dataLe false (fun p : V × PyData => p.2) x y = true) :=
      PySem.W.sort_pairwise tot ps
    have hl2 : ((ps.mergeSort (PySem.W.dataLe false fun p : V × PyData => p.2)).map (·.1)).length ≤ sizeLine := by
      rw [List.length_map, pm.length_eq]
      exact hlen
    obtain ⟨e, hat⟩ := PyProof.Rows.sortedAll_at s.heap its out.toArray
    exact ⟨.ref _, upd H (s.heap.objs.size + 1) (.lst _), I.laid (t' := s.toks) (fun b u e => PyProof.Rows.sortedAll_old e) (Nat.le_succ _) ⟨hl2, out, e, fst_vals he, hat⟩, rfl, q _ _ pm so (I.hok.fresh (Nat.le_succ _))⟩
theorem rd_sortDt {K : PySem.W.Frag} {H : Hp} {Q : VK} {a : Addr} (ps : List (V × PyData)) (hs : SqL K H a (ps.map (·.1))) (hdp : ∀ p ∈ ps, Dp K H p.1 p.2) (hal : PySem.W.AllAlike (ps.map (·.2))) (hsr : PySem.W.Sortable (ps.map (·.2))) (hdep : ∀ p ∈ ps, p.2.depth ≤ 8)
    (q : ∀ (qs : List (V × PyData)) (b : Addr), qs.Perm ps → qs.Pairwise (fun x y => PySem.W.dataLe false (fun p : V × PyData => p.2) x y = true) → H b = none → Q (.ref b) (upd H b (.lst (qs.map (·.1))))) : rSortDt K [.ref a] H Q := ⟨a, ps, rfl, hs, hdp, hal, hsr, hdep, q⟩
theorem le_of_pair {x y : V × PyData} {i j : Int} {ds es : List PyData} (hx : x.2 = .tuple (.int i :: ds)) (hy : y.2 = .tuple (.int j :: es)) (h : PySem.W.dataLe false (fun p : V × PyData => p.2) x y = true) : i ≤ j := by
  have h2 : (!PyProof.Rows.lexLt itemOrd (PySem.W.keyToks y.2) (PySem.W.keyToks x.2)) = true := h
  rw [hx, hy] at h2
  have e1 : PySem.W.keyToks (.tuple (.int i :: ds)) = .inl 1 :: .inl i :: PySem.W.keyToksAll ds := by simp [PySem.W.keyToks, PySem.W.keyToksAll]
  have e2 : PySem.W.keyToks (.tuple (.int j :: es)) = .inl 1 :: .inl j :: PySem.W.keyToksAll es := by simp [PySem.W.keyToks, PySem.W.keyToksAll]
  rw [e1, e2, PyProof.Rows.lex_cons, PyProof.Rows.lex_cons] at h2
  refine Int.not_lt.mp fun c => ?_
  have b1 : itemOrd.blt (.inl j : Int ⊕ List Nat) (.inl i) = true := decide_eq_true c
  have b2 : itemOrd.blt (.inl 1 : Int ⊕ List Nat) (.inl 1) = false := by decide
  rw [b1, b2] at h2
  exact absurd h2 (by simp)
section
variable {K : PySem.W.Frag} {σ : L2.St} {H : Hp} {Q : VK} {tt : TT} {te : TE} {vs : List Nat} {j1 j2 k : Nat} {σx : V → V → L2.St} {a : Addr} {px py : Nat → V} {f : Nat → Bool} {g : Nat → V}
/-- a comprehension over a list of pairs -/
theorem lc_prL {xs : List V} (hk : k = 2) (hx : SqL K H a xs) (hz : xs.length ≤ 40000) (hp : ∀ i, i < xs.length → ∃ T, xs[i]? = some (.ref T) ∧ SqT K H T [px i, py i])
    (hσ : ∀ x y, ((wipe σ vs).set j1 (some x)).set j2 (some y) = σx x y) (hw : ∀ x y, wipe (σx x y) vs = wipe σ vs) (hs : ∀ i, i < xs.length → TurnP H tt te σx px py f g i)
    (hd : ∀ D H', Evl.Ex H H' → H D = none → H' D = some (.lst (((List.range xs.length).filter f).map g)) → Q (.ref D) H') : LcR (gTup K k (gCons (gName j1) (gCons (gName j2) gNil))) tt te vs σ Q (Itl K a) H := fun D hn =>
  lc_list (xs := xs) (fun i H' => Evl.Ex H H' ∧ H' D = some (.lst (((List.range i).filter f).map g))) ⟨Evl.Ex.new hn, upd_same⟩ (fun i H' _ ⟨ex, _⟩ => Evl.ex_l ex hx) (fun i x H' hi p => by
    obtain ⟨e, ed⟩ := p
    have hil := (List.getElem?_eq_some_iff.mp hi).1
    obtain ⟨T, hT, sT⟩ := hp i hil
    rw [hT] at hi
    cases hi
    have hlen : (((List.range i).filter f).map g).length < 100000 := by
      rw [List.length_map]
      have h1 := List.length_filter_le f (List.range i)
      rw [List.length_range] at h1
      omega
    refine rd_gtup2 (x := px i) (y := py i) (Evl.ex_t e sT) hk (hσ _ _) ⟨hw _ _, hs i hil _ _ _ e (fun hf H3 e3 => ?_) fun hf H3 e3 => ?_⟩
    · refine ⟨_, e3 D _ ed, Evl.sz_lt hlen, Evl.Ex.mut (e.trans e3) hn, ?_⟩
      rw [upd_same, range_snoc, if_pos hf]
    · refine ⟨e.trans e3, ?_⟩
      rw [range_snoc, if_neg (by rw [hf]; decide), List.append_nil]
      exact e3 D _ ed) fun H' p => hd D H' p.1 hn p.2
end
/-- pairs as cells: at place j a tuple of the int k and the value v -/
def Prs (H : Hp) (vs : List V) (ps : List (Int × V)) : Prop := vs.length = ps.length ∧ ∀ (j : Nat) (p : Int × V), ps[j]? = some p → ∃ b : Addr, vs[j]? = some (.ref b) ∧ H b = some (.tup [.int p.1, p.2])
theorem Prs.nil {H : Hp} : Prs H [] [] := ⟨rfl, fun j p h => by simp at h⟩
theorem Prs.ex {H H' : Hp} {vs : List V} {ps : List (Int × V)} (e : Evl.Ex H H') (h : Prs H vs ps) : Prs H' vs ps := ⟨h.1, fun j p hj => by
  obtain ⟨b, h3, h4⟩ := h.2 j p hj
  exact ⟨b, h3, e _ _ h4⟩⟩
theorem Prs.mut {H : Hp} {vs : List V} {ps : List (Int × V)} {D : Addr} {ys u : List V} (h : Prs H vs ps) (hD : H D = some (.lst ys)) : Prs (upd H D (.lst u)) vs ps := ⟨h.1, fun j p hj => by
  obtain ⟨b, h3, h4⟩ := h.2 j p hj
  refine ⟨b, h3, ?_⟩
  rw [upd_ne (fun e => by rw [e, hD] at h4; cases h4)]
  exact h4⟩
theorem Prs.snoc {H : Hp} {vs : List V} {ps : List (Int × V)} {b : Addr} {p : Int × V} (h : Prs H vs ps) (hb : H b = some (.tup [.int p.1, p.2])) : Prs H (vs ++ [.ref b]) (ps ++ [p]) := ⟨by rw [List.length_append, List.length_append, h.1] <;> rfl, fun j q hj => by
  rw [List.getElem?_append] at hj
  split at hj
  · next c =>
    obtain ⟨b2, h3, h4⟩ := h.2 j q hj
    exact ⟨b2, by rw [List.getElem?_append_left (by rw [h.1]; exact c)]; exact h3, h4⟩
  · next c =>
    have hj0 : j - ps.length = 0 := by
      have := (List.getElem?_eq_some_iff.mp hj).1
      rw [List.length_singleton] at this
      omega
    rw [hj0] at hj
    obtain rfl : p = q := Option.some.inj hj
    exact ⟨b, by rw [List.getElem?_append_right (by rw [h.1]; omega), h.1, hj0] <;> rfl, hb⟩⟩
/-- what is sorted: the pairs with their data -/
def prD (F : Int × V → PyData) (vs : List V) (ps : List (Int × V)) : List (V × PyData) := (vs.zip ps).map fun q => (q.1, F q.2)
theorem prD_fst {F : Int × V → PyData} {vs : List V} {ps : List (Int × V)} (h : vs.length = ps.length) : (prD F vs ps).map (·.1) = vs := by
  unfold prD
  rw [List.map_map]
  show (vs.zip ps).map Prod.fst = vs
  exact List.map_fst_zip (by omega)
/-- sorted(xs), xs a list of pairs (int, datum) -/
theorem rd_sortPrs {K : PySem.W.Frag} {H : Hp} {Q : VK} {a : Addr} {vs : List V} {ps : List (Int × V)} (E : V → PyData) (hs : SqL K H a vs) (hp : Prs H vs ps) (hE : ∀ p ∈ ps, Dp K H p.2 (E p.2)) (hal : ∀ p ∈ ps, ∀ q ∈ ps, PySem.W.alike (E p.2) (E q.2) = true) (hd : ∀ p ∈ ps, (E p.2).depth ≤ 4)
    (q : ∀ (us : List V) (qs : List (Int × V)) (b : Addr), qs.Perm ps → qs.Pairwise (fun x y => x.1 ≤ y.1) → Prs H us qs → H b = none → Q (.ref b) (upd H b (.lst us))) : rSortDt K [.ref a] H Q := by
  let F : Int × V → PyData := fun p => .tuple [.int p.1, E p.2]
  have hzip : ∀ t ∈ vs.zip ps, t.2 ∈ ps ∧ ∃ b, t.1 = .ref b ∧ H b = some (.tup [.int t.2.1, t.2.2]) := fun t ht => by
    obtain ⟨j, hj⟩ := List.mem_iff_getElem?.mp ht
    rw [List.getElem?_zip_eq_some] at hj
    obtain ⟨b, h3, h4⟩ := hp.2 j t.2 hj.2
    rw [hj.1] at h3
    exact ⟨List.mem_of_getElem? hj.2, b, Option.some.inj h3, h4⟩
  refine rd_sortDt (prD F vs ps) (by rw [prD_fst hp.1]; exact hs) (fun p hm => ?_) (fun d hm e hm2 => ?_) (.inl fun d hm => ?_) (fun p hm => ?_) fun qs b pm so hb => ?_
  · obtain ⟨t, ht, rfl⟩ := List.mem_map.mp hm
    obtain ⟨h1, b, h2, h3⟩ := hzip t ht
    show Dp K H t.1 (.tuple [.int t.2.1, E t.2.2])
    rw [h2]
    exact .tup (SqT.of h3) (.cons (.int _) (.cons (hE _ h1) .nil))
  · obtain ⟨p, hp1, rfl⟩ := List.mem_map.mp hm
    obtain ⟨t, ht, rfl⟩ := List.mem_map.mp hp1
    obtain ⟨p2, hp2, rfl⟩ := List.mem_map.mp hm2
    obtain ⟨t2, ht2, rfl⟩ := List.mem_map.mp hp2
    show PySem.W.alike (.tuple [.int t.2.1, E t.2.2]) (.tuple [.int t2.2.1, E t2.2.2]) = true
    have := hal _ (hzip t ht).1 _ (hzip t2 ht2).1
    simp [PySem.W.alike, PySem.W.alikeAll, this]
  · obtain ⟨p, hp1, rfl⟩ := List.mem_map.mp hm
    obtain ⟨t, ht, rfl⟩ := List.mem_map.mp hp1
    exact ⟨_, _, rfl⟩
  · obtain ⟨t, ht, rfl⟩ := List.mem_map.mp hm
    have h1 := hd _ (hzip t ht).1
    have e : (F t.2).depth = (PyData.tuple [.int t.2.1, E t.2.2]).depth := rfl
    show (PyData.tuple [.int t.2.1, E t.2.2]).depth ≤ 8
    simp only [PyData.depth, PyData.depthAll]
    omega
  · -- the pairs behind the sorted ones
    have hmem : ∀ x ∈ qs, ∃ t ∈ vs.zip ps, x = (t.1, F t.2) := fun x hx => by
      obtain ⟨t, ht, e⟩ := List.mem_map.mp (pm.mem_iff.mp hx)
      exact ⟨t, ht, e.symm⟩
    have pm2 : ∃ ts : List (V × (Int × V)), ts.Perm (vs.zip ps) ∧ qs = ts.map fun t => (t.1, F t.2) := perm_map_back _ pm
    obtain ⟨ts, pts, rfl⟩ := pm2
    have pz : (ts.map (·.2)).Perm ps := by
      have := pts.map (·.2)
      rwa [List.map_snd_zip (by rw [hp.1]; exact Nat.le_refl _)] at this
    have so2 : (ts.map (·.2)).Pairwise (fun x y => x.1 ≤ y.1) := by
      rw [List.pairwise_map] at so ⊢
      exact so.imp fun {x y} h => le_of_pair (x := (x.1, F x.2)) (y := (y.1, F y.2)) rfl rfl h
    have hu : Prs H (ts.map (·.1)) (ts.map (·.2)) := ⟨by rw [List.length_map, List.length_map], fun j p hj => by
      rw [List.getElem?_map] at hj
      obtain ⟨t, ht, rfl⟩ := Option.map_eq_some_iff.mp hj
      obtain ⟨_, b2, h2, h3⟩ := hzip t (pts.mem_iff.mp (List.mem_of_getElem? ht))
      exact ⟨b2, by rw [List.getElem?_map, ht]; show some t.1 = _; rw [h2], h3⟩⟩
    have e : (ts.map fun t => (t.1, F t.2)).map (·.1) = ts.map (·.1) := by rw [List.map_map] <;> rfl
    rw [e]
    exact q _ _ b pz so2 hu hb
end Ea
set_option Elab.async false
set_option linter.all false
set_option maxRecDepth 100000
set_option maxHeartbeats 400000
namespace KA
open PySem PySem.Spec PyProof.Rows L2 Ea
def topS (i : Nat) : Stmt := PySem.Challenge.pw_eachsome_k10_whole_sentences_changed.main.body.getD i (.Pass ⟨0, 0, 0, 0⟩)
abbrev s_law_draw : Stmt := topS 21
theorem sc_law_draw : FnScope ["deck", "many", "cell", "found", "turn"] ["deck", "many"] (defScope s_law_draw) :=
  ⟨rfl, rfl, rfl, by decide +kernel, rfl, by decide +kernel, by decide +kernel⟩
abbrev s_law_pick : Stmt := topS 22
theorem sc_law_pick : FnScope ["deck", "items"] ["deck", "items"] (defScope s_law_pick) :=
  ⟨rfl, rfl, rfl, by decide +kernel, rfl, by decide +kernel, by decide +kernel⟩
abbrev s_law_mixed : Stmt := topS 23
theorem sc_law_mixed : FnScope ["deck", "items", "left", "found"] ["deck", "items"] (defScope s_law_mixed) :=
  ⟨rfl, rfl, rfl, by decide +kernel, rfl, by decide +kernel, by decide +kernel⟩
abbrev s_law_deck : Stmt := topS 20
theorem sc_law_deck : FnScope ["script", "cell", "cells", "mixed"] ["script"] (defScope s_law_deck) :=
  ⟨rfl, rfl, rfl, by decide +kernel, rfl, by decide +kernel, by decide +kernel⟩
local macro_rules | `(tactic| walk_at "rd") => `(tactic| first
  | (with_reducible refine rd_seq ?_) | (with_reducible refine rd_asg ?_) | (with_reducible refine rd_if ?_) | (with_reducible refine rd_ret ?_) | (with_reducible refine rd_next ?_)
  | (with_reducible refine rd_drop ?_) | ((with_reducible refine rd_name (σ' := ?ss) ?hs ?_); (case hs => (dsimp only [List.set]; exact rfl)))
  | ((with_reducible refine rd_var (v := ?vv) ?hv ?_); (case hv => exact rfl)) | (with_reducible refine rd_c ?_) | (with_reducible refine rd_op ?_) | (with_reducible refine rd_un ?_)
  | (with_reducible refine rd_I0 ?_) | (with_reducible refine rd_U ?_) | (with_reducible refine rd_test ?_) | (with_reducible refine rd_B ?_) | (with_reducible refine rd_k ?_)
  | (with_reducible refine rd_not ?_) | (with_reducible refine rd_and ?_) | (with_reducible refine rd_or ?_) | (with_reducible refine rd_ifE ?_)
  | (with_reducible refine rd_par ?_) | ((with_reducible refine rd_par2 (σ' := ?ss) ?hs ?_); (case hs => (dsimp only [List.set]; exact rfl)))
  | (with_reducible refine rd_gsub ?_) | (with_reducible refine rd_andV ?_) | (with_reducible refine rd_orV ?_) | (with_reducible refine rd_notV ?_)
  | (with_reducible refine rd_lc ?_) | (with_reducible refine rd_iTup ?_) | (with_reducible refine rd_iList ?_) | (with_reducible refine rd_iRng1 ?_)
  | (with_reducible refine rd_yes ?_) | (with_reducible refine rd_true ?_) | (with_reducible refine rd_false ?_) | (with_reducible refine rd_m1 ?_) | (with_reducible refine rd_isS ?_)
  | ((with_reducible refine rd_eq ?hs ?_); (case hs => exact rfl)) | ((with_reducible refine rd_ne ?hs ?_); (case hs => exact rfl))
  | (with_reducible refine rd_listRg ?_) | (with_reducible refine rd_rg2 ?_) | (with_reducible refine rd_rgk ?_)
  | (with_reducible refine rd_dnew ?_) | (with_reducible refine rd_ddel ?_) | (with_reducible refine rd_kw ?_) | (with_reducible refine rd_callS ?_) | (with_reducible refine rd_dc ?_) | (with_reducible refine rd_for ?_) | (with_reducible refine rd_tru ?_) | (with_reducible refine rd_truI ?_)
  | (with_reducible refine rd_nil ?_) | (with_reducible refine rd_cons ?_) | (with_reducible refine rd_call ?_) | (with_reducible refine rd_cb ?_)
  | (with_reducible refine rd_tup ?_) | (with_reducible refine rd_lst ?_) | (with_reducible refine rd_dget ?_) | (with_reducible refine rd_dput ?_) | (with_reducible refine rd_sl ?_)
  | (with_reducible refine rd_nopart ?_) | (with_reducible refine rd_part ?_) | (with_reducible refine rd_parti ?_) | (with_reducible refine rd_bm ?_) | (with_reducible refine rd_bm0 ?_)
  | (with_reducible refine rd_int ?_) | (with_reducible refine rd_intb ?_) | (with_reducible refine rd_abs ?_) | (with_reducible refine rd_min2 ?_) | (with_reducible refine rd_max2 ?_))
local macro_rules | `(tactic| walk_at "rds") => `(tactic| repeat (walk_at "rd"))
local macro_rules | `(tactic| walk_at "rq") => `(tactic| first
  | (with_reducible refine rd_seq ?_) | (with_reducible refine rd_asg ?_) | (with_reducible refine rd_ret ?_) | (with_reducible refine rd_next ?_)
  | (with_reducible refine rd_drop ?_) | ((with_reducible refine rd_name (σ' := ?ss) ?hs ?_); (case hs => (dsimp only [List.set]; exact rfl)))
  | ((with_reducible refine rd_var (v := ?vv) ?hv ?_); (case hv => exact rfl)) | (with_reducible refine rd_c ?_) | (with_reducible refine rd_op ?_) | (with_reducible refine rd_un ?_)
  | (with_reducible refine rd_I0 ?_) | (with_reducible refine rd_U ?_) | (with_reducible refine rd_test ?_) | (with_reducible refine rd_B ?_) | (with_reducible refine rd_k ?_)
  | (with_reducible refine rd_not ?_) | (with_reducible refine rd_and ?_) | (with_reducible refine rd_or ?_) | (with_reducible refine rd_ifE ?_)
  | (with_reducible refine rd_par ?_) | ((with_reducible refine rd_par2 (σ' := ?ss) ?hs ?_); (case hs => (dsimp only [List.set]; exact rfl)))
  | (with_reducible refine rd_gsub ?_) | (with_reducible refine rd_andV ?_) | (with_reducible refine rd_orV ?_) | (with_reducible refine rd_notV ?_)
  | (with_reducible refine rd_lc ?_) | (with_reducible refine rd_iTup ?_) | (with_reducible refine rd_iList ?_) | (with_reducible refine rd_iRng1 ?_)
  | (with_reducible refine rd_yes ?_) | (with_reducible refine rd_true ?_) | (with_reducible refine rd_false ?_) | (with_reducible refine rd_m1 ?_) | (with_reducible refine rd_isS ?_)
  | ((with_reducible refine rd_eq ?hs ?_); (case hs => exact rfl)) | ((with_reducible refine rd_ne ?hs ?_); (case hs => exact rfl))
  | (with_reducible refine rd_listRg ?_) | (with_reducible refine rd_rg2 ?_) | (with_reducible refine rd_rgk ?_)
  | (with_reducible refine rd_dnew ?_) | (with_reducible refine rd_ddel ?_) | (with_reducible refine rd_kw ?_) | (with_reducible refine rd_callS ?_) | (with_reducible refine rd_dc ?_) | (with_reducible refine rd_for ?_) | (with_reducible refine rd_tru ?_) | (with_reducible refine rd_truI ?_)
  | (with_reducible refine rd_nil ?_) | (with_reducible refine rd_cons ?_) | (with_reducible refine rd_call ?_) | (with_reducible refine rd_cb ?_)
  | (with_reducible refine rd_tup ?_) | (with_reducible refine rd_lst ?_) | (with_reducible refine rd_dget ?_) | (with_reducible refine rd_dput ?_) | (with_reducible refine rd_sl ?_)
  | (with_reducible refine rd_nopart ?_) | (with_reducible refine rd_part ?_) | (with_reducible refine rd_parti ?_) | (with_reducible refine rd_bm ?_) | (with_reducible refine rd_bm0 ?_)
  | (with_reducible refine rd_int ?_) | (with_reducible refine rd_intb ?_) | (with_reducible refine rd_abs ?_) | (with_reducible refine rd_min2 ?_) | (with_reducible refine rd_max2 ?_))
local macro_rules | `(tactic| walk_at "rqs") => `(tactic| repeat (walk_at "rq"))

/-- the names of the built-ins that the text does not bind -/
structure Bl (mg : Str → Option Value) : Prop where
  len : mg "len" = none
  abs : mg "abs" = none
  min : mg "min" = none
  max : mg "max" = none
  sorted : mg "sorted" = none
  tuple : mg "tuple" = none
  list : mg "list" = none
  set : mg "set" = none
  int : mg "int" = none
  range : mg "range" = none
  repr : mg "repr" = none
  isinstance : mg "isinstance" = none
  enumerate : mg "enumerate" = none
  zip : mg "zip" = none
  sum : mg "sum" = none
  all : mg "all" = none
  any : mg "any" = none
  str : mg "str" = none
  bool : mg "bool" = none
/-- how a def stands among the module's names -/
structure Callee (K : PySem.W.Frag) (mg : Str → Option Value) (x : Str) (f : Addr) (fd : FuncData) (ps : List Str) : Prop where
  m : mg x = some (.ref f)
  k : PySem.W.keepIn K (.ref f) = true
  b : Binds K fd ps []
theorem SetFor_erase {as : List Int} {k : Nat} : (some (HO.lst ((as.map V.int).eraseIdx k)) : Option HO) = some (.lst ((as.eraseIdx k).map V.int)) := by
  rw [erase_mapI]
theorem erase_perm {as : List Int} {k : Nat} (h : k < as.length) : as.Perm (as[k] :: as.eraseIdx k) := by
  induction as generalizing k with
  | nil => cases h
  | cons x r ih =>
    cases k with
    | zero => exact List.Perm.refl _
    | succ k =>
      have h' : k < r.length := Nat.lt_of_succ_lt_succ h
      exact ((ih h').cons x).trans (List.Perm.swap _ _ _)
theorem perm_move (as bs : List Int) (x : Int) : (as ++ (bs ++ [x])).Perm ((x :: as) ++ bs) := by
  rw [← List.append_assoc]
  exact (List.perm_append_singleton x (as ++ bs)).trans (List.Perm.refl _)
section
variable {K : PySem.W.Frag} {H : Hp} {Q : VK} {d l : Addr} {m c k : Int} {xs : List V} {y : V} {i : Int}
theorem dk0 (h : H d = some (.lst [.ref l, .int m, .int c])) (q : Q (.ref l) H) : rIxL K (.ref d) (.int 0) H Q := rd_ixL (SqL.of h) rfl q
theorem dk1 (h : H d = some (.lst [.ref l, .int m, .int c])) (q : Q (.int m) H) : rIxL K (.ref d) (.int 1) H Q := rd_ixL (SqL.of h) rfl q
theorem dk2 (h : H d = some (.lst [.ref l, .int m, .int c])) (q : Q (.int c) H) : rIxL K (.ref d) (.int 2) H Q := rd_ixL (SqL.of h) rfl q
theorem dk_set2 {N : Hp → Prop} (h : H d = some (.lst [.ref l, .int m, .int c])) (q : N (upd H d (.lst [.ref l, .int m, .int k]))) : rSetL (.ref d) (.int 2) (.int k) H N := ⟨d, _, 2, 2, rfl, rfl, h, rfl, q⟩
theorem rd_listE {p : Addr} {ys : List V} (s : SqL K H p ys ∨ SqT K H p ys) (h : ∀ l, H l = none → Q (.ref l) (upd H l (.lst ys))) : rListOf K [.ref p] H Q := s.elim (fun s => rd_listL s h) fun s => rd_listT s h
end
section
variable {P : Program} {w : World} {K : PySem.W.Frag} {mg : Str → Option Value} {base : Heap}
def spDraw : Sp := fun vs H Q _ => ∃ (d l : Addr) (many : Int), vs = [.ref d, .int many] ∧ DeckL d l H ∧ 1 ≤ many ∧ many ≤ 1000000 ∧
  ∀ (r : Int) (H' : Hp), Gl d l H H' → 0 ≤ r → r < many → Q (.int r) H'
theorem ok_draw {f : Addr} {fd : FuncData} (F : Fun K "_law_draw" "_law_draw" s_law_draw f fd) (T : Bl mg) : FnOk P w K mg base CX0 1 f fd ["deck", "many"] spDraw := by
  refine F.ok sc_law_draw (fun vs H Q E h => ?_) (fun cdv A outer s H vs Q E hr h => ?_)
  · obtain ⟨d, l, many, rfl, _⟩ := h
    rfl
  · obtain ⟨d, l, many, rfl, hD, h1, h2, q⟩ := h
    refine ⟨_, (pss_cons (ps_if (PW.pt (pw_and (pt_cmpR (ok_neD (K := K) rfl hr.units) (pe_ix (ik_list (K := K) rfl) (pv 0) pe_int (fun _ _ => rfl)) (pe_lst pa_nil) (nomark _)) (pw_and1 (pt_cmpR op_gt (pv 1) pe_int (nomark _))))) (pss_cons (ps_set (i := 2) sc_law_draw.nd rfl (Or.inl rfl) (pe_bm PySem.F.plainAttrs_list PySem.F.slot_list_pop PySem.F.type_list_pop mt_popAt (pe_ix (ik_list (K := K) rfl) (pv 0) pe_int (fun _ _ => rfl)) (pa_cons pe_int pa_nil)))
 (pss_cons (ps_if (pt_cmpR op_ge (pv 2) (pv 1) (nomark _)) (pss_one (ps_expr (pe_bm PySem.F.plainAttrs_list PySem.F.slot_list_insert PySem.F.type_list_insert mt_insert (pe_ix (ik_list (K := K) rfl) (pv 0) pe_int (fun _ _ => rfl)) (pa_cons pe_int (pa_cons (pe_op op_fdiv (pv 2) (pv 1)) pa_nil))))) pss_nil)
 (pss_one (ps_ret (pe_op op_mod (pe_callTy c_int (by rfl) T.int (by decide +kernel) (pa_cons (pv 2) pa_nil)) (pv 1)))))) pss_nil)
 (pss_cons (ps_asg (pe_op op_add (pe_ix (ik_list (K := K) rfl) (pv 0) pe_int (fun _ _ => rfl)) pe_int) (pg_sub (pv 0) pe_int set_list))
 (pss_cons (ps_set (i := 3) sc_law_draw.nd rfl (Or.inl rfl) (pe_op op_mod (pe_callTy c_int (by rfl) T.int (by decide +kernel) (pa_cons (pe_op op_add (pe_ix (ik_list (K := K) rfl) (pv 0) pe_int (fun _ _ => rfl)) (pe_op op_mul pe_int (pe_ix (ik_list (K := K) rfl) (pv 0) pe_int (fun _ _ => rfl)))) pa_nil)) pe_int))
 (pss_cons (ps_for PassesOwn.never rfl (pi_range1 (by rfl) T.range (pa_cons pe_int pa_nil)) (pg_name (i := 4) sc_law_draw.nd rfl (Or.inl rfl)) (pss_one (ps_set (i := 3) sc_law_draw.nd rfl (Or.inl rfl) (pe_op op_mod (pe_callTy c_int (by rfl) T.int (by decide +kernel) (pa_cons (pe_op op_add (pe_op op_add (pe_op op_add (pe_op op_mul (pv 3) (pv 3)) (pe_op op_mul pe_int (pe_ix (ik_list (K := K) rfl) (pv 0) pe_int (fun _ _ => rfl)))) pe_int) (pv 4)) pa_nil)) pe_int))))
 (pss_one (ps_ret (pe_op op_mod (pe_callTy c_int (by rfl) T.int (by decide +kernel) (pa_cons (pe_op op_fdiv (pv 3) pe_int) pa_nil)) (pv 1)))))))), ?_⟩
    refine rd_start (σ' := [some (.ref d), some (.int many), none, none, none]) rfl ?_
    obtain ⟨ns, m, c, e1, e2, hl, hp, s0, s1⟩ := id hD
    have hdl := hD.ne
    walk_at "rds"
    refine dk0 e1 ?_
    walk_at "rds"
    refine ⟨Nat.zero_le _, fun p hp0 => ?_⟩
    obtain ⟨n1, n2⟩ := hD.off hp0
    have f1 : (upd H p (.lst [])) d = _ := (upd_ne n1.symm).trans e1
    have f2 : (upd H p (.lst [])) l = _ := (upd_ne n2.symm).trans e2
    refine rd_full (SqL.of f2) (dp_ints ns) (shaped_ints ns) (SqL.of upd_same) ?_
    walk_at "rds"
    refine rd_iteb (fun c2 => ?_) (fun c2 => ?_)
    · walk_at "rds"
      refine rd_ite (fun c3 => ?_) (fun c3 => ?_)
      · obtain ⟨z, r, rfl⟩ : ∃ z r, ns = z :: r := by
          cases ns with
          | nil => cases c2
          | cons z r => exact ⟨z, r, rfl⟩
        have z0 : 0 ≤ z := hp z List.mem_cons_self
        have hr0 : ∀ n ∈ r, 0 ≤ n := fun n hn => hp n (List.mem_cons_of_mem _ hn)
        have hrl : r.length + 1 ≤ 63 := hl
        walk_at "rds"
        refine dk0 f1 (rd_tyL f2 ?_)
        walk_at "rds"
        refine rd_popAt (k := 0) f2 rfl rfl (by rw [List.length_map]; show r.length + 1 ≤ _; omega) ?_
        have g1 : (upd (upd H p (.lst [])) l (.lst (((z :: r).map V.int).eraseIdx 0))) d = _ := (upd_ne hdl).trans f1
        have g2 : (upd (upd H p (.lst [])) l (.lst (((z :: r).map V.int).eraseIdx 0))) l = some (.lst (r.map V.int)) := upd_same
        walk_at "rds"
        refine rd_ite (fun c4 => ?_) (fun c4 => ?_)
        · walk_at "rds"
          refine dk0 g1 (rd_tyL g2 ?_)
          walk_at "rds"
          refine rd_I ⟨by omega, by omega⟩ ?_
          walk_at "rds"
          refine ⟨l, _, 0, _, rfl, rfl, g2, Evl.sz_lt (by rw [List.length_map]; omega), Int.le_refl _, by decide, ?_⟩
          walk_at "rds"
          refine rd_I (by omega) ?_
          have hq : 0 ≤ z / many := Int.ediv_nonneg z0 (by omega)
          refine q (z % many) _ ⟨⟨z / many :: r, m, c, (upd_ne hdl).trans g1, upd_same, hrl, fun n hn => ?_, s0, s1⟩, fun a o m1 m2 e => ?_⟩ (Int.emod_nonneg _ (by omega)) (Int.emod_lt_of_pos _ (by omega))
          · rcases List.mem_cons.mp hn with rfl | h
            · exact hq
            · exact hr0 n h
          · rw [upd_ne m2, upd_ne m2, upd_ne (ne_of_none e hp0)]
            exact e
        · walk_at "rds"
          refine rd_I (by omega) ?_
          refine q (z % many) _ ⟨⟨r, m, c, g1, g2, by omega, hr0, s0, s1⟩, fun a o m1 m2 e => ?_⟩ (Int.emod_nonneg _ (by omega)) (Int.emod_lt_of_pos _ (by omega))
          rw [upd_ne m2, upd_ne (ne_of_none e hp0)]
          exact e
      · walk_at "rds"
        refine dk2 f1 ?_
        walk_at "rds"
        refine dk_set2 f1 ?_
        have k1 : ∀ {k : Int}, (upd (upd H p (.lst [])) d (.lst [.ref l, .int m, .int k])) d = _ := fun {k} => upd_same
        have k2 : ∀ {k : Int}, (upd (upd H p (.lst [])) d (.lst [.ref l, .int m, .int k])) l = _ := fun {k} => (upd_ne hdl.symm).trans f2
        walk_at "rds"
        refine dk1 k1 ?_
        walk_at "rds"
        refine dk2 k1 ?_
        walk_at "rds"
        refine rd_I (.inl ⟨by decide, by decide⟩) ?_
        walk_at "rds"
        refine rd_I (by decide) ?_
        walk_at "rds"
        refine rd_rng1 (by decide) (by decide) ?_
        refine fr_range (lo := 0) (n := 2) (fun i σ' H' => ∃ (x : Int) (y : Option V), σ' = [some (.ref d), some (.int many), none, some (.int x), y] ∧ H' = upd (upd H p (.lst [])) d (.lst [.ref l, .int m, .int (c + 1)]) ∧ 0 ≤ x ∧ x < 4294967296) ⟨_, _, rfl, rfl, Int.emod_nonneg _ (by decide), by omega⟩ (fun i σ' H' hi hP => ?_) fun σ' H' hP => ?_
        · obtain ⟨x, y, rfl, rfl, x0, x1⟩ := hP
          refine rd_start (σ' := [some (.ref d), some (.int many), none, some (.int x), some (.int (0 + (i : Int)))]) rfl ?_
          walk_at "rds"
          refine rd_I (.inl ⟨by omega, by omega⟩) ?_
          walk_at "rds"
          refine dk2 k1 ?_
          walk_at "rds"
          refine rd_I (.inl ⟨by decide, by decide⟩) ?_
          walk_at "rds"
          refine rd_I (by decide) ?_
          walk_at "rds"
          exact ⟨_, _, rfl, rfl, Int.emod_nonneg _ (by decide), by omega⟩
        · obtain ⟨x, y, rfl, rfl, x0, x1⟩ := hP
          walk_at "rds"
          refine rd_I ⟨by decide, by decide⟩ ?_
          walk_at "rds"
          refine rd_I (by omega) ?_
          refine q _ _ ⟨⟨ns, m, c + 1, k1, k2, hl, hp, s0, s1⟩, fun a o m1 m2 e => ?_⟩ (Int.emod_nonneg _ (by omega)) (Int.emod_lt_of_pos _ (by omega))
          rw [upd_ne m1, upd_ne (ne_of_none e hp0)]
          exact e
    · walk_at "rds"
      refine dk2 f1 ?_
      walk_at "rds"
      refine dk_set2 f1 ?_
      have k1 : ∀ {k : Int}, (upd (upd H p (.lst [])) d (.lst [.ref l, .int m, .int k])) d = _ := fun {k} => upd_same
      have k2 : ∀ {k : Int}, (upd (upd H p (.lst [])) d (.lst [.ref l, .int m, .int k])) l = _ := fun {k} => (upd_ne hdl.symm).trans f2
      walk_at "rds"
      refine dk1 k1 ?_
      walk_at "rds"
      refine dk2 k1 ?_
      walk_at "rds"
      refine rd_I (.inl ⟨by decide, by decide⟩) ?_
      walk_at "rds"
      refine rd_I (by decide) ?_
      walk_at "rds"
      refine rd_rng1 (by decide) (by decide) ?_
      refine fr_range (lo := 0) (n := 2) (fun i σ' H' => ∃ (x : Int) (y : Option V), σ' = [some (.ref d), some (.int many), none, some (.int x), y] ∧ H' = upd (upd H p (.lst [])) d (.lst [.ref l, .int m, .int (c + 1)]) ∧ 0 ≤ x ∧ x < 4294967296) ⟨_, _, rfl, rfl, Int.emod_nonneg _ (by decide), by omega⟩ (fun i σ' H' hi hP => ?_) fun σ' H' hP => ?_
      · obtain ⟨x, y, rfl, rfl, x0, x1⟩ := hP
        refine rd_start (σ' := [some (.ref d), some (.int many), none, some (.int x), some (.int (0 + (i : Int)))]) rfl ?_
        walk_at "rds"
        refine rd_I (.inl ⟨by omega, by omega⟩) ?_
        walk_at "rds"
        refine dk2 k1 ?_
        walk_at "rds"
        refine rd_I (.inl ⟨by decide, by decide⟩) ?_
        walk_at "rds"
        refine rd_I (by decide) ?_
        walk_at "rds"
        exact ⟨_, _, rfl, rfl, Int.emod_nonneg _ (by decide), by omega⟩
      · obtain ⟨x, y, rfl, rfl, x0, x1⟩ := hP
        walk_at "rds"
        refine rd_I ⟨by decide, by decide⟩ ?_
        walk_at "rds"
        refine rd_I (by omega) ?_
        refine q _ _ ⟨⟨ns, m, c + 1, k1, k2, hl, hp, s0, s1⟩, fun a o m1 m2 e => ?_⟩ (Int.emod_nonneg _ (by omega)) (Int.emod_lt_of_pos _ (by omega))
        rw [upd_ne m1, upd_ne (ne_of_none e hp0)]
        exact e
def spPick : Sp := fun vs H Q _ => ∃ (d l p : Addr) (ys : List V), vs = [.ref d, .ref p] ∧ DeckL d l H ∧ H p = some (.lst ys) ∧ p ≠ d ∧ p ≠ l ∧ 1 ≤ ys.length ∧ ys.length ≤ 1000 ∧
  ∀ (y : V) (H' : Hp), Gl d l H H' → y ∈ ys → Q y H'
theorem ok_pick {f fD : Addr} {fd fdD : FuncData} (F : Fun K "_law_pick" "_law_pick" s_law_pick f fd) (T : Bl mg)
    (G_law_draw : FnOk P w K mg base CX0 1 fD fdD ["deck", "many"] spDraw) (C_law_draw : Callee K mg "_law_draw" fD fdD ["deck", "many"]) :
    FnOk P w K mg base CX0 2 f fd ["deck", "items"] spPick := by
  refine F.ok sc_law_pick (fun vs H Q E h => ?_) (fun cdv A outer s H vs Q E hr h => ?_)
  · obtain ⟨d, l, p, ys, rfl, _⟩ := h
    rfl
  · obtain ⟨d, l, p, ys, rfl, hD, hp, n1, n2, h1, h2, q⟩ := h
    refine ⟨_, (pss_one (ps_ret (pe_ix (ik_list (K := K) rfl) (pv 1) (pe_call G_law_draw (hr.mono (by decide)) (by rfl) C_law_draw.m C_law_draw.k C_law_draw.b .nil pass0 (pa_cons (pv 0) (pa_cons (pe_callB (c_len (K := K) rfl) (by rfl) T.len (by decide +kernel) (pa_cons (pv 1) pa_nil)) pa_nil))) (fun _ _ => rfl)))), ?_⟩
    refine rd_start (σ' := [some (.ref d), some (.ref p)]) rfl ?_
    walk_at "rds"
    refine rd_lenL (SqL.of hp) ?_
    walk_at "rds"
    refine ⟨d, l, _, rfl, hD, by omega, by omega, fun r H1 g r0 r1 => ?_⟩
    have hr1 : r.toNat < ys.length := by omega
    refine rd_ixL (SqL.of (g.kp p _ n1 n2 hp)) (at_nat (k := r.toNat) (by omega) (List.getElem?_eq_getElem hr1)) ?_
    exact q _ _ g (List.getElem_mem hr1)

def spMixed (K : PySem.W.Frag) : Sp := fun vs H Q _ => ∃ (d l p : Addr) (ns : List Int), vs = [.ref d, .ref p] ∧ DeckL d l H ∧ (SqL K H p (ns.map V.int) ∨ SqT K H p (ns.map V.int)) ∧ ns.length ≤ 1000 ∧
  ∀ (q : Addr) (ms : List Int) (H' : Hp), Gl d l H H' → H q = none → H' q = some (.lst (ms.map V.int)) → ms.Perm ns → Q (.ref q) H'
theorem ok_mixed {f fD : Addr} {fd fdD : FuncData} (F : Fun K "_law_mixed" "_law_mixed" s_law_mixed f fd) (T : Bl mg)
    (G_law_draw : FnOk P w K mg base CX0 1 fD fdD ["deck", "many"] spDraw) (C_law_draw : Callee K mg "_law_draw" fD fdD ["deck", "many"]) :
    FnOk P w K mg base CX0 2 f fd ["deck", "items"] (spMixed K) := by
  refine F.ok sc_law_mixed (fun vs H Q E h => ?_) (fun cdv A outer s H vs Q E hr h => ?_)
  · obtain ⟨d, l, p, ys, rfl, _⟩ := h
    rfl
  · obtain ⟨d, l, p, ns, rfl, hD, hp, h2, q⟩ := h
    refine ⟨_, (pss_cons (ps_par (i := 2) (j := 3) rfl sc_law_mixed.nd rfl rfl (by decide) rfl rfl (pa_cons (pe_callTy (c_list (K := K) rfl) (by rfl) T.list (by decide +kernel) (pa_cons (pv 1) pa_nil)) (pa_cons (pe_lst pa_nil) pa_nil)) (by rfl))
 (pss_cons (ps_while PassesOwn.never (pt_cmpR (ok_neD (K := K) rfl hr.units) (pv 2) (pe_lst pa_nil) (nomark _)) (pss_one (ps_expr (pe_bm PySem.F.plainAttrs_list PySem.F.slot_list_append PySem.F.type_list_append mt_append (pv 3) (pa_cons (pe_bm PySem.F.plainAttrs_list PySem.F.slot_list_pop PySem.F.type_list_pop mt_popAt (pv 2) (pa_cons (pe_call G_law_draw (hr.mono (by decide)) (by rfl) C_law_draw.m C_law_draw.k C_law_draw.b .nil pass0 (pa_cons (pv 0) (pa_cons (pe_callB (c_len (K := K) rfl) (by rfl) T.len (by decide +kernel) (pa_cons (pv 2) pa_nil)) pa_nil))) pa_nil)) pa_nil)))))
 (pss_one (ps_ret (pv 3))))), ?_⟩
    refine rd_start (σ' := [some (.ref d), some (.ref p), none, none]) rfl ?_
    walk_at "rds"
    refine rd_listE hp fun a na => ?_
    have g1 : Gl d l H (upd H a (.lst (ns.map V.int))) := Gl.new hD na
    walk_at "rds"
    refine ⟨Nat.zero_le _, fun b nb => ?_⟩
    have nab : a ≠ b := fun e => by
      rw [e, upd_same] at nb
      cases nb
    have nb0 : H b = none := g1.back hD nb
    walk_at "rds"
    refine rd_whileE ⟨fun m σ' H' => ∃ as bs : List Int, σ' = [some (.ref d), some (.ref p), some (.ref a), some (.ref b)] ∧ Gl d l H H' ∧
      H' a = some (.lst (as.map V.int)) ∧ H' b = some (.lst (bs.map V.int)) ∧ as.length = m ∧ (as ++ bs).Perm ns,
      ⟨ns.length, ns, [], rfl, g1.trans (Gl.new g1.dk nb), (upd_ne nab).trans upd_same, upd_same, rfl, by rw [List.append_nil]⟩, fun m σ' H' hW => ?_⟩
    obtain ⟨as, bs, rfl, g, ea, eb, rfl, pm⟩ := hW
    have hlen : as.length + bs.length = ns.length := by
      rw [← List.length_append]
      exact pm.length_eq
    obtain ⟨ad, al⟩ := hD.off na
    obtain ⟨bd, bl⟩ := hD.off nb0
    walk_at "rds"
    refine ⟨Nat.zero_le _, fun c nc => ?_⟩
    have cx : ∀ {o}, Gl d l H' (upd H' c o) := Gl.new g.dk nc
    have ea1 : (upd H' c (.lst [])) a = _ := (upd_ne (ne_of_none ea nc)).trans ea
    have eb1 : (upd H' c (.lst [])) b = _ := (upd_ne (ne_of_none eb nc)).trans eb
    refine rd_full (SqL.of ea1) (dp_ints as) (shaped_ints as) (SqL.of upd_same) ?_
    walk_at "rds"
    refine rd_iteb (fun c2 => ?_) (fun c2 => ?_)
    · refine ⟨fun σ2 H2 => ∃ (as2 bs2 : List Int), σ2 = [some (.ref d), some (.ref p), some (.ref a), some (.ref b)] ∧ Gl d l H H2 ∧
        H2 a = some (.lst (as2.map V.int)) ∧ H2 b = some (.lst (bs2.map V.int)) ∧ as2.length + 1 = as.length ∧ (as2 ++ bs2).Perm ns, fun σ2 H2 h => ?_, ?_⟩
      · obtain ⟨as2, bs2, e1, e2, e3, e4, e5, e6⟩ := h
        exact ⟨as2.length, by omega, as2, bs2, e1, e2, e3, e4, rfl, e6⟩
      · walk_at "rds"
        refine rd_tyL eb1 ?_
        walk_at "rds"
        refine rd_tyL ea1 ?_
        walk_at "rds"
        refine rd_lenL (SqL.of ea1) ?_
        walk_at "rds"
        have hpos : 1 ≤ as.length := by
          cases as with
          | nil => cases c2
          | cons x r => exact Nat.succ_le_succ (Nat.zero_le _)
        refine ⟨d, l, _, rfl, cx.dk, by rw [List.length_map]; omega, by rw [List.length_map]; omega, fun r H1 g2 r0 r1 => ?_⟩
        rw [List.length_map] at r1
        have hr1 : r.toNat < as.length := by omega
        have ea2 : H1 a = _ := g2.kp a _ ad al ea1
        have eb2 : H1 b = _ := g2.kp b _ bd bl eb1
        walk_at "rds"
        refine rd_popAt (i := r) (k := r.toNat) (y := .int as[r.toNat]) ea2 (by omega) (by rw [List.getElem?_map, List.getElem?_eq_getElem hr1]; rfl) (by rw [List.length_map]; omega) ?_
        walk_at "rds"
        have nba : b ≠ a := nab.symm
        refine rd_append ((upd_ne nba).trans eb2) (by rw [List.length_map]; omega) ?_
        walk_at "rds"
        refine ⟨as.eraseIdx r.toNat, bs ++ [as[r.toNat]], rfl, ?_, ?_, ?_, ?_, ?_⟩
        · exact Gl.mut (Gl.mut (g.trans (cx.trans g2)) hD na) hD nb0
        · rw [upd_ne nab, upd_same, SetFor_erase]
        · rw [upd_same, List.map_append] <;> rfl
        · rw [List.length_eraseIdx_of_lt hr1]
          omega
        · refine List.Perm.trans ?_ pm
          have e : as.Perm (as[r.toNat] :: as.eraseIdx r.toNat) := erase_perm hr1
          exact (perm_move _ _ _).trans (e.symm.append_right bs)
    · have e0 : as = [] := by
        cases as with
        | nil => rfl
        | cons x r => cases c2
      subst e0
      walk_at "rds"
      exact q b bs _ (g.trans cx) nb0 eb1 pm
end
end KA
set_option Elab.async false
set_option linter.all false
set_option maxRecDepth 100000
set_option maxHeartbeats 400000
namespace KA
open PySem PySem.Spec PyProof.Rows L2 Ea
abbrev s_law_owners : Stmt := topS 24
theorem sc_law_owners : FnScope ["deck", "n", "way", "cut", "letter"] ["deck", "n"] (defScope s_law_owners) :=
  ⟨rfl, rfl, rfl, by decide +kernel, rfl, by decide +kernel, by decide +kernel⟩
abbrev s_law_clause : Stmt := topS 25
theorem sc_law_clause : FnScope ["deck", "n", "most", "many", "letters", "letter"] ["deck", "n", "most"] (defScope s_law_clause) :=
  ⟨rfl, rfl, rfl, by decide +kernel, rfl, by decide +kernel, by decide +kernel⟩
local macro_rules | `(tactic| walk_at "rd") => `(tactic| first
  | (with_reducible refine rd_seq ?_) | (with_reducible refine rd_asg ?_) | (with_reducible refine rd_if ?_) | (with_reducible refine rd_ret ?_) | (with_reducible refine rd_next ?_)
  | (with_reducible refine rd_drop ?_) | ((with_reducible refine rd_name (σ' := ?ss) ?hs ?_); (case hs => (dsimp only [List.set]; exact rfl)))
  | ((with_reducible refine rd_var (v := ?vv) ?hv ?_); (case hv => exact rfl)) | (with_reducible refine rd_c ?_) | (with_reducible refine rd_op ?_) | (with_reducible refine rd_un ?_)
  | (with_reducible refine rd_I0 ?_) | (with_reducible refine rd_U ?_) | (with_reducible refine rd_test ?_) | (with_reducible refine rd_B ?_) | (with_reducible refine rd_k ?_)
  | (with_reducible refine rd_not ?_) | (with_reducible refine rd_and ?_) | (with_reducible refine rd_or ?_) | (with_reducible refine rd_ifE ?_)
  | (with_reducible refine rd_par ?_) | ((with_reducible refine rd_par2 (σ' := ?ss) ?hs ?_); (case hs => (dsimp only [List.set]; exact rfl)))
  | (with_reducible refine rd_gsub ?_) | (with_reducible refine rd_andV ?_) | (with_reducible refine rd_orV ?_) | (with_reducible refine rd_notV ?_)
  | (with_reducible refine rd_lc ?_) | (with_reducible refine rd_iTup ?_) | (with_reducible refine rd_iList ?_) | (with_reducible refine rd_iRng1 ?_)
  | (with_reducible refine rd_yes ?_) | (with_reducible refine rd_true ?_) | (with_reducible refine rd_false ?_) | (with_reducible refine rd_m1 ?_) | (with_reducible refine rd_isS ?_)
  | ((with_reducible refine rd_eq ?hs ?_); (case hs => exact rfl)) | ((with_reducible refine rd_ne ?hs ?_); (case hs => exact rfl))
  | (with_reducible refine rd_listRg ?_) | (with_reducible refine rd_rg2 ?_) | (with_reducible refine rd_rgk ?_)
  | (with_reducible refine rd_dnew ?_) | (with_reducible refine rd_ddel ?_) | (with_reducible refine rd_kw ?_) | (with_reducible refine rd_callS ?_) | (with_reducible refine rd_dc ?_) | (with_reducible refine rd_for ?_) | (with_reducible refine rd_tru ?_) | (with_reducible refine rd_truI ?_)
  | (with_reducible refine rd_nil ?_) | (with_reducible refine rd_cons ?_) | (with_reducible refine rd_call ?_) | (with_reducible refine rd_cb ?_)
  | (with_reducible refine rd_tup ?_) | (with_reducible refine rd_lst ?_) | (with_reducible refine rd_dget ?_) | (with_reducible refine rd_dput ?_) | (with_reducible refine rd_sl ?_)
  | (with_reducible refine rd_nopart ?_) | (with_reducible refine rd_part ?_) | (with_reducible refine rd_parti ?_) | (with_reducible refine rd_bm ?_) | (with_reducible refine rd_bm0 ?_)
  | (with_reducible refine rd_int ?_) | (with_reducible refine rd_intb ?_) | (with_reducible refine rd_abs ?_) | (with_reducible refine rd_min2 ?_) | (with_reducible refine rd_max2 ?_))
local macro_rules | `(tactic| walk_at "rds") => `(tactic| repeat (walk_at "rd"))
local macro_rules | `(tactic| walk_at "rq") => `(tactic| first
  | (with_reducible refine rd_seq ?_) | (with_reducible refine rd_asg ?_) | (with_reducible refine rd_ret ?_) | (with_reducible refine rd_next ?_)
  | (with_reducible refine rd_drop ?_) | ((with_reducible refine rd_name (σ' := ?ss) ?hs ?_); (case hs => (dsimp only [List.set]; exact rfl)))
  | ((with_reducible refine rd_var (v := ?vv) ?hv ?_); (case hv => exact rfl)) | (with_reducible refine rd_c ?_) | (with_reducible refine rd_op ?_) | (with_reducible refine rd_un ?_)
  | (with_reducible refine rd_I0 ?_) | (with_reducible refine rd_U ?_) | (with_reducible refine rd_test ?_) | (with_reducible refine rd_B ?_) | (with_reducible refine rd_k ?_)
  | (with_reducible refine rd_not ?_) | (with_reducible refine rd_and ?_) | (with_reducible refine rd_or ?_) | (with_reducible refine rd_ifE ?_)
  | (with_reducible refine rd_par ?_) | ((with_reducible refine rd_par2 (σ' := ?ss) ?hs ?_); (case hs => (dsimp only [List.set]; exact rfl)))
  | (with_reducible refine rd_gsub ?_) | (with_reducible refine rd_andV ?_) | (with_reducible refine rd_orV ?_) | (with_reducible refine rd_notV ?_)
  | (with_reducible refine rd_lc ?_) | (with_reducible refine rd_iTup ?_) | (with_reducible refine rd_iList ?_) | (with_reducible refine rd_iRng1 ?_)
  | (with_reducible refine rd_yes ?_) | (with_reducible refine rd_true ?_) | (with_reducible refine rd_false ?_) | (with_reducible refine rd_m1 ?_) | (with_reducible refine rd_isS ?_)
  | ((with_reducible refine rd_eq ?hs ?_); (case hs => exact rfl)) | ((with_reducible refine rd_ne ?hs ?_); (case hs => exact rfl))
  | (with_reducible refine rd_listRg ?_) | (with_reducible refine rd_rg2 ?_) | (with_reducible refine rd_rgk ?_)
  | (with_reducible refine rd_dnew ?_) | (with_reducible refine rd_ddel ?_) | (with_reducible refine rd_kw ?_) | (with_reducible refine rd_callS ?_) | (with_reducible refine rd_dc ?_) | (with_reducible refine rd_for ?_) | (with_reducible refine rd_tru ?_) | (with_reducible refine rd_truI ?_)
  | (with_reducible refine rd_nil ?_) | (with_reducible refine rd_cons ?_) | (with_reducible refine rd_call ?_) | (with_reducible refine rd_cb ?_)
  | (with_reducible refine rd_tup ?_) | (with_reducible refine rd_lst ?_) | (with_reducible refine rd_dget ?_) | (with_reducible refine rd_dput ?_) | (with_reducible refine rd_sl ?_)
  | (with_reducible refine rd_nopart ?_) | (with_reducible refine rd_part ?_) | (with_reducible refine rd_parti ?_) | (with_reducible refine rd_bm ?_) | (with_reducible refine rd_bm0 ?_)
  | (with_reducible refine rd_int ?_) | (with_reducible refine rd_intb ?_) | (with_reducible refine rd_abs ?_) | (with_reducible refine rd_min2 ?_) | (with_reducible refine rd_max2 ?_))
local macro_rules | `(tactic| walk_at "rqs") => `(tactic| repeat (walk_at "rq"))

section
variable {P : Program} {w : World} {K : PySem.W.Frag} {mg : Str → Option Value} {base : Heap}
def spOwners : Sp := fun vs H Q _ => ∃ (d l : Addr) (n : Int), vs = [.ref d, .int n] ∧ DeckL d l H ∧ 0 ≤ n ∧ n ≤ 60 ∧
  ∀ (z : Str) (H' : Hp), Gl d l H H' → OwnS n.toNat z → Q (.str z) H'
theorem ok_owners {f fD fP : Addr} {fd fdD fdP : FuncData} (F : Fun K "_law_owners" "_law_owners" s_law_owners f fd) (T : Bl mg)
    (G_law_draw : FnOk P w K mg base CX0 1 fD fdD ["deck", "many"] spDraw) (C_law_draw : Callee K mg "_law_draw" fD fdD ["deck", "many"])
    (G_law_pick : FnOk P w K mg base CX0 2 fP fdP ["deck", "items"] spPick) (C_law_pick : Callee K mg "_law_pick" fP fdP ["deck", "items"]) :
    FnOk P w K mg base CX0 3 f fd ["deck", "n"] spOwners := by
  refine F.ok sc_law_owners (fun vs H Q E h => ?_) (fun cdv A outer s H vs Q E hr h => ?_)
  · obtain ⟨d, l, n, rfl, _⟩ := h
    rfl
  · obtain ⟨d, l, n, rfl, hD, h0, h1, q⟩ := h
    refine ⟨_, (pss_cons (ps_set (i := 2) sc_law_owners.nd rfl (Or.inl rfl) (pe_call G_law_draw (hr.mono (by decide)) (by rfl) C_law_draw.m C_law_draw.k C_law_draw.b .nil pass0 (pa_cons (pv 0) (pa_cons pe_int pa_nil))))
 (pss_cons (ps_if (pt_cmpR op_lt (pv 2) pe_int (nomark _)) (pss_one (ps_ret (pe_op op_mulS (pe_ix ix_str pe_str (pv 2) (fun _ _ => rfl)) (pv 1)))) pss_nil)
 (pss_cons (ps_if (pt_cmpR op_eq (pv 2) pe_int (nomark _)) (pss_one (ps_ret (pe_slice sl_str (pe_op op_mulS pe_str (pv 1)) po_none (po_some (pv 1))))) pss_nil)
 (pss_cons (ps_if (pt_cmpR op_eq (pv 2) pe_int (nomark _)) (pss_one (ps_ret (pe_slice sl_str (pe_op op_mulS pe_str (pv 1)) po_none (po_some (pv 1))))) pss_nil)
 (pss_cons (ps_if (pt_cmpR op_eq (pv 2) pe_int (nomark _)) (pss_cons (ps_set (i := 3) sc_law_owners.nd rfl (Or.inl rfl) (pe_call G_law_draw (hr.mono (by decide)) (by rfl) C_law_draw.m C_law_draw.k C_law_draw.b .nil pass0 (pa_cons (pv 0) (pa_cons (pe_op op_add (pv 1) pe_int) pa_nil))))
 (pss_one (ps_ret (pe_ifExp (pt_cmpR op_eq (pe_call G_law_draw (hr.mono (by decide)) (by rfl) C_law_draw.m C_law_draw.k C_law_draw.b .nil pass0 (pa_cons (pv 0) (pa_cons pe_int pa_nil))) pe_int (nomark _)) (pe_op op_addSt (pe_op op_mulS pe_str (pv 3)) (pe_op op_mulS pe_str (pe_op op_sub (pv 1) (pv 3)))) (pe_op op_addSt (pe_op op_mulS pe_str (pv 3)) (pe_op op_mulS pe_str (pe_op op_sub (pv 1) (pv 3)))))))) pss_nil)
 (pss_one (ps_ret (pe_joinN pe_str (pe_lc (own := [("letter", 4)]) (g := gName 4) rfl sc_law_owners.nd (pi_range1 (by rfl) T.range (pa_cons (pv 1) pa_nil)) (blkOk_by (own := [("letter", 4)]) (N := ["deck", "n", "way", "cut", "letter"]) (sc := defScope s_law_owners) (by decide +kernel)) (fun _ _ _ _ _ => (pg_name (i := 4) sc_law_owners.nd rfl (Or.inl rfl))) (fun _ _ _ _ _ => pts_nil) (fun _ _ _ _ _ => (pe_call G_law_pick (hr.mono (by decide)) (by rfl) C_law_pick.m C_law_pick.k C_law_pick.b .nil pass0 (pa_cons (pv 0) (pa_cons (pe_lst (pa_cons pe_str (pa_cons pe_str pa_nil))) pa_nil))))))))))))), ?_⟩
    refine rd_start (σ' := [some (.ref d), some (.int n), none, none, none]) rfl ?_
    have own : ∀ {z : Str} {H' : Hp}, Gl d l H H' → OwnS (n.toNat * 1) z → Q (.str z) H' := fun g h => q _ _ g (by rw [Nat.mul_one] at h; exact h)
    walk_at "rds"
    refine ⟨d, l, _, rfl, hD, by omega, by omega, fun r H1 g1 r0 r1 => ?_⟩
    walk_at "rds"
    refine rd_ite (fun c => ?_) (fun c => ?_)
    · walk_at "rds"
      have hr : r = 0 ∨ r = 1 := by omega
      rcases hr with rfl | rfl
      · refine rd_ixS (c := 101) (by decide) rfl ?_
        walk_at "rds"
        exact rd_mulS h0 (by omega) (by decide) (by decide) (own g1 (own_rep own_e h0))
      · refine rd_ixS (c := 115) (by decide) rfl ?_
        walk_at "rds"
        exact rd_mulS h0 (by omega) (by decide) (by decide) (own g1 (own_rep own_s h0))
    have cut : ∀ {z : Str}, OwnS 2 z → OwnS n.toNat (cutS (repS z n) none (some n)) := fun h => by
      have z := own_cut (n := n.toNat) (own_rep h h0) (by omega)
      rw [Int.toNat_of_nonneg h0] at z
      exact z
    have len : ∀ {z : Str}, OwnS 2 z → (repS z n).length ≤ sizeLine := fun h => by
      rw [(own_rep h h0).1, sizeLine_eq]
      omega
    walk_at "rds"
    refine rd_ite (fun c2 => ?_) (fun c2 => ?_)
    · walk_at "rds"
      refine rd_mulS h0 (by omega) (by decide) (by decide) ?_
      walk_at "rds"
      exact rd_slS (len ⟨rfl, by decide⟩) (q _ _ g1 (cut ⟨rfl, by decide⟩))
    walk_at "rds"
    refine rd_ite (fun c3 => ?_) (fun c3 => ?_)
    · walk_at "rds"
      refine rd_mulS h0 (by omega) (by decide) (by decide) ?_
      walk_at "rds"
      exact rd_slS (len ⟨rfl, by decide⟩) (q _ _ g1 (cut ⟨rfl, by decide⟩))
    walk_at "rds"
    refine rd_ite (fun c4 => ?_) (fun c4 => ?_)
    · walk_at "rds"
      refine ⟨d, l, _, rfl, g1.dk, by omega, by omega, fun k H3 g3 k0 k1 => ?_⟩
      walk_at "rds"
      have oe := own_rep own_e k0
      have os := own_rep own_s (n := n - k) (by omega)
      have oe' := own_rep own_e (n := n - k) (by omega)
      have os' := own_rep own_s k0
      have sum : k.toNat * 1 + (n - k).toNat * 1 = n.toNat * 1 := by omega
      refine ⟨d, l, 2, rfl, g3.dk, by decide, by decide, fun u H4 g4 u0 u1 => ?_⟩
      have g14 := (g1.trans g3).trans g4
      walk_at "rds"
      refine rd_ite (fun c5 => ?_) (fun c5 => ?_)
      · walk_at "rds"
        refine rd_mulS k0 (by omega) (by decide) (by decide) ?_
        walk_at "rds"
        refine rd_mulS (by omega) (by omega) (by decide) (by decide) ?_
        refine rd_addSt (by rw [oe.1, os.1, sizeLine_eq]; omega) ?_
        exact own g14 (sum ▸ own_add oe os)
      · walk_at "rds"
        refine rd_mulS k0 (by omega) (by decide) (by decide) ?_
        walk_at "rds"
        refine rd_mulS (by omega) (by omega) (by decide) (by decide) ?_
        refine rd_addSt (by rw [os'.1, oe'.1, sizeLine_eq]; omega) ?_
        exact own g14 (sum ▸ own_add os' oe')
    · walk_at "rds"
      refine rd_rng1 (by omega) (by omega) ?_
      refine lc_glR (fun i acc => ∃ ys : List Str, acc = ys.map V.str ∧ ys.length = i ∧ ∀ y ∈ ys, OwnS 1 y) (σx := fun x => [some (.ref d), some (.int n), some (.int r), none, some x])
        g1.dk (by omega) (fun _ => rfl) (fun _ => rfl) ⟨[], rfl, rfl, nofun⟩ (fun i hi acc H3 N S g3 hP kN kS => ?_) fun D acc H3 g3 eD hacc hP => ?_
      · obtain ⟨ys, rfl, rfl, hy⟩ := hP
        walk_at "rds"
        refine ⟨by decide, fun b hb => ?_⟩
        have g4 := Gl.new (o := .lst [V.str "e", V.str "s"]) g3.dk hb
        refine ⟨d, l, b, _, rfl, g4.dk, upd_same, (g3.dk.off hb).1, (g3.dk.off hb).2, by decide, by decide, fun y H5 g5 hy5 => ?_⟩
        obtain ⟨z, rfl, hz⟩ : ∃ z : Str, y = .str z ∧ OwnS 1 z := by
          rcases List.mem_cons.mp hy5 with rfl | hy5
          · exact ⟨_, rfl, own_e⟩
          · rw [List.mem_singleton.mp hy5]
            exact ⟨_, rfl, own_s⟩
        refine kN _ _ (g4.trans g5) ⟨ys ++ [z], by rw [List.map_append] <;> rfl, by rw [List.length_append] <;> rfl, fun y hy' => ?_⟩
        rcases List.mem_append.mp hy' with h | h
        · exact hy y h
        · rw [List.mem_singleton.mp h]
          exact hz
      · obtain ⟨ys, rfl, e, hy⟩ := hP
        refine rd_join (SqL.of hacc) ?_ (own (g1.trans g3) ?_)
        · have z : ("" : Str).length = 0 := rfl
          rw [own_sum hy, z]
          omega
        · have z := own_join hy
          rw [e] at z
          rw [Nat.mul_one]
          exact z
def spClause (K : PySem.W.Frag) : Sp := fun vs H Q _ => ∃ (d l : Addr) (n most : Int), vs = [.ref d, .int n, .int most] ∧ DeckL d l H ∧ 0 ≤ n ∧ n ≤ 60 ∧ 0 ≤ most ∧ most ≤ 60 ∧
  ∀ (a : Addr) (ns : List Int) (H' : Hp), Gl d l H H' → Row n.toNat ns → SqT K H' a (ns.map V.int) → Q (.ref a) H'
theorem ok_clause {f fD fP fM : Addr} {fd fdD fdP fdM : FuncData} (F : Fun K "_law_clause" "_law_clause" s_law_clause f fd) (T : Bl mg)
    (G_law_draw : FnOk P w K mg base CX0 1 fD fdD ["deck", "many"] spDraw) (C_law_draw : Callee K mg "_law_draw" fD fdD ["deck", "many"])
    (G_law_pick : FnOk P w K mg base CX0 2 fP fdP ["deck", "items"] spPick) (C_law_pick : Callee K mg "_law_pick" fP fdP ["deck", "items"])
    (G_law_mixed : FnOk P w K mg base CX0 2 fM fdM ["deck", "items"] (spMixed K)) (C_law_mixed : Callee K mg "_law_mixed" fM fdM ["deck", "items"]) :
    FnOk P w K mg base CX0 3 f fd ["deck", "n", "most"] (spClause K) := by
  refine F.ok sc_law_clause (fun vs H Q E h => ?_) (fun cdv A outer s H vs Q E hr h => ?_)
  · obtain ⟨d, l, n, m, rfl, _⟩ := h
    rfl
  · obtain ⟨d, l, n, most, rfl, hD, h0, h1, m0, m1, q⟩ := h
    refine ⟨_, (pss_cons (ps_set (i := 3) sc_law_clause.nd rfl (Or.inl rfl) (pe_callB (c_min2 rfl) (by rfl) T.min (by decide +kernel) (pa_cons (pv 1) (pa_cons (pe_call G_law_pick (hr.mono (by decide)) (by rfl) C_law_pick.m C_law_pick.k C_law_pick.b .nil pass0 (pa_cons (pv 0) (pa_cons (pe_lst (pa_cons pe_int (pa_cons pe_int (pa_cons pe_int (pa_cons pe_int (pa_cons pe_int (pa_cons pe_int (pa_cons pe_int (pa_cons pe_int (pa_cons (pv 2) (pa_cons (pe_call G_law_draw (hr.mono (by decide)) (by rfl) C_law_draw.m C_law_draw.k C_law_draw.b .nil pass0 (pa_cons (pv 0) (pa_cons (pe_op op_add (pv 2) pe_int) pa_nil))) pa_nil))))))))))) pa_nil))) pa_nil))))
 (pss_cons (ps_set (i := 4) sc_law_clause.nd rfl (Or.inl rfl) (pe_callB (c_sorted (K := K) rfl) (by rfl) T.sorted (by decide +kernel) (pa_cons (pe_slice (sk_list (K := K) rfl) (pe_call G_law_mixed (hr.mono (by decide)) (by rfl) C_law_mixed.m C_law_mixed.k C_law_mixed.b .nil pass0 (pa_cons (pv 0) (pa_cons (pe_listRg rfl (by rfl) T.list (prg_2 (by rfl) T.range pe_int (pe_op op_add (pv 1) pe_int))) pa_nil))) po_none (po_some (pv 3))) pa_nil)))
 (pss_one (ps_ret (pe_callTy (c_tuple (K := K) rfl) (by rfl) T.tuple (by decide +kernel) (pa_cons (pe_lc (own := [("letter", 5)]) (g := gName 5) rfl sc_law_clause.nd (ik_listI (K := K) rfl (pv 4)) (blkOk_by (own := [("letter", 5)]) (N := ["deck", "n", "most", "many", "letters", "letter"]) (sc := defScope s_law_clause) (by decide +kernel)) (fun _ _ _ _ _ => (pg_name (i := 5) sc_law_clause.nd rfl (Or.inl rfl))) (fun _ _ _ _ _ => pts_nil) (fun _ _ _ _ _ => (pe_ifExp (pt_cmpR op_eq (pe_call G_law_draw (hr.mono (by decide)) (by rfl) C_law_draw.m C_law_draw.k C_law_draw.b .nil pass0 (pa_cons (pv 0) (pa_cons pe_int pa_nil))) pe_int (nomark _)) (pv 5) (pe_un un_neg (pv 5))))) pa_nil)))))), ?_⟩
    refine rd_start (σ' := [some (.ref d), some (.int n), some (.int most), none, none, none]) rfl ?_
    walk_at "rds"
    refine ⟨d, l, _, rfl, hD, by omega, by omega, fun r H1 g1 r0 r1 => ?_⟩
    walk_at "rds"
    refine ⟨(by show 10 ≤ sizeLine; decide), fun b hb => ?_⟩
    have g2 := g1.trans (Gl.new (o := .lst [V.int 0, V.int 1, V.int 2, V.int 2, V.int 2, V.int 3, V.int 3, V.int 3, V.int most, V.int r]) g1.dk hb)
    refine ⟨d, l, b, _, rfl, g2.dk, upd_same, (g1.dk.off hb).1, (g1.dk.off hb).2, (by show 1 ≤ 10; decide), (by show 10 ≤ 1000; decide), fun y H3 g3 hy => ?_⟩
    obtain ⟨k, rfl, k0⟩ : ∃ k : Int, y = .int k ∧ 0 ≤ k := by
      simp only [List.mem_cons, List.not_mem_nil, or_false] at hy
      rcases hy with rfl | rfl | rfl | rfl | rfl | rfl | rfl | rfl | rfl | rfl <;> exact ⟨_, rfl, by omega⟩
    have g3' := g2.trans g3
    walk_at "rds"
    generalize e3 : (if k < n then k else n) = many
    have hmany : 0 ≤ many := by
      rw [← e3]
      split <;> omega
    walk_at "rds"
    refine ⟨RgOk.of_le (by omega) (by omega) (by omega) (by omega), fun c hc => ?_⟩
    rw [rgV_ints]
    have g4 := g3'.trans (Gl.new (o := .lst ((rgI 1 (n + 1)).map V.int)) g3'.dk hc)
    walk_at "rds"
    refine ⟨d, l, c, rgI 1 (n + 1), rfl, g4.dk, .inl (SqL.of upd_same), by rw [rgI_length]; omega, fun e ms H5 g5 he hms pm => ?_⟩
    have g5' := g4.trans g5
    walk_at "rds"
    refine rd_slL (SqL.of hms) fun u hu => ?_
    rw [cut_take hmany, ← List.map_take]
    have g6 := g5'.trans (Gl.new (o := .lst ((ms.take many.toNat).map V.int)) g5'.dk hu)
    walk_at "rds"
    refine rd_sorted (SqL.of upd_same) fun ls v pl so hv => ?_
    have g7 := g6.trans (Gl.new (o := .lst (ls.map V.int)) g6.dk hv)
    have hls : ∀ x ∈ ls, 1 ≤ x ∧ x ≤ (n.toNat : Int) := fun x hx => by
      have z := rgI_mem.mp (pm.mem_iff.mp (List.mem_of_mem_take (pl.mem_iff.mp hx)))
      omega
    have hnd : ls.Nodup := pl.nodup_iff.mpr ((pm.nodup_iff.mpr (nodup_of_lt (rgI_lt 1 (n + 1)))).sublist (List.take_sublist _ _))
    have hrow : Row n.toNat ls := Row.of_letters (lt_of_sorted so hnd) hls
    have hlen := hrow.length
    walk_at "rds"
    obtain ⟨vd, vl⟩ := g6.dk.off hv
    refine rd_refL (SqL.of upd_same) ?_
    refine lc_glL (xs := ls.map V.int) (fun i acc => ∃ ts : List Int, acc = ts.map V.int ∧ ts.map Int.natAbs = (ls.take i).map Int.natAbs)
      (σx := fun x => [some (.ref d), some (.int n), some (.int most), some (.int many), some (.ref v), some x])
      g7.dk (fun H' g => SqL.of (g.kp v _ vd vl upd_same)) (by rw [List.length_map]; omega) (fun _ => rfl) (fun _ => rfl) ⟨[], rfl, rfl⟩ (fun i x hx acc H8 N S g8 hP kN kS => ?_) fun D acc H8 g8 eD hacc hP => ?_
    · obtain ⟨ts, rfl, et⟩ := hP
      rw [List.getElem?_map] at hx
      obtain ⟨t, ht, rfl⟩ := Option.map_eq_some_iff.mp hx
      walk_at "rds"
      refine ⟨d, l, 2, rfl, g8.dk, by decide, by decide, fun u H9 g9 u0 u1 => ?_⟩
      have fin : ∀ s : Int, s.natAbs = t.natAbs → N (.int s) H9 := fun s e => by
        refine kN _ _ g9 ⟨ts ++ [s], by rw [List.map_append] <;> rfl, ?_⟩
        rw [List.take_add_one, ht, List.map_append, List.map_append, et]
        show _ ++ [s.natAbs] = _ ++ [t.natAbs]
        rw [e]
      walk_at "rds"
      refine rd_ite (fun c => ?_) (fun c => ?_)
      · walk_at "rds"
        exact fin _ rfl
      · walk_at "rds"
        exact fin _ (Int.natAbs_neg t)
    · obtain ⟨ts, rfl, et⟩ := hP
      rw [List.length_map, List.take_of_length_le (Nat.le_refl _)] at et
      walk_at "rds"
      refine rd_tupL (SqL.of hacc) fun z hz => ?_
      exact q z ts _ ((g7.trans g8).trans (Gl.new g8.dk hz)) (hrow.abs et) (SqT.of upd_same)
end
end KA
set_option Elab.async false
set_option linter.all false
set_option maxRecDepth 100000
set_option maxHeartbeats 400000
namespace KA
open PySem PySem.Spec PyProof.Rows L2 Ea
abbrev s_law_unlike : Stmt := topS 26
theorem sc_law_unlike : FnScope ["rows", "found", "row"] ["rows"] (defScope s_law_unlike) :=
  ⟨rfl, rfl, rfl, by decide +kernel, rfl, by decide +kernel, by decide +kernel⟩
local macro_rules | `(tactic| walk_at "rd") => `(tactic| first
  | (with_reducible refine rd_seq ?_) | (with_reducible refine rd_asg ?_) | (with_reducible refine rd_if ?_) | (with_reducible refine rd_ret ?_) | (with_reducible refine rd_next ?_)
  | (with_reducible refine rd_drop ?_) | ((with_reducible refine rd_name (σ' := ?ss) ?hs ?_); (case hs => (dsimp only [List.set]; exact rfl)))
  | ((with_reducible refine rd_var (v := ?vv) ?hv ?_); (case hv => exact rfl)) | (with_reducible refine rd_c ?_) | (with_reducible refine rd_op ?_) | (with_reducible refine rd_un ?_)
  | (with_reducible refine rd_I0 ?_) | (with_reducible refine rd_U ?_) | (with_reducible refine rd_test ?_) | (with_reducible refine rd_B ?_) | (with_reducible refine rd_k ?_)
  | (with_reducible refine rd_not ?_) | (with_reducible refine rd_and ?_) | (with_reducible refine rd_or ?_) | (with_reducible refine rd_ifE ?_)
  | (with_reducible refine rd_par ?_) | ((with_reducible refine rd_par2 (σ' := ?ss) ?hs ?_); (case hs => (dsimp only [List.set]; exact rfl)))
  | (with_reducible refine rd_gsub ?_) | (with_reducible refine rd_andV ?_) | (with_reducible refine rd_orV ?_) | (with_reducible refine rd_notV ?_)
  | (with_reducible refine rd_lc ?_) | (with_reducible refine rd_iTup ?_) | (with_reducible refine rd_iList ?_) | (with_reducible refine rd_iRng1 ?_)
  | (with_reducible refine rd_yes ?_) | (with_reducible refine rd_true ?_) | (with_reducible refine rd_false ?_) | (with_reducible refine rd_m1 ?_) | (with_reducible refine rd_isS ?_)
  | ((with_reducible refine rd_eq ?hs ?_); (case hs => exact rfl)) | ((with_reducible refine rd_ne ?hs ?_); (case hs => exact rfl))
  | (with_reducible refine rd_listRg ?_) | (with_reducible refine rd_rg2 ?_) | (with_reducible refine rd_rgk ?_)
  | (with_reducible refine rd_dnew ?_) | (with_reducible refine rd_ddel ?_) | (with_reducible refine rd_kw ?_) | (with_reducible refine rd_callS ?_) | (with_reducible refine rd_dc ?_) | (with_reducible refine rd_for ?_) | (with_reducible refine rd_tru ?_) | (with_reducible refine rd_truI ?_)
  | (with_reducible refine rd_nil ?_) | (with_reducible refine rd_cons ?_) | (with_reducible refine rd_call ?_) | (with_reducible refine rd_cb ?_)
  | (with_reducible refine rd_tup ?_) | (with_reducible refine rd_lst ?_) | (with_reducible refine rd_dget ?_) | (with_reducible refine rd_dput ?_) | (with_reducible refine rd_sl ?_)
  | (with_reducible refine rd_nopart ?_) | (with_reducible refine rd_part ?_) | (with_reducible refine rd_parti ?_) | (with_reducible refine rd_bm ?_) | (with_reducible refine rd_bm0 ?_)
  | (with_reducible refine rd_int ?_) | (with_reducible refine rd_intb ?_) | (with_reducible refine rd_abs ?_) | (with_reducible refine rd_min2 ?_) | (with_reducible refine rd_max2 ?_))
local macro_rules | `(tactic| walk_at "rds") => `(tactic| repeat (walk_at "rd"))
local macro_rules | `(tactic| walk_at "rq") => `(tactic| first
  | (with_reducible refine rd_seq ?_) | (with_reducible refine rd_asg ?_) | (with_reducible refine rd_ret ?_) | (with_reducible refine rd_next ?_)
  | (with_reducible refine rd_drop ?_) | ((with_reducible refine rd_name (σ' := ?ss) ?hs ?_); (case hs => (dsimp only [List.set]; exact rfl)))
  | ((with_reducible refine rd_var (v := ?vv) ?hv ?_); (case hv => exact rfl)) | (with_reducible refine rd_c ?_) | (with_reducible refine rd_op ?_) | (with_reducible refine rd_un ?_)
  | (with_reducible refine rd_I0 ?_) | (with_reducible refine rd_U ?_) | (with_reducible refine rd_test ?_) | (with_reducible refine rd_B ?_) | (with_reducible refine rd_k ?_)
  | (with_reducible refine rd_not ?_) | (with_reducible refine rd_and ?_) | (with_reducible refine rd_or ?_) | (with_reducible refine rd_ifE ?_)
  | (with_reducible refine rd_par ?_) | ((with_reducible refine rd_par2 (σ' := ?ss) ?hs ?_); (case hs => (dsimp only [List.set]; exact rfl)))
  | (with_reducible refine rd_gsub ?_) | (with_reducible refine rd_andV ?_) | (with_reducible refine rd_orV ?_) | (with_reducible refine rd_notV ?_)
  | (with_reducible refine rd_lc ?_) | (with_reducible refine rd_iTup ?_) | (with_reducible refine rd_iList ?_) | (with_reducible refine rd_iRng1 ?_)
  | (with_reducible refine rd_yes ?_) | (with_reducible refine rd_true ?_) | (with_reducible refine rd_false ?_) | (with_reducible refine rd_m1 ?_) | (with_reducible refine rd_isS ?_)
  | ((with_reducible refine rd_eq ?hs ?_); (case hs => exact rfl)) | ((with_reducible refine rd_ne ?hs ?_); (case hs => exact rfl))
  | (with_reducible refine rd_listRg ?_) | (with_reducible refine rd_rg2 ?_) | (with_reducible refine rd_rgk ?_)
  | (with_reducible refine rd_dnew ?_) | (with_reducible refine rd_ddel ?_) | (with_reducible refine rd_kw ?_) | (with_reducible refine rd_callS ?_) | (with_reducible refine rd_dc ?_) | (with_reducible refine rd_for ?_) | (with_reducible refine rd_tru ?_) | (with_reducible refine rd_truI ?_)
  | (with_reducible refine rd_nil ?_) | (with_reducible refine rd_cons ?_) | (with_reducible refine rd_call ?_) | (with_reducible refine rd_cb ?_)
  | (with_reducible refine rd_tup ?_) | (with_reducible refine rd_lst ?_) | (with_reducible refine rd_dget ?_) | (with_reducible refine rd_dput ?_) | (with_reducible refine rd_sl ?_)
  | (with_reducible refine rd_nopart ?_) | (with_reducible refine rd_part ?_) | (with_reducible refine rd_parti ?_) | (with_reducible refine rd_bm ?_) | (with_reducible refine rd_bm0 ?_)
  | (with_reducible refine rd_int ?_) | (with_reducible refine rd_intb ?_) | (with_reducible refine rd_abs ?_) | (with_reducible refine rd_min2 ?_) | (with_reducible refine rd_max2 ?_))
local macro_rules | `(tactic| walk_at "rqs") => `(tactic| repeat (walk_at "rq"))

section
variable {P : Program} {w : World} {K : PySem.W.Frag} {mg : Str → Option Value} {base : Heap}
def spDeck (K : PySem.W.Frag) : Sp := fun vs H Q _ => ∃ (a : Addr) (ns : List Int), vs = [.ref a] ∧ SqL K H a (ns.map V.int) ∧ ns.length ≤ 63 ∧
  ∀ (d l : Addr) (H' : Hp), Evl.Ex H H' → H d = none → H l = none → DeckL d l H' → Q (.ref d) H'
theorem ok_deck {f : Addr} {fd : FuncData} (F : Fun K "_law_deck" "_law_deck" s_law_deck f fd) (T : Bl mg) : FnOk P w K mg base CX0 1 f fd ["script"] (spDeck K) := by
  refine F.ok sc_law_deck (fun vs H Q E h => ?_) (fun cdv A outer s H vs Q E hr h => ?_)
  · obtain ⟨a, ns, rfl, _⟩ := h
    rfl
  · obtain ⟨a, ns, rfl, ha, hl, q⟩ := h
    refine ⟨_, (pss_cons (ps_par (i := 2) (j := 3) rfl sc_law_deck.nd rfl rfl (by decide) rfl rfl (pa_cons (pe_lc (own := [("cell", 1)]) (g := gName 1) rfl sc_law_deck.nd (ik_listI (K := K) rfl (pe_slice (sk_list (K := K) rfl) (pv 0) po_none (po_some pe_int))) (blkOk_by (own := [("cell", 1)]) (N := ["script", "cell", "cells", "mixed"]) (sc := defScope s_law_deck) (by decide +kernel)) (fun _ _ _ _ _ => (pg_name (i := 1) sc_law_deck.nd rfl (Or.inl rfl))) (fun _ _ _ _ _ => pts_nil) (fun _ _ _ _ _ => (pe_op op_add (pe_op op_mul pe_int (pe_callB c_abs (by rfl) T.abs (by decide +kernel) (pa_cons (pv 1) pa_nil))) (pe_callTy c_int (by rfl) T.int (by decide +kernel) (pa_cons (pe_cmpR op_lt (pv 1) pe_int (nomark _)) pa_nil))))) (pa_cons (pe_op op_add pe_int (pe_callB (c_len (K := K) rfl) (by rfl) T.len (by decide +kernel) (pa_cons (pv 0) pa_nil))) pa_nil)) (by rfl))
 (pss_cons (ps_for PassesOwn.never rfl (ik_listI (K := K) rfl (pv 2)) (pg_name (i := 1) sc_law_deck.nd rfl (Or.inl rfl)) (pss_one (ps_set (i := 3) sc_law_deck.nd rfl (Or.inl rfl) (pe_op op_mod (pe_callTy c_int (by rfl) T.int (by decide +kernel) (pa_cons (pe_op op_add (pe_op op_add (pe_op op_mul (pv 3) pe_int) (pv 1)) pe_int) pa_nil)) pe_int))))
 (pss_one (ps_ret (pe_lst (pa_cons (pe_lc (own := [("cell", 1)]) (g := gName 1) rfl sc_law_deck.nd (ik_listI (K := K) rfl (pv 2)) (blkOk_by (own := [("cell", 1)]) (N := ["script", "cell", "cells", "mixed"]) (sc := defScope s_law_deck) (by decide +kernel)) (fun _ _ _ _ _ => (pg_name (i := 1) sc_law_deck.nd rfl (Or.inl rfl))) (fun _ _ _ _ _ => (pts_one (pt_cmpR op_gt (pv 1) (pe_op op_pow pe_int pe_int) (nomark _)))) (fun _ _ _ _ _ => (pv 1))) (pa_cons (pv 3) (pa_cons pe_int pa_nil)))))))), ?_⟩
    refine rd_start (σ' := [some (.ref a), none, none, none]) rfl ?_
    walk_at "rds"
    refine rd_slL ha fun u hu => ?_
    have hn : ns.length < 100000 := by omega
    rw [show ((63 : Int)) = ((63 : Nat) : Int) from rfl, cut_take (by omega), List.take_of_length_le (by rw [List.length_map]; exact hl)]
    have e1 := Evl.Ex.new (o := .lst (ns.map V.int)) hu
    refine rd_refL (SqL.of upd_same) ?_
    refine lc_fmL (fun _ => true) (fun x => .int (2 * (x.natAbs : Int) + if decide (x < 0) = true then 1 else 0)) (σx := fun x => [some (.ref a), some x, none, none]) (SqL.of upd_same) (by omega) (fun _ => rfl) (fun _ => rfl)
      (fun x hx H' N S e kN kS => ?_) fun D H2 e2 eD hD => ?_
    · walk_at "rds"
      refine rd_I (.inl ⟨by decide, by decide⟩) ?_
      walk_at "rds"
      exact kN rfl _ (Evl.Ex.refl _)
    have hm : ∃ ms : List Int, ((ns.filter fun _ => true).map fun x => V.int (2 * (x.natAbs : Int) + if decide (x < 0) = true then 1 else 0)) = ms.map V.int ∧ ms.length ≤ 63 ∧ ∀ m ∈ ms, 0 ≤ m := by
      rw [List.filter_eq_self.mpr fun _ _ => rfl]
      refine ⟨ns.map fun x => 2 * (x.natAbs : Int) + if decide (x < 0) = true then 1 else 0, by rw [List.map_map] <;> rfl, by rw [List.length_map]; exact hl, fun m h => ?_⟩
      obtain ⟨x, _, rfl⟩ := List.mem_map.mp h
      split <;> omega
    obtain ⟨ms, em, lm, m0⟩ := hm
    rw [em] at hD
    have e12 := e1.trans e2
    walk_at "rds"
    refine rd_lenL (Evl.ex_l e12 ha) ?_
    rw [List.length_map]
    walk_at "rds"
    refine rd_refL (SqL.of hD) ?_
    refine fr_list (xs := ms.map V.int) (fun i σ' H' => ∃ (c : Option V) (m : Int), σ' = [some (.ref a), c, some (.ref D), some (.int m)] ∧ H' = H2 ∧ 0 ≤ m ∧ m < 4294967291)
      ⟨_, _, rfl, rfl, by omega, by omega⟩ (fun i σ' H' _ ⟨_, _, _, e, _⟩ => by rw [e]; exact SqL.of hD) (fun i x σ' H' hi hP => ?_) fun σ' H' hP => ?_
    · obtain ⟨c, m, rfl, rfl, p0, p1⟩ := hP
      rw [List.getElem?_map] at hi
      obtain ⟨t, ht, rfl⟩ := Option.map_eq_some_iff.mp hi
      refine rd_start (σ' := [some (.ref a), some (.int t), some (.ref D), some (.int m)]) rfl ?_
      walk_at "rds"
      refine rd_I (.inr ⟨by decide, by decide⟩) ?_
      walk_at "rds"
      refine rd_I (by decide) ?_
      walk_at "rds"
      exact ⟨_, _, rfl, rfl, Int.emod_nonneg _ (by decide), Int.emod_lt_of_pos _ (by decide)⟩
    · obtain ⟨c, m, rfl, rfl, p0, p1⟩ := hP
      walk_at "rds"
      refine rd_refL (SqL.of hD) ?_
      refine lc_fmL (fun x => decide ((10 : Int) ^ 15 < x)) V.int (σx := fun x => [some (.ref a), some x, some (.ref D), some (.int m)]) (SqL.of hD) (by omega) (fun _ => rfl) (fun _ => rfl)
        (fun x hx H' N S e kN kS => ?_) fun D3 H3 e3 eD3 hD3 => ?_
      · walk_at "rds"
        refine rd_I ⟨by decide, by decide, by decide⟩ ?_
        walk_at "rds"
        refine rd_ite (fun c => ?_) (fun c => ?_)
        · walk_at "rds"
          exact kN (decide_eq_true c) _ (Evl.Ex.refl _)
        · exact kS (decide_eq_false c) _ (Evl.Ex.refl _)
      walk_at "rds"
      refine ⟨(by show 3 ≤ sizeLine; decide), fun d hd => ?_⟩
      have e13 := e12.trans e3
      have hdD : D3 ≠ d := ne_of_none hD3 hd
      refine q d D3 _ (e13.trans (Evl.Ex.new hd)) (Evl.fresh_back e13 hd) (Evl.fresh_back e12 eD3) ⟨ms.filter fun x => decide ((10 : Int) ^ 15 < x), m, 0, upd_same, (upd_ne hdD).trans hD3, ?_, fun n hn => m0 n (List.mem_filter.mp hn).1, p0, p1⟩
      have := List.length_filter_le (fun x => decide ((10 : Int) ^ 15 < x)) ms
      omega
end
end KA
set_option Elab.async false
set_option linter.all false
set_option maxRecDepth 100000
set_option maxHeartbeats 400000
namespace KA
open PySem PySem.Spec PyProof.Rows L2 Ea
local macro_rules | `(tactic| walk_at "rd") => `(tactic| first
  | (with_reducible refine rd_seq ?_) | (with_reducible refine rd_asg ?_) | (with_reducible refine rd_if ?_) | (with_reducible refine rd_ret ?_) | (with_reducible refine rd_next ?_)
  | (with_reducible refine rd_drop ?_) | ((with_reducible refine rd_name (σ' := ?ss) ?hs ?_); (case hs => (dsimp only [List.set]; exact rfl)))
  | ((with_reducible refine rd_var (v := ?vv) ?hv ?_); (case hv => exact rfl)) | (with_reducible refine rd_c ?_) | (with_reducible refine rd_op ?_) | (with_reducible refine rd_un ?_)
  | (with_reducible refine rd_I0 ?_) | (with_reducible refine rd_U ?_) | (with_reducible refine rd_test ?_) | (with_reducible refine rd_B ?_) | (with_reducible refine rd_k ?_)
  | (with_reducible refine rd_not ?_) | (with_reducible refine rd_and ?_) | (with_reducible refine rd_or ?_) | (with_reducible refine rd_ifE ?_)
  | (with_reducible refine rd_par ?_) | ((with_reducible refine rd_par2 (σ' := ?ss) ?hs ?_); (case hs => (dsimp only [List.set]; exact rfl)))
  | (with_reducible refine rd_gsub ?_) | (with_reducible refine rd_andV ?_) | (with_reducible refine rd_orV ?_) | (with_reducible refine rd_notV ?_)
  | (with_reducible refine rd_lc ?_) | (with_reducible refine rd_iTup ?_) | (with_reducible refine rd_iList ?_) | (with_reducible refine rd_iRng1 ?_)
  | (with_reducible refine rd_yes ?_) | (with_reducible refine rd_true ?_) | (with_reducible refine rd_false ?_) | (with_reducible refine rd_m1 ?_) | (with_reducible refine rd_isS ?_)
  | ((with_reducible refine rd_eq ?hs ?_); (case hs => exact rfl)) | ((with_reducible refine rd_ne ?hs ?_); (case hs => exact rfl))
  | (with_reducible refine rd_listRg ?_) | (with_reducible refine rd_rg2 ?_) | (with_reducible refine rd_rgk ?_)
  | (with_reducible refine rd_dnew ?_) | (with_reducible refine rd_ddel ?_) | (with_reducible refine rd_kw ?_) | (with_reducible refine rd_callS ?_) | (with_reducible refine rd_dc ?_) | (with_reducible refine rd_for ?_) | (with_reducible refine rd_tru ?_) | (with_reducible refine rd_truI ?_)
  | (with_reducible refine rd_nil ?_) | (with_reducible refine rd_cons ?_) | (with_reducible refine rd_call ?_) | (with_reducible refine rd_cb ?_)
  | (with_reducible refine rd_tup ?_) | (with_reducible refine rd_lst ?_) | (with_reducible refine rd_dget ?_) | (with_reducible refine rd_dput ?_) | (with_reducible refine rd_sl ?_)
  | (with_reducible refine rd_nopart ?_) | (with_reducible refine rd_part ?_) | (with_reducible refine rd_parti ?_) | (with_reducible refine rd_bm ?_) | (with_reducible refine rd_bm0 ?_)
  | (with_reducible refine rd_int ?_) | (with_reducible refine rd_intb ?_) | (with_reducible refine rd_abs ?_) | (with_reducible refine rd_min2 ?_) | (with_reducible refine rd_max2 ?_))
local macro_rules | `(tactic| walk_at "rds") => `(tactic| repeat (walk_at "rd"))
local macro_rules | `(tactic| walk_at "rq") => `(tactic| first
  | (with_reducible refine rd_seq ?_) | (with_reducible refine rd_asg ?_) | (with_reducible refine rd_ret ?_) | (with_reducible refine rd_next ?_)
  | (with_reducible refine rd_drop ?_) | ((with_reducible refine rd_name (σ' := ?ss) ?hs ?_); (case hs => (dsimp only [List.set]; exact rfl)))
  | ((with_reducible refine rd_var (v := ?vv) ?hv ?_); (case hv => exact rfl)) | (with_reducible refine rd_c ?_) | (with_reducible refine rd_op ?_) | (with_reducible refine rd_un ?_)
  | (with_reducible refine rd_I0 ?_) | (with_reducible refine rd_U ?_) | (with_reducible refine rd_test ?_) | (with_reducible refine rd_B ?_) | (with_reducible refine rd_k ?_)
  | (with_reducible refine rd_not ?_) | (with_reducible refine rd_and ?_) | (with_reducible refine rd_or ?_) | (with_reducible refine rd_ifE ?_)
  | (with_reducible refine rd_par ?_) | ((with_reducible refine rd_par2 (σ' := ?ss) ?hs ?_); (case hs => (dsimp only [List.set]; exact rfl)))
  | (with_reducible refine rd_gsub ?_) | (with_reducible refine rd_andV ?_) | (with_reducible refine rd_orV ?_) | (with_reducible refine rd_notV ?_)
  | (with_reducible refine rd_lc ?_) | (with_reducible refine rd_iTup ?_) | (with_reducible refine rd_iList ?_) | (with_reducible refine rd_iRng1 ?_)
  | (with_reducible refine rd_yes ?_) | (with_reducible refine rd_true ?_) | (with_reducible refine rd_false ?_) | (with_reducible refine rd_m1 ?_) | (with_reducible refine rd_isS ?_)
  | ((with_reducible refine rd_eq ?hs ?_); (case hs => exact rfl)) | ((with_reducible refine rd_ne ?hs ?_); (case hs => exact rfl))
  | (with_reducible refine rd_listRg ?_) | (with_reducible refine rd_rg2 ?_) | (with_reducible refine rd_rgk ?_)
  | (with_reducible refine rd_dnew ?_) | (with_reducible refine rd_ddel ?_) | (with_reducible refine rd_kw ?_) | (with_reducible refine rd_callS ?_) | (with_reducible refine rd_dc ?_) | (with_reducible refine rd_for ?_) | (with_reducible refine rd_tru ?_) | (with_reducible refine rd_truI ?_)
  | (with_reducible refine rd_nil ?_) | (with_reducible refine rd_cons ?_) | (with_reducible refine rd_call ?_) | (with_reducible refine rd_cb ?_)
  | (with_reducible refine rd_tup ?_) | (with_reducible refine rd_lst ?_) | (with_reducible refine rd_dget ?_) | (with_reducible refine rd_dput ?_) | (with_reducible refine rd_sl ?_)
  | (with_reducible refine rd_nopart ?_) | (with_reducible refine rd_part ?_) | (with_reducible refine rd_parti ?_) | (with_reducible refine rd_bm ?_) | (with_reducible refine rd_bm0 ?_)
  | (with_reducible refine rd_int ?_) | (with_reducible refine rd_intb ?_) | (with_reducible refine rd_abs ?_) | (with_reducible refine rd_min2 ?_) | (with_reducible refine rd_max2 ?_))
local macro_rules | `(tactic| walk_at "rqs") => `(tactic| repeat (walk_at "rq"))

theorem hu65 {A : Around} {k : Nat} (hr : Room k A) : A.units + 65 < cLine := by
  have := hr.un
  omega
def dR (r : List Int) : PyData := .tuple (dI r)
section
variable {K : PySem.W.Frag} {H : Hp} {v x : V} {r : List Int} {xs : List V} {ds : List PyData} {rs : List (List Int)} {n i : Nat}
theorem dp_intsOf : ∀ {xs : List V} {r : List Int}, DpAll K H xs (dI r) → xs = r.map V.int
  | _, [], h => by
    cases h
    rfl
  | _, i :: r, h => by
    cases h with
    | cons h1 h2 =>
      cases h1
      rw [dp_intsOf h2] <;> rfl
theorem dp_row (h : Dp K H v (dR r)) : ∃ a, v = .ref a ∧ SqT K H a (r.map V.int) := by
  unfold dR at h
  cases h with
  | tup hs ha =>
    rw [dp_intsOf ha] at hs
    exact ⟨_, rfl, hs⟩
theorem dp_of_row {a : Addr} (h : SqT K H a (r.map V.int)) : Dp K H (.ref a) (dR r) := dp_T h
theorem dpAll_get : ∀ {xs : List V} {ds : List PyData} {i : Nat}, DpAll K H xs ds → xs[i]? = some x → ∃ d, ds[i]? = some d ∧ Dp K H x d
  | _, _, 0, .cons h _, e => by
    obtain rfl : _ = x := Option.some.inj e
    exact ⟨_, rfl, h⟩
  | _, _, i + 1, .cons _ h, e => dpAll_get (i := i) h e
  | _, _, i, .nil, e => by simp at e
theorem dpAll_len : ∀ {xs : List V} {ds : List PyData}, DpAll K H xs ds → xs.length = ds.length
  | _, _, .nil => rfl
  | _, _, .cons _ h => congrArg (· + 1) (dpAll_len h)
theorem dpAll_app : ∀ {xs ys : List V} {ds es : List PyData}, DpAll K H xs ds → DpAll K H ys es → DpAll K H (xs ++ ys) (ds ++ es)
  | _, _, _, _, .nil, h => h
  | _, _, _, _, .cons h t, h2 => .cons h (dpAll_app t h2)
theorem dpAll_take : ∀ {k : Nat} {xs : List V} {ds : List PyData}, DpAll K H xs ds → DpAll K H (xs.take k) (ds.take k)
  | 0, _, _, _ => .nil
  | _ + 1, _, _, .nil => .nil
  | k + 1, _, _, .cons h t => .cons h (dpAll_take (k := k) t)
theorem nice_rows (hn : n ≤ 60) : ∀ {rs : List (List Int)}, (∀ r ∈ rs, Row n r) → NiceAll (61 * rs.length) 1 (rs.map dR)
  | [], _ => NiceAll.nil
  | r :: t, h => (NiceAll.cons (nice_row (h r List.mem_cons_self) hn) (nice_rows hn fun s hs => h s (List.mem_cons_of_mem _ hs))).mono (by rw [List.length_cons]; omega) (Nat.le_refl _)
theorem any_rows (hn : n ≤ 60) (hr : Row n r) (h : (rs.map dR).any (fun z => PyData.eqv z (dR r)) = false) : r ∉ rs := fun hm => by
  have := List.any_eq_false.mp h (dR r) (List.mem_map_of_mem hm)
  exact this (SeqAt.eqv_refl _ (nice_row hr hn).lay)
end
section
variable {P : Program} {w : World} {K : PySem.W.Frag} {mg : Str → Option Value} {base : Heap}
def spUnlike (K : PySem.W.Frag) : Sp := fun vs H Q _ => ∃ (p : Addr) (xs : List V) (rs : List (List Int)) (n : Nat), vs = [.ref p] ∧ SqL K H p xs ∧ DpAll K H xs (rs.map dR) ∧ (∀ r ∈ rs, Row n r) ∧ n ≤ 60 ∧ rs.length ≤ 10000 ∧
  ∀ (q : Addr) (ys : List V) (ss : List (List Int)) (H' : Hp), Evl.Ex H H' → H q = none → H' q = some (.lst ys) → DpAll K H' ys (ss.map dR) → ss.Sublist rs → ss.Nodup → Q (.ref q) H'
theorem ok_unlike {f : Addr} {fd : FuncData} (F : Fun K "_law_unlike" "_law_unlike" s_law_unlike f fd) (T : Bl mg) : FnOk P w K mg base CX0 1 f fd ["rows"] (spUnlike K) := by
  refine F.ok sc_law_unlike (fun vs H Q E h => ?_) (fun cdv A outer s H vs Q E hr h => ?_)
  · obtain ⟨p, xs, rs, n, rfl, _⟩ := h
    rfl
  · obtain ⟨p, xs, rs, n, rfl, hp, ha, hrow, hn, hz, q⟩ := h
    have lx : xs.length = rs.length := by rw [dpAll_len ha, List.length_map]
    refine ⟨_, (pss_cons (ps_set (i := 1) sc_law_unlike.nd rfl (Or.inl rfl) (pe_lst pa_nil))
 (pss_cons (ps_for PassesOwn.never rfl (ik_listI (K := K) rfl (pv 0)) (pg_name (i := 2) sc_law_unlike.nd rfl (Or.inl rfl)) (pss_one (ps_if (pt_cmpR (op_notInD (hu65 hr)) (pv 2) (pv 1) (by rfl)) (pss_one (ps_expr (pe_bm PySem.F.plainAttrs_list PySem.F.slot_list_append PySem.F.type_list_append mt_append (pv 1) (pa_cons (pv 2) pa_nil)))) pss_nil)))
 (pss_one (ps_ret (pv 1))))), ?_⟩
    refine rd_start (σ' := [some (.ref p), none, none]) rfl ?_
    walk_at "rds"
    refine ⟨Nat.zero_le _, fun b hb => ?_⟩
    have e1 := Evl.Ex.new (o := .lst []) hb
    walk_at "rds"
    refine rd_refL (Evl.ex_l e1 hp) ?_
    refine fr_list (xs := xs) (fun i σ' H' => ∃ (y : Option V) (ys : List V) (ss : List (List Int)), σ' = [some (.ref p), some (.ref b), y] ∧ Evl.Ex H H' ∧ H' b = some (.lst ys) ∧ DpAll K H ys (ss.map dR) ∧ ss.Sublist (rs.take i) ∧ ss.Nodup)
      ⟨_, [], [], rfl, e1, upd_same, .nil, List.nil_sublist _, List.nodup_nil⟩ (fun i σ' H' _ ⟨_, _, _, _, e, _⟩ => Evl.ex_l e hp) (fun i x σ' H' hi hP => ?_) fun σ' H' hP => ?_
    · obtain ⟨y, ys, ss, rfl, e, hy, hd, hs, hnd⟩ := hP
      obtain ⟨d0, hd0, hx⟩ := dpAll_get ha hi
      rw [List.getElem?_map] at hd0
      obtain ⟨r, hr', rfl⟩ := Option.map_eq_some_iff.mp hd0
      have hrr := hrow r (List.mem_of_getElem? hr')
      have hss : ∀ r ∈ ss, Row n r := fun s h => hrow s (List.mem_of_mem_take (hs.subset h))
      have hsl : ss.length ≤ 10000 := Nat.le_trans (hs.trans (List.take_sublist _ _)).length_le hz
      have hyl : ys.length = ss.length := by rw [dpAll_len hd, List.length_map]
      refine rd_start (σ' := [some (.ref p), some (.ref b), some x]) rfl ?_
      walk_at "rds"
      refine ⟨dR r, ss.map dR, dp_ex e _ _ hx, .lst (SqL.of hy) (dpAll_ex e _ _ hd), (nice_row hrr hn).shaped (by decide), (Nice.lst (nice_rows hn hss)).shaped (by decide), ?_⟩
      walk_at "rds"
      have stay : ss.Sublist (rs.take (i + 1)) := by
        rw [List.take_add_one]
        exact hs.trans (List.sublist_append_left _ _)
      refine rd_iteb (fun c => ?_) (fun c => ?_)
      · walk_at "rds"
        refine rd_tyL hy ?_
        walk_at "rds"
        refine rd_append hy (by omega) ?_
        walk_at "rds"
        refine ⟨_, ys ++ [x], ss ++ [r], rfl, Evl.Ex.mut e hb, upd_same, ?_, ?_, ?_⟩
        · rw [List.map_append]
          exact dpAll_app hd (.cons hx .nil)
        · rw [List.take_add_one, hr']
          exact hs.append (List.Sublist.refl _)
        · have hno := any_rows (rs := ss) hn hrr (by simpa using c)
          exact List.nodup_append.mpr ⟨hnd, List.nodup_cons.mpr ⟨nofun, List.nodup_nil⟩, fun a ha b hb e => hno (by rw [List.mem_singleton.mp hb] at e; exact e ▸ ha)⟩
      · walk_at "rds"
        exact ⟨_, ys, ss, rfl, e, hy, hd, stay, hnd⟩
    · obtain ⟨y, ys, ss, rfl, e, hy, hd, hs, hnd⟩ := hP
      walk_at "rds"
      exact q b ys ss _ e hb hy (dpAll_ex e _ _ hd) (hs.trans (List.take_sublist _ _)) hnd
end
end KA
set_option Elab.async false
set_option linter.all false
set_option maxRecDepth 100000
set_option maxHeartbeats 400000
namespace Ea
open PySem PySem.Spec PyProof.Rows L2
/-- an if, its ends brought together -/
theorem rd_ifI {tt : TT} {ts tz : TS} {D : Ends} {σ : L2.St} {H : Hp} (I : L2.St → Hp → Prop) (h1 : ∀ N : L2.St → Hp → Prop, (∀ σ' H', I σ' H' → N σ' H') → tIfS tt ts tz { D with nx := N } σ H) (h : ∀ σ' H', I σ' H' → D.nx σ' H') : tIfS tt ts tz D σ H := h1 D.nx h
end Ea
namespace KA
open PySem PySem.Spec PyProof.Rows L2 Ea
abbrev s_law_sentence : Stmt := topS 27
theorem sc_law_sentence : FnScope ["deck", "n", "many", "most", "rows", "turn", "row", "at"] ["deck", "n", "many", "most"] (defScope s_law_sentence) :=
  ⟨rfl, rfl, rfl, by decide +kernel, rfl, by decide +kernel, by decide +kernel⟩
local macro_rules | `(tactic| walk_at "rd") => `(tactic| first
  | (with_reducible refine rd_seq ?_) | (with_reducible refine rd_asg ?_) | (with_reducible refine rd_if ?_) | (with_reducible refine rd_ret ?_) | (with_reducible refine rd_next ?_)
  | (with_reducible refine rd_drop ?_) | ((with_reducible refine rd_name (σ' := ?ss) ?hs ?_); (case hs => (dsimp only [List.set]; exact rfl)))
  | ((with_reducible refine rd_var (v := ?vv) ?hv ?_); (case hv => exact rfl)) | (with_reducible refine rd_c ?_) | (with_reducible refine rd_op ?_) | (with_reducible refine rd_un ?_)
  | (with_reducible refine rd_I0 ?_) | (with_reducible refine rd_U ?_) | (with_reducible refine rd_test ?_) | (with_reducible refine rd_B ?_) | (with_reducible refine rd_k ?_)
  | (with_reducible refine rd_not ?_) | (with_reducible refine rd_and ?_) | (with_reducible refine rd_or ?_) | (with_reducible refine rd_ifE ?_)
  | (with_reducible refine rd_par ?_) | ((with_reducible refine rd_par2 (σ' := ?ss) ?hs ?_); (case hs => (dsimp only [List.set]; exact rfl)))
  | (with_reducible refine rd_gsub ?_) | (with_reducible refine rd_andV ?_) | (with_reducible refine rd_orV ?_) | (with_reducible refine rd_notV ?_)
  | (with_reducible refine rd_lc ?_) | (with_reducible refine rd_iTup ?_) | (with_reducible refine rd_iList ?_) | (with_reducible refine rd_iRng1 ?_)
  | (with_reducible refine rd_yes ?_) | (with_reducible refine rd_true ?_) | (with_reducible refine rd_false ?_) | (with_reducible refine rd_m1 ?_) | (with_reducible refine rd_isS ?_)
  | ((with_reducible refine rd_eq ?hs ?_); (case hs => exact rfl)) | ((with_reducible refine rd_ne ?hs ?_); (case hs => exact rfl))
  | (with_reducible refine rd_listRg ?_) | (with_reducible refine rd_rg2 ?_) | (with_reducible refine rd_rgk ?_)
  | (with_reducible refine rd_dnew ?_) | (with_reducible refine rd_ddel ?_) | (with_reducible refine rd_kw ?_) | (with_reducible refine rd_callS ?_) | (with_reducible refine rd_dc ?_) | (with_reducible refine rd_for ?_) | (with_reducible refine rd_tru ?_) | (with_reducible refine rd_truI ?_)
  | (with_reducible refine rd_nil ?_) | (with_reducible refine rd_cons ?_) | (with_reducible refine rd_call ?_) | (with_reducible refine rd_cb ?_)
  | (with_reducible refine rd_tup ?_) | (with_reducible refine rd_lst ?_) | (with_reducible refine rd_dget ?_) | (with_reducible refine rd_dput ?_) | (with_reducible refine rd_sl ?_)
  | (with_reducible refine rd_nopart ?_) | (with_reducible refine rd_part ?_) | (with_reducible refine rd_parti ?_) | (with_reducible refine rd_bm ?_) | (with_reducible refine rd_bm0 ?_)
  | (with_reducible refine rd_int ?_) | (with_reducible refine rd_intb ?_) | (with_reducible refine rd_abs ?_) | (with_reducible refine rd_min2 ?_) | (with_reducible refine rd_max2 ?_))
local macro_rules | `(tactic| walk_at "rds") => `(tactic| repeat (walk_at "rd"))
local macro_rules | `(tactic| walk_at "rq") => `(tactic| first
  | (with_reducible refine rd_seq ?_) | (with_reducible refine rd_asg ?_) | (with_reducible refine rd_ret ?_) | (with_reducible refine rd_next ?_)
  | (with_reducible refine rd_drop ?_) | ((with_reducible refine rd_name (σ' := ?ss) ?hs ?_); (case hs => (dsimp only [List.set]; exact rfl)))
  | ((with_reducible refine rd_var (v := ?vv) ?hv ?_); (case hv => exact rfl)) | (with_reducible refine rd_c ?_) | (with_reducible refine rd_op ?_) | (with_reducible refine rd_un ?_)
  | (with_reducible refine rd_I0 ?_) | (with_reducible refine rd_U ?_) | (with_reducible refine rd_test ?_) | (with_reducible refine rd_B ?_) | (with_reducible refine rd_k ?_)
  | (with_reducible refine rd_not ?_) | (with_reducible refine rd_and ?_) | (with_reducible refine rd_or ?_) | (with_reducible refine rd_ifE ?_)
  | (with_reducible refine rd_par ?_) | ((with_reducible refine rd_par2 (σ' := ?ss) ?hs ?_); (case hs => (dsimp only [List.set]; exact rfl)))
  | (with_reducible refine rd_gsub ?_) | (with_reducible refine rd_andV ?_) | (with_reducible refine rd_orV ?_) | (with_reducible refine rd_notV ?_)
  | (with_reducible refine rd_lc ?_) | (with_reducible refine rd_iTup ?_) | (with_reducible refine rd_iList ?_) | (with_reducible refine rd_iRng1 ?_)
  | (with_reducible refine rd_yes ?_) | (with_reducible refine rd_true ?_) | (with_reducible refine rd_false ?_) | (with_reducible refine rd_m1 ?_) | (with_reducible refine rd_isS ?_)
  | ((with_reducible refine rd_eq ?hs ?_); (case hs => exact rfl)) | ((with_reducible refine rd_ne ?hs ?_); (case hs => exact rfl))
  | (with_reducible refine rd_listRg ?_) | (with_reducible refine rd_rg2 ?_) | (with_reducible refine rd_rgk ?_)
  | (with_reducible refine rd_dnew ?_) | (with_reducible refine rd_ddel ?_) | (with_reducible refine rd_kw ?_) | (with_reducible refine rd_callS ?_) | (with_reducible refine rd_dc ?_) | (with_reducible refine rd_for ?_) | (with_reducible refine rd_tru ?_) | (with_reducible refine rd_truI ?_)
  | (with_reducible refine rd_nil ?_) | (with_reducible refine rd_cons ?_) | (with_reducible refine rd_call ?_) | (with_reducible refine rd_cb ?_)
  | (with_reducible refine rd_tup ?_) | (with_reducible refine rd_lst ?_) | (with_reducible refine rd_dget ?_) | (with_reducible refine rd_dput ?_) | (with_reducible refine rd_sl ?_)
  | (with_reducible refine rd_nopart ?_) | (with_reducible refine rd_part ?_) | (with_reducible refine rd_parti ?_) | (with_reducible refine rd_bm ?_) | (with_reducible refine rd_bm0 ?_)
  | (with_reducible refine rd_int ?_) | (with_reducible refine rd_intb ?_) | (with_reducible refine rd_abs ?_) | (with_reducible refine rd_min2 ?_) | (with_reducible refine rd_max2 ?_))
local macro_rules | `(tactic| walk_at "rqs") => `(tactic| repeat (walk_at "rq"))

section
variable {K : PySem.W.Frag} {H H' : Hp} {d l : Addr} {v : V} {r : List Int} {n : Nat}
theorem Gl.row (g : Gl d l H H') (hD : DeckL d l H) (h : Dp K H v (dR r)) : Dp K H' v (dR r) := by
  obtain ⟨a, rfl, s⟩ := dp_row h
  exact dp_of_row (g.tup hD s)
theorem Gl.rows (g : Gl d l H H') (hD : DeckL d l H) : ∀ {xs : List V} {rs : List (List Int)}, DpAll K H xs (rs.map dR) → DpAll K H' xs (rs.map dR)
  | _, [], .nil => .nil
  | _, _ :: _, .cons h t => .cons (Gl.row g hD h) (Gl.rows g hD t)
theorem rows_upd {p : Addr} {ys : List V} {u : HO} (e : H p = some (.lst ys)) : ∀ {xs : List V} {rs : List (List Int)}, DpAll K H xs (rs.map dR) → DpAll K (upd H p u) xs (rs.map dR)
  | _, [], .nil => .nil
  | _, _ :: _, .cons h t => .cons (by
      obtain ⟨a, rfl, s⟩ := dp_row h
      exact dp_of_row (tup_upd e lst_not s)) (rows_upd e t)
theorem rows_app {xs : List V} {rs : List (List Int)} (h : DpAll K H xs (rs.map dR)) (h2 : Dp K H v (dR r)) : DpAll K H (xs ++ [v]) ((rs ++ [r]).map dR) := by
  rw [List.map_append]
  exact dpAll_app h (.cons h2 .nil)
/-- a sentence: owners, clauses -/
def SentAt (K : PySem.W.Frag) (H : Hp) (n : Nat) (a : Addr) (z : Str) (rs : List (List Int)) : Prop :=
  ∃ (c : Addr) (xs : List V), SqT K H a [.str z, .ref c] ∧ SqT K H c xs ∧ DpAll K H xs (rs.map dR) ∧ OwnS n z ∧ (∀ r ∈ rs, Row n r) ∧ rs.Nodup
theorem take_rows {k : Nat} {rs : List (List Int)} : (rs.map dR).take k = (rs.take k).map dR := List.map_take.symm
theorem neg_at {k : Nat} {x : Int} (h : r[k]? = some x) : (r.take k ++ [-x] ++ r.drop (k + 1)).map Int.natAbs = r.map Int.natAbs := by
  have e : r = r.take k ++ ([x] ++ r.drop (k + 1)) := by
    have h1 := (List.getElem?_eq_some_iff.mp h)
    obtain ⟨hk, rfl⟩ := h1
    rw [List.singleton_append, List.getElem_cons_drop, List.take_append_drop]
  conv => rhs; rw [e]
  rw [List.append_assoc, List.map_append, List.map_append, List.map_append, List.map_append, List.map_singleton, List.map_singleton, Int.natAbs_neg]
end
section
variable {P : Program} {w : World} {K : PySem.W.Frag} {mg : Str → Option Value} {base : Heap}
def spSentence (K : PySem.W.Frag) : Sp := fun vs H Q _ => ∃ (d l : Addr) (n many most : Int), vs = [.ref d, .int n, .int many, .int most] ∧ DeckL d l H ∧ 0 ≤ n ∧ n ≤ 60 ∧ 0 ≤ many ∧ many ≤ 1000 ∧ 0 ≤ most ∧ most ≤ 60 ∧
  ∀ (a : Addr) (z : Str) (rs : List (List Int)) (H' : Hp), Gl d l H H' → SentAt K H' n.toNat a z rs → rs.length ≤ many.toNat → Q (.ref a) H'
theorem ok_sentence {f fD fO fC fU : Addr} {fd fdD fdO fdC fdU : FuncData} (F : Fun K "_law_sentence" "_law_sentence" s_law_sentence f fd) (T : Bl mg)
    (G_law_draw : FnOk P w K mg base CX0 1 fD fdD ["deck", "many"] spDraw) (C_law_draw : Callee K mg "_law_draw" fD fdD ["deck", "many"])
    (G_law_owners : FnOk P w K mg base CX0 3 fO fdO ["deck", "n"] spOwners) (C_law_owners : Callee K mg "_law_owners" fO fdO ["deck", "n"])
    (G_law_clause : FnOk P w K mg base CX0 3 fC fdC ["deck", "n", "most"] (spClause K)) (C_law_clause : Callee K mg "_law_clause" fC fdC ["deck", "n", "most"])
    (G_law_unlike : FnOk P w K mg base CX0 1 fU fdU ["rows"] (spUnlike K)) (C_law_unlike : Callee K mg "_law_unlike" fU fdU ["rows"]) :
    FnOk P w K mg base CX0 4 f fd ["deck", "n", "many", "most"] (spSentence K) := by
  refine F.ok sc_law_sentence (fun vs H Q E h => ?_) (fun cdv A outer s H vs Q E hr h => ?_)
  · obtain ⟨d, l, n, many, most, rfl, _⟩ := h
    rfl
  · obtain ⟨d, l, n, many, most, rfl, hD, n0, n1, m0, m1, t0, t1, q⟩ := h
    refine ⟨_, (pss_cons (ps_set (i := 4) sc_law_sentence.nd rfl (Or.inl rfl) (pe_lst pa_nil))
 (pss_cons (ps_for PassesOwn.never rfl (pi_range1 (by rfl) T.range (pa_cons (pe_call G_law_draw (hr.mono (by decide)) (by rfl) C_law_draw.m C_law_draw.k C_law_draw.b .nil pass0 (pa_cons (pv 0) (pa_cons (pe_op op_add (pv 2) pe_int) pa_nil))) pa_nil)) (pg_name (i := 5) sc_law_sentence.nd rfl (Or.inl rfl)) (pss_cons (ps_set (i := 6) sc_law_sentence.nd rfl (Or.inl rfl) (pe_call G_law_clause (hr.mono (by decide)) (by rfl) C_law_clause.m C_law_clause.k C_law_clause.b .nil pass0 (pa_cons (pv 0) (pa_cons (pv 1) (pa_cons (pv 3) pa_nil)))))
 (pss_cons (ps_if (PW.pt (pw_and (pt_cmpR (ok_eqD (K := K) rfl hr.units) (pv 6) (pe_tup pa_nil) (nomark _)) (pw_and1 (pt_cmpR op_gt (pe_call G_law_draw (hr.mono (by decide)) (by rfl) C_law_draw.m C_law_draw.k C_law_draw.b .nil pass0 (pa_cons (pv 0) (pa_cons pe_int pa_nil))) pe_int (nomark _))))) (pss_one (ps_set (i := 6) sc_law_sentence.nd rfl (Or.inl rfl) (pe_call G_law_clause (hr.mono (by decide)) (by rfl) C_law_clause.m C_law_clause.k C_law_clause.b .nil pass0 (pa_cons (pv 0) (pa_cons (pv 1) (pa_cons (pv 3) pa_nil)))))) pss_nil)
 (pss_cons (ps_expr (pe_bm PySem.F.plainAttrs_list PySem.F.slot_list_append PySem.F.type_list_append mt_append (pv 4) (pa_cons (pv 6) pa_nil)))
 (pss_one (ps_if (PW.pt (pw_and (pt_cmpR (ok_neD (K := K) rfl hr.units) (pv 6) (pe_tup pa_nil) (nomark _)) (pw_and1 (pt_cmpR op_eq (pe_call G_law_draw (hr.mono (by decide)) (by rfl) C_law_draw.m C_law_draw.k C_law_draw.b .nil pass0 (pa_cons (pv 0) (pa_cons pe_int pa_nil))) pe_int (nomark _))))) (pss_cons (ps_set (i := 7) sc_law_sentence.nd rfl (Or.inl rfl) (pe_call G_law_draw (hr.mono (by decide)) (by rfl) C_law_draw.m C_law_draw.k C_law_draw.b .nil pass0 (pa_cons (pv 0) (pa_cons (pe_callB (c_len (K := K) rfl) (by rfl) T.len (by decide +kernel) (pa_cons (pv 6) pa_nil)) pa_nil))))
 (pss_one (ps_expr (pe_bm PySem.F.plainAttrs_list PySem.F.slot_list_append PySem.F.type_list_append mt_append (pv 4) (pa_cons (pe_ifExp (pt_cmpR op_eq (pe_call G_law_draw (hr.mono (by decide)) (by rfl) C_law_draw.m C_law_draw.k C_law_draw.b .nil pass0 (pa_cons (pv 0) (pa_cons pe_int pa_nil))) pe_int (nomark _)) (pe_op (ok_catT (K := K) rfl) (pe_op (ok_catT (K := K) rfl) (pe_slice (sk_tup (K := K) rfl) (pv 6) po_none (po_some (pv 7))) (pe_tup (pa_cons (pe_un un_neg (pe_ix (ik_tup (K := K) rfl) (pv 6) (pv 7) (fun _ _ => rfl))) pa_nil))) (pe_slice (sk_tup (K := K) rfl) (pv 6) (po_some (pe_op op_add (pv 7) pe_int)) po_none)) (pe_op (ok_catT (K := K) rfl) (pe_slice (sk_tup (K := K) rfl) (pv 6) po_none (po_some (pv 7))) (pe_slice (sk_tup (K := K) rfl) (pv 6) (po_some (pe_op op_add (pv 7) pe_int)) po_none))) pa_nil))))) pss_nil))))))
 (pss_one (ps_ret (pe_tup (pa_cons (pe_call G_law_owners (hr.mono (by decide)) (by rfl) C_law_owners.m C_law_owners.k C_law_owners.b .nil pass0 (pa_cons (pv 0) (pa_cons (pv 1) pa_nil))) (pa_cons (pe_callTy (c_tuple (K := K) rfl) (by rfl) T.tuple (by decide +kernel) (pa_cons (pe_slice (sk_list (K := K) rfl) (pe_call G_law_unlike (hr.mono (by decide)) (by rfl) C_law_unlike.m C_law_unlike.k C_law_unlike.b .nil pass0 (pa_cons (pv 4) pa_nil)) po_none (po_some (pv 2))) pa_nil)) pa_nil))))))), ?_⟩
    refine rd_start (σ' := [some (.ref d), some (.int n), some (.int many), some (.int most), none, none, none, none]) rfl ?_
    walk_at "rds"
    refine ⟨Nat.zero_le _, fun b hb => ?_⟩
    obtain ⟨bd, bl⟩ := hD.off hb
    have g1 := Gl.new (o := .lst []) hD hb
    walk_at "rds"
    refine ⟨d, l, _, rfl, g1.dk, by omega, by omega, fun r H2 g2 r0 r1 => ?_⟩
    walk_at "rds"
    refine rd_rng1 (by omega) (by omega) ?_
    refine fr_range (lo := 0) (n := r.toNat) (fun i σ' H' => ∃ (x5 x6 x7 : Option V) (xs : List V) (rs : List (List Int)), σ' = [some (.ref d), some (.int n), some (.int many), some (.int most), some (.ref b), x5, x6, x7] ∧ Gl d l H H' ∧
        H' b = some (.lst xs) ∧ DpAll K H' xs (rs.map dR) ∧ (∀ r ∈ rs, Row n.toNat r) ∧ rs.length ≤ 2 * i)
      ⟨_, _, _, [], [], rfl, g1.trans g2, g2.kp b _ bd bl upd_same, .nil, nofun, Nat.le_refl _⟩ (fun i σ' H' hi hP => ?_) fun σ' H' hP => ?_
    · obtain ⟨x5, x6, x7, xs, rs, rfl, g, hx, hrs, hrow, hlen⟩ := hP
      have lxs : xs.length = rs.length := by rw [dpAll_len hrs, List.length_map]
      refine rd_start (σ' := [some (.ref d), some (.int n), some (.int many), some (.int most), some (.ref b), some (.int (0 + (i : Int))), x6, x7]) rfl ?_
      walk_at "rqs"
      refine ⟨d, l, n, most, rfl, g.dk, n0, n1, t0, t1, fun a1 ns1 H3 g3 hr1 s1 => ?_⟩
      walk_at "rqs"
      refine rd_ifI (fun σ' H4 => ∃ (a : Addr) (ns : List Int), σ' = [some (.ref d), some (.int n), some (.int many), some (.int most), some (.ref b), some (.int (0 + (i : Int))), some (.ref a), x7] ∧ Gl d l H' H4 ∧ Row n.toNat ns ∧ SqT K H4 a (ns.map V.int)) (fun N kN => ?_) fun σ' H4 hI => ?_
      · walk_at "rds"
        refine ⟨Nat.zero_le _, fun p hp => ?_⟩
        have g4 := Gl.new (o := .tup []) g3.dk hp
        have s2 := g4.tup g3.dk s1
        have same : N [some (.ref d), some (.int n), some (.int many), some (.int most), some (.ref b), some (.int (0 + (i : Int))), some (.ref a1), x7] (upd H3 p (.tup [])) := kN _ _ ⟨a1, ns1, rfl, g3.trans g4, hr1, s2⟩
        refine rd_eqD (dp_T s2) (dp_T (ns := []) (SqT.of upd_same)) (nice_row hr1 (by omega)) (nice_row (Row.nil (n := n.toNat)) (by omega)) (by decide) (by decide) ?_
        walk_at "rds"
        refine rd_iteb (fun c => ?_) (fun c => ?_)
        · walk_at "rds"
          refine ⟨d, l, 4, rfl, g4.dk, by decide, by decide, fun r5 H5 g5 r50 r51 => ?_⟩
          walk_at "rds"
          refine rd_ite (fun c2 => ?_) (fun c2 => ?_)
          · walk_at "rds"
            refine ⟨d, l, n, most, rfl, g5.dk, n0, n1, t0, t1, fun a6 ns6 H6 g6 hr6 s6 => ?_⟩
            walk_at "rds"
            exact kN _ _ ⟨a6, ns6, rfl, ((g3.trans g4).trans g5).trans g6, hr6, s6⟩
          · walk_at "rds"
            exact kN _ _ ⟨a1, ns1, rfl, (g3.trans g4).trans g5, hr1, g5.tup g4.dk s2⟩
        · exact same
      clear s1 hr1 g3
      obtain ⟨a, ns, rfl, g4, hr4, s4⟩ := hI
      have hx4 := g4.kp b _ bd bl hx
      have hrs4 := Gl.rows g4 g.dk hrs
      walk_at "rqs"
      refine rd_tyL hx4 ?_
      walk_at "rqs"
      refine rd_append hx4 (by omega) ?_
      walk_at "rqs"
      have g5 := Gl.mut (o := .lst (xs ++ [V.ref a])) (g.trans g4) hD hb
      have s5 : SqT K (upd H4 b (.lst (xs ++ [V.ref a]))) a (ns.map V.int) := tup_upd hx4 lst_not s4
      have d5 : DpAll K (upd H4 b (.lst (xs ++ [V.ref a]))) (xs ++ [V.ref a]) ((rs ++ [ns]).map dR) := rows_upd hx4 (rows_app hrs4 (dp_of_row s4))
      have x5 : (upd H4 b (.lst (xs ++ [V.ref a]))) b = some (.lst (xs ++ [V.ref a])) := upd_same
      have r5 : ∀ r ∈ rs ++ [ns], Row n.toNat r := fun r h => (List.mem_append.mp h).elim (hrow r) fun h => List.mem_singleton.mp h ▸ hr4
      have l5 : (rs ++ [ns]).length ≤ 2 * i + 1 := by rw [List.length_append, List.length_singleton]; omega
      clear hx hrs hrow hlen hx4 hrs4 g4 s4 g
      generalize upd H4 b (.lst (xs ++ [V.ref a])) = H5 at g5 s5 d5 x5 ⊢
      generalize xs ++ [V.ref a] = ys at d5 x5 lxs
      generalize rs ++ [ns] = ss at d5 r5 l5 lxs
      have lys : ys.length = ss.length := by rw [dpAll_len d5, List.length_map]
      walk_at "rds"
      refine ⟨Nat.zero_le _, fun p hp => ?_⟩
      have g6 := Gl.new (o := .tup []) g5.dk hp
      have s6 := g6.tup g5.dk s5
      have d6 := Gl.rows g6 g5.dk d5
      have x6 := g6.kp b _ bd bl x5
      refine rd_neD (dp_T s6) (dp_T (ns := []) (SqT.of upd_same)) (nice_row hr4 (by omega)) (nice_row (Row.nil (n := n.toNat)) (by omega)) (by decide) (by decide) ?_
      walk_at "rds"
      refine rd_iteb (fun c => ?_) (fun c => ?_)
      · walk_at "rds"
        have hpos : 1 ≤ ns.length := by
          cases ns with
          | nil => rw [SeqAt.eqv_refl _ rfl] at c; cases c
          | cons x t => exact Nat.succ_le_succ (Nat.zero_le _)
        have hnl := hr4.length
        refine ⟨d, l, 4, rfl, g6.dk, by decide, by decide, fun r7 H7 g7 r70 r71 => ?_⟩
        have s7 := g7.tup g6.dk s6
        have d7 := Gl.rows g7 g6.dk d6
        have x7' := g7.kp b _ bd bl x6
        have g17 := (g5.trans g6).trans g7
        walk_at "rds"
        refine rd_ite (fun c2 => ?_) (fun c2 => ?_)
        · walk_at "rds"
          refine rd_lenT s7 ?_
          rw [List.length_map]
          walk_at "rds"
          refine ⟨d, l, _, rfl, g7.dk, by omega, by omega, fun at_ H8 g8 a0 a1' => ?_⟩
          have s8 := g8.tup g7.dk s7
          have d8 := Gl.rows g8 g7.dk d7
          have x8 := g8.kp b _ bd bl x7'
          walk_at "rds"
          refine rd_tyL x8 ?_
          walk_at "rds"
          refine ⟨d, l, 2, rfl, g8.dk, by decide, by decide, fun r9 H9 g9 r90 r91 => ?_⟩
          have s9 := g9.tup g8.dk s8
          have d9 := Gl.rows g9 g8.dk d8
          have x9 := g9.kp b _ bd bl x8
          have g19 := (g17.trans g8).trans g9
          walk_at "rds"
          have hat : at_.toNat < ns.length := by omega
          refine rd_ite2 (fun v H' => ∃ q ms, v = .ref q ∧ Evl.Ex H9 H' ∧ Row n.toNat ms ∧ SqT K H' q (ms.map V.int)) (fun R kR => ?_) (fun R kR => ?_) fun v HA hv => ?_
          · walk_at "rds"
            refine rd_slT s9 fun c1 F1 f1 u1 => ?_
            rw [cut_take a0, ← List.map_take] at u1
            walk_at "rds"
            refine rd_ixT (x := .int ns[at_.toNat]) (Evl.ex_t f1 s9) (at_nat (k := at_.toNat) (by omega) (by rw [List.getElem?_map, List.getElem?_eq_getElem hat] <;> rfl)) ?_
            walk_at "rds"
            refine ⟨(by show 1 ≤ sizeLine; decide), fun c2 hc2 => ?_⟩
            have f2 := Evl.Ex.new (o := .tup [V.int (-ns[at_.toNat])]) hc2
            walk_at "rds"
            refine rd_catT (Evl.ex_t f2 u1) (SqT.of upd_same) (by simp only [List.length_append, List.length_map, List.length_take, List.length_drop, List.length_singleton]; rw [sizeLine_eq]; omega) fun c3 F3 f3 u3 => ?_
            walk_at "rds"
            refine rd_slT (Evl.ex_t ((f1.trans f2).trans f3) s9) fun c4 F4 f4 u4 => ?_
            rw [cut_drop (by omega), ← List.map_drop, show (at_ + 1).toNat = at_.toNat + 1 by omega] at u4
            refine rd_catT (Evl.ex_t f4 u3) u4 (by simp only [List.length_append, List.length_map, List.length_take, List.length_drop, List.length_singleton]; rw [sizeLine_eq]; omega) fun c5 F5 f5 u5 => ?_
            refine kR _ _ ⟨c5, ns.take at_.toNat ++ [-ns[at_.toNat]] ++ ns.drop (at_.toNat + 1), rfl, (((f1.trans f2).trans f3).trans f4).trans f5, hr4.abs (neg_at (List.getElem?_eq_getElem hat)), ?_⟩
            rw [List.map_append, List.map_append]
            exact u5
          · walk_at "rds"
            refine rd_slT s9 fun c1 F1 f1 u1 => ?_
            rw [cut_take a0, ← List.map_take] at u1
            walk_at "rds"
            refine rd_slT (Evl.ex_t f1 s9) fun c4 F4 f4 u4 => ?_
            rw [cut_drop (by omega), ← List.map_drop, show (at_ + 1).toNat = at_.toNat + 1 by omega] at u4
            refine rd_catT (Evl.ex_t f4 u1) u4 (by simp only [List.length_append, List.length_map, List.length_take, List.length_drop]; rw [sizeLine_eq]; omega) fun c5 F5 f5 u5 => ?_
            refine kR _ _ ⟨c5, ns.take at_.toNat ++ ns.drop (at_.toNat + 1), rfl, (f1.trans f4).trans f5, hr4.sub ?_, by rw [List.map_append]; exact u5⟩
            conv => rhs; rw [← List.take_append_drop at_.toNat ns]
            exact (List.Sublist.refl _).append (List.drop_sublist_drop_left _ (Nat.le_succ _))
          obtain ⟨q2, ms, rfl, eA, hms, sA⟩ := hv
          have xA : HA b = some (.lst ys) := eA _ _ x9
          have dA := dpAll_ex eA _ _ d9
          walk_at "rds"
          refine rd_append xA (by omega) ?_
          walk_at "rds"
          refine ⟨_, _, _, ys ++ [V.ref q2], ss ++ [ms], rfl, Gl.mut (g19.trans (Gl.ex eA g9.dk)) hD hb, upd_same, ?_, fun r h => (List.mem_append.mp h).elim (r5 r) fun h => List.mem_singleton.mp h ▸ hms, ?_⟩
          · exact rows_upd xA (rows_app dA (dp_of_row sA))
          · rw [List.length_append, List.length_singleton]
            omega
        · walk_at "rds"
          exact ⟨_, _, _, ys, ss, rfl, g17, x7', d7, r5, by omega⟩
      · walk_at "rds"
        exact ⟨_, _, _, ys, ss, rfl, g5.trans g6, x6, d6, r5, by omega⟩
    · obtain ⟨x5, x6, x7, xs, rs, rfl, g, hx, hrs, hrow, hlen⟩ := hP
      walk_at "rds"
      refine ⟨d, l, n, rfl, g.dk, n0, n1, fun z H3 g3 hz => ?_⟩
      have x3 := g3.kp b _ bd bl hx
      have d3 := Gl.rows g3 g.dk hrs
      walk_at "rds"
      refine ⟨b, xs, rs, n.toNat, rfl, SqL.of x3, d3, hrow, by omega, by omega, fun c ys ss H4 e4 hc x4 d4 hsub hnd => ?_⟩
      walk_at "rds"
      refine rd_slL (SqL.of x4) fun u hu => ?_
      rw [cut_take m0]
      have e5 := Evl.Ex.new (o := .lst (ys.take many.toNat)) hu
      walk_at "rds"
      refine rd_tupL (SqL.of upd_same) fun o ho => ?_
      have e6 := Evl.Ex.new (o := .tup (ys.take many.toNat)) ho
      walk_at "rds"
      refine ⟨(by show 2 ≤ sizeLine; decide), fun p hp => ?_⟩
      have e7 := Evl.Ex.new (o := .tup [V.str z, V.ref o]) hp
      have e57 := (e5.trans e6).trans e7
      have g7 := (g.trans g3).trans (Gl.ex (e4.trans e57) g3.dk)
      refine q p z (ss.take many.toNat) _ g7 ⟨o, ys.take many.toNat, SqT.of upd_same, Evl.ex_t e7 (SqT.of upd_same), ?_, hz, fun r h => hrow r (hsub.subset (List.mem_of_mem_take h)), hnd.sublist (List.take_sublist _ _)⟩ (List.length_take_le _ _)
      have z7 := dpAll_take (k := many.toNat) (dpAll_ex e57 _ _ d4)
      rw [take_rows] at z7
      exact z7
end
end KA
set_option Elab.async false
set_option linter.all false
set_option maxRecDepth 100000
set_option maxHeartbeats 400000
set_option pp.maxSteps 300
namespace KA
open PySem PySem.Spec PyProof.Rows L2 Ea
abbrev sstate_of : Stmt := topS 8
theorem scstate_of : FnScope ["clause", "play", "state", "literal"] ["clause", "play"] (defScope sstate_of) :=
  ⟨rfl, rfl, rfl, by decide +kernel, rfl, by decide +kernel, by decide +kernel⟩
abbrev sunset_part : Stmt := topS 11
theorem scunset_part : FnScope ["clause", "play", "literal"] ["clause", "play"] (defScope sunset_part) :=
  ⟨rfl, rfl, rfl, by decide +kernel, rfl, by decide +kernel, by decide +kernel⟩
abbrev sasked_from : Stmt := topS 12
theorem scasked_from : FnScope ["sentence", "play", "clause"] ["sentence", "play"] (defScope sasked_from) :=
  ⟨rfl, rfl, rfl, by decide +kernel, rfl, by decide +kernel, by decide +kernel⟩
abbrev sasked_behind : Stmt := topS 13
theorem scasked_behind : FnScope ["asked", "literal", "part"] ["asked", "literal"] (defScope sasked_behind) :=
  ⟨rfl, rfl, rfl, by decide +kernel, rfl, by decide +kernel, by decide +kernel⟩
local macro_rules | `(tactic| walk_at "rd") => `(tactic| first
  | (with_reducible refine rd_seq ?_) | (with_reducible refine rd_asg ?_) | (with_reducible refine rd_if ?_) | (with_reducible refine rd_ret ?_) | (with_reducible refine rd_next ?_)
  | (with_reducible refine rd_drop ?_) | ((with_reducible refine rd_name (σ' := ?ss) ?hs ?_); (case hs => (dsimp only [List.set]; exact rfl)))
  | ((with_reducible refine rd_var (v := ?vv) ?hv ?_); (case hv => exact rfl)) | (with_reducible refine rd_c ?_) | (with_reducible refine rd_op ?_) | (with_reducible refine rd_un ?_)
  | (with_reducible refine rd_I0 ?_) | (with_reducible refine rd_U ?_) | (with_reducible refine rd_test ?_) | (with_reducible refine rd_B ?_) | (with_reducible refine rd_k ?_)
  | (with_reducible refine rd_not ?_) | (with_reducible refine rd_and ?_) | (with_reducible refine rd_or ?_) | (with_reducible refine rd_ifE ?_)
  | (with_reducible refine rd_par ?_) | ((with_reducible refine rd_par2 (σ' := ?ss) ?hs ?_); (case hs => (dsimp only [List.set]; exact rfl)))
  | (with_reducible refine rd_gsub ?_) | (with_reducible refine rd_andV ?_) | (with_reducible refine rd_orV ?_) | (with_reducible refine rd_notV ?_)
  | (with_reducible refine rd_lc ?_) | (with_reducible refine rd_iTup ?_) | (with_reducible refine rd_iList ?_) | (with_reducible refine rd_iRng1 ?_) | (with_reducible refine rd_iRng2 ?_) | (with_reducible refine rd_iEnumT ?_) | (with_reducible refine rd_iEnum ?_) | (with_reducible refine rd_iZipM ?_) | (with_reducible refine rd_iEnumS ?_) | (with_reducible refine rd_iKeys ?_) | (with_reducible refine rd_din ?_) | (with_reducible refine rd_dnotin ?_)
  | (with_reducible refine rd_yes ?_) | (with_reducible refine rd_true ?_) | (with_reducible refine rd_false ?_) | (with_reducible refine rd_m1 ?_) | (with_reducible refine rd_isS ?_)
  | ((with_reducible refine rd_eq ?hs ?_); (case hs => exact rfl)) | ((with_reducible refine rd_ne ?hs ?_); (case hs => exact rfl))
  | (with_reducible refine rd_listRg ?_) | (with_reducible refine rd_rg2 ?_) | (with_reducible refine rd_rgk ?_)
  | (with_reducible refine rd_dnew ?_) | (with_reducible refine rd_ddel ?_) | (with_reducible refine rd_kw ?_) | (with_reducible refine rd_callS ?_) | (with_reducible refine rd_dc ?_) | (with_reducible refine rd_for ?_) | (with_reducible refine rd_tru ?_) | (with_reducible refine rd_truI ?_)
  | (with_reducible refine rd_nil ?_) | (with_reducible refine rd_cons ?_) | (with_reducible refine rd_call ?_) | (with_reducible refine rd_cb ?_)
  | (with_reducible refine rd_tup ?_) | (with_reducible refine rd_lst ?_) | (with_reducible refine rd_dget ?_) | (with_reducible refine rd_dput ?_) | (with_reducible refine rd_dget2 ?_) | (with_reducible refine rd_sl ?_)
  | (with_reducible refine rd_nopart ?_) | (with_reducible refine rd_part ?_) | (with_reducible refine rd_parti ?_) | (with_reducible refine rd_bm ?_) | (with_reducible refine rd_bm0 ?_)
  | (with_reducible refine rd_int ?_) | (with_reducible refine rd_intb ?_) | (with_reducible refine rd_abs ?_) | (with_reducible refine rd_min2 ?_) | (with_reducible refine rd_max2 ?_))
local macro_rules | `(tactic| walk_at "rds") => `(tactic| repeat (walk_at "rd"))
local macro_rules | `(tactic| walk_at "rq") => `(tactic| first
  | (with_reducible refine rd_seq ?_) | (with_reducible refine rd_asg ?_) | (with_reducible refine rd_ret ?_) | (with_reducible refine rd_next ?_)
  | (with_reducible refine rd_drop ?_) | ((with_reducible refine rd_name (σ' := ?ss) ?hs ?_); (case hs => (dsimp only [List.set]; exact rfl)))
  | ((with_reducible refine rd_var (v := ?vv) ?hv ?_); (case hv => exact rfl)) | (with_reducible refine rd_c ?_) | (with_reducible refine rd_op ?_) | (with_reducible refine rd_un ?_)
  | (with_reducible refine rd_I0 ?_) | (with_reducible refine rd_U ?_) | (with_reducible refine rd_test ?_) | (with_reducible refine rd_B ?_) | (with_reducible refine rd_k ?_)
  | (with_reducible refine rd_not ?_) | (with_reducible refine rd_and ?_) | (with_reducible refine rd_or ?_) | (with_reducible refine rd_ifE ?_)
  | (with_reducible refine rd_par ?_) | ((with_reducible refine rd_par2 (σ' := ?ss) ?hs ?_); (case hs => (dsimp only [List.set]; exact rfl)))
  | (with_reducible refine rd_gsub ?_) | (with_reducible refine rd_andV ?_) | (with_reducible refine rd_orV ?_) | (with_reducible refine rd_notV ?_)
  | (with_reducible refine rd_lc ?_) | (with_reducible refine rd_iTup ?_) | (with_reducible refine rd_iList ?_) | (with_reducible refine rd_iRng1 ?_) | (with_reducible refine rd_iRng2 ?_) | (with_reducible refine rd_iEnumT ?_) | (with_reducible refine rd_iEnum ?_) | (with_reducible refine rd_iZipM ?_) | (with_reducible refine rd_iEnumS ?_) | (with_reducible refine rd_iKeys ?_) | (with_reducible refine rd_din ?_) | (with_reducible refine rd_dnotin ?_)
  | (with_reducible refine rd_yes ?_) | (with_reducible refine rd_true ?_) | (with_reducible refine rd_false ?_) | (with_reducible refine rd_m1 ?_) | (with_reducible refine rd_isS ?_)
  | ((with_reducible refine rd_eq ?hs ?_); (case hs => exact rfl)) | ((with_reducible refine rd_ne ?hs ?_); (case hs => exact rfl))
  | (with_reducible refine rd_listRg ?_) | (with_reducible refine rd_rg2 ?_) | (with_reducible refine rd_rgk ?_)
  | (with_reducible refine rd_dnew ?_) | (with_reducible refine rd_ddel ?_) | (with_reducible refine rd_kw ?_) | (with_reducible refine rd_callS ?_) | (with_reducible refine rd_dc ?_) | (with_reducible refine rd_for ?_) | (with_reducible refine rd_tru ?_) | (with_reducible refine rd_truI ?_)
  | (with_reducible refine rd_nil ?_) | (with_reducible refine rd_cons ?_) | (with_reducible refine rd_call ?_) | (with_reducible refine rd_cb ?_)
  | (with_reducible refine rd_tup ?_) | (with_reducible refine rd_lst ?_) | (with_reducible refine rd_dget ?_) | (with_reducible refine rd_dput ?_) | (with_reducible refine rd_dget2 ?_) | (with_reducible refine rd_sl ?_)
  | (with_reducible refine rd_nopart ?_) | (with_reducible refine rd_part ?_) | (with_reducible refine rd_parti ?_) | (with_reducible refine rd_bm ?_) | (with_reducible refine rd_bm0 ?_)
  | (with_reducible refine rd_int ?_) | (with_reducible refine rd_intb ?_) | (with_reducible refine rd_abs ?_) | (with_reducible refine rd_min2 ?_) | (with_reducible refine rd_max2 ?_))
local macro_rules | `(tactic| walk_at "rqs") => `(tactic| repeat (walk_at "rq"))
local macro_rules | `(tactic| walk_at "rv") => `(tactic| first
  | (with_reducible refine rd_seq ?_) | (with_reducible refine rd_asg ?_) | (with_reducible refine rd_ret ?_) | (with_reducible refine rd_next ?_)
  | (with_reducible refine rd_drop ?_) | ((with_reducible refine rd_name (σ' := ?ss) ?hs ?_); (case hs => (dsimp only [List.set]; exact rfl)))
  | ((with_reducible refine rd_var (v := ?vv) ?hv ?_); (case hv => exact rfl)) | (with_reducible refine rd_c ?_) | (with_reducible refine rd_op ?_) | (with_reducible refine rd_un ?_)
  | (with_reducible refine rd_I0 ?_) | (with_reducible refine rd_U ?_) | (with_reducible refine rd_test ?_) | (with_reducible refine rd_B ?_) | (with_reducible refine rd_k ?_)
  | (with_reducible refine rd_not ?_) | (with_reducible refine rd_and ?_) | (with_reducible refine rd_or ?_)
  | (with_reducible refine rd_par ?_) | ((with_reducible refine rd_par2 (σ' := ?ss) ?hs ?_); (case hs => (dsimp only [List.set]; exact rfl)))
  | (with_reducible refine rd_gsub ?_) | (with_reducible refine rd_andV ?_) | (with_reducible refine rd_orV ?_) | (with_reducible refine rd_notV ?_)
  | (with_reducible refine rd_lc ?_) | (with_reducible refine rd_iTup ?_) | (with_reducible refine rd_iList ?_) | (with_reducible refine rd_iRng1 ?_) | (with_reducible refine rd_iRng2 ?_) | (with_reducible refine rd_iEnumT ?_) | (with_reducible refine rd_iEnum ?_) | (with_reducible refine rd_iZipM ?_) | (with_reducible refine rd_iEnumS ?_) | (with_reducible refine rd_iKeys ?_) | (with_reducible refine rd_din ?_) | (with_reducible refine rd_dnotin ?_)
  | (with_reducible refine rd_yes ?_) | (with_reducible refine rd_true ?_) | (with_reducible refine rd_false ?_) | (with_reducible refine rd_m1 ?_) | (with_reducible refine rd_isS ?_)
  | ((with_reducible refine rd_eq ?hs ?_); (case hs => exact rfl)) | ((with_reducible refine rd_ne ?hs ?_); (case hs => exact rfl))
  | (with_reducible refine rd_listRg ?_) | (with_reducible refine rd_rg2 ?_) | (with_reducible refine rd_rgk ?_)
  | (with_reducible refine rd_dnew ?_) | (with_reducible refine rd_ddel ?_) | (with_reducible refine rd_kw ?_) | (with_reducible refine rd_callS ?_) | (with_reducible refine rd_dc ?_) | (with_reducible refine rd_for ?_) | (with_reducible refine rd_tru ?_) | (with_reducible refine rd_truI ?_)
  | (with_reducible refine rd_nil ?_) | (with_reducible refine rd_cons ?_) | (with_reducible refine rd_call ?_) | (with_reducible refine rd_cb ?_)
  | (with_reducible refine rd_tup ?_) | (with_reducible refine rd_lst ?_) | (with_reducible refine rd_dget ?_) | (with_reducible refine rd_dput ?_) | (with_reducible refine rd_dget2 ?_) | (with_reducible refine rd_sl ?_)
  | (with_reducible refine rd_nopart ?_) | (with_reducible refine rd_part ?_) | (with_reducible refine rd_parti ?_) | (with_reducible refine rd_bm ?_) | (with_reducible refine rd_bm0 ?_)
  | (with_reducible refine rd_int ?_) | (with_reducible refine rd_intb ?_) | (with_reducible refine rd_abs ?_) | (with_reducible refine rd_min2 ?_) | (with_reducible refine rd_max2 ?_))
local macro_rules | `(tactic| walk_at "rvs") => `(tactic| repeat (walk_at "rv"))

def trueIn (p : List Int) (x : Int) : Bool := decide (x.natAbs ≤ p.length) && decide (p.getD (x.natAbs - 1) 0 = x)
def openIn (p : List Int) (x : Int) : Bool := decide (p.length < x.natAbs)
def stF (p r : List Int) : Str := if r.any (trueIn p) = true then "true" else if r.any (openIn p) = true then "open" else "lost"
/-- a row of literals of letters from 1 on -/
def Lit (r : List Int) : Prop := (∀ x ∈ r, 1 ≤ x.natAbs ∧ x.natAbs ≤ 60) ∧ r.length ≤ 60
theorem noL_dI : ∀ r : List Int, noLs (dI r) = true
  | [] => rfl
  | _ :: r => noL_dI r
theorem noL_dR (r : List Int) : noL (dR r) = true := noL_dI r
section
variable {P : Program} {w : World} {K : PySem.W.Frag} {mg : Str → Option Value} {base : Heap}
def spState (K : PySem.W.Frag) : Sp := fun vs H Q _ => ∃ (a b : Addr) (r p : List Int), vs = [.ref a, .ref b] ∧ SqT K H a (r.map V.int) ∧ SqT K H b (p.map V.int) ∧ Lit r ∧ p.length ≤ 60 ∧ Q (.str (stF p r)) H
theorem ok_state {f : Addr} {fd : FuncData} (F : Fun K "state_of" "state_of" sstate_of f fd) (T : Bl mg) : FnOk P w K mg base CX0 1 f fd ["clause", "play"] (spState K) := by
  refine F.ok scstate_of (fun vs H Q E h => ?_) (fun cdv A outer s H vs Q E hr h => ?_)
  · obtain ⟨a, b, r, p, rfl, _⟩ := h
    rfl
  · obtain ⟨a, b, r, p, rfl, ha, hb, hr1, hp, q⟩ := h
    refine ⟨_, (pss_cons (ps_set (i := 2) scstate_of.nd rfl (Or.inl rfl) pe_str)
 (pss_cons (ps_for PassesOwn.never rfl (ik_tupI (K := K) rfl (pv 0)) (pg_name (i := 3) scstate_of.nd rfl (Or.inl rfl)) (pss_one (ps_if (pt_cmpR op_gt (pe_callB c_abs (by rfl) T.abs (by decide +kernel) (pa_cons (pv 3) pa_nil)) (pe_callB (c_len (K := K) rfl) (by rfl) T.len (by decide +kernel) (pa_cons (pv 1) pa_nil)) (nomark _)) (pss_one (ps_set (i := 2) scstate_of.nd rfl (Or.inl rfl) pe_str)) (pss_one (ps_if (pt_cmpR op_eq (pe_ix (ik_tup (K := K) rfl) (pv 1) (pe_op op_sub (pe_callB c_abs (by rfl) T.abs (by decide +kernel) (pa_cons (pv 3) pa_nil)) pe_int) (fun _ _ => rfl)) (pv 3) (nomark _)) (pss_one (ps_ret pe_str)) pss_nil)))))
 (pss_one (ps_ret (pv 2))))), ?_⟩
    refine rd_start (σ' := [some (.ref a), some (.ref b), none, none]) rfl ?_
    walk_at "rds"
    refine rd_ref ha ?_
    refine fr_tup (xs := r.map V.int) (fun i σ' H' => ∃ (x : Option V), σ' = [some (.ref a), some (.ref b), some (.str (stF p (r.take i))), x] ∧ H' = H ∧ (r.take i).any (trueIn p) = false)
      ⟨_, rfl, rfl, rfl⟩ (fun i σ' H' _ ⟨_, _, e, _⟩ => by rw [e]; exact ha) (fun i x σ' H' hi hP => ?_) fun σ' H' hP => ?_
    · obtain ⟨y, rfl, rfl, hno⟩ := hP
      rw [List.getElem?_map] at hi
      obtain ⟨t, ht, rfl⟩ := Option.map_eq_some_iff.mp hi
      have hl := hr1.1 t (List.mem_of_getElem? ht)
      refine rd_start (σ' := [some (.ref a), some (.ref b), some (.str (stF p (r.take i))), some (.int t)]) rfl ?_
      have htk : r.take (i + 1) = r.take i ++ [t] := by rw [List.take_add_one, ht] <;> rfl
      have any1 : ∀ f : Int → Bool, (r.take (i + 1)).any f = ((r.take i).any f || f t) := fun f => by rw [htk, List.any_append, List.any_cons, List.any_nil, Bool.or_false]
      walk_at "rds"
      refine rd_lenT hb ?_
      rw [List.length_map]
      walk_at "rds"
      refine rd_ite (fun c => ?_) (fun c => ?_)
      · walk_at "rds"
        have o1 : openIn p t = true := decide_eq_true (by omega)
        have t1 : trueIn p t = false := by
          unfold trueIn
          rw [decide_eq_false (by omega)] <;> rfl
        refine ⟨some (.int t), ?_, rfl, by rw [any1, hno, t1] <;> rfl⟩
        have : stF p (r.take (i + 1)) = "open" := by
          unfold stF
          rw [any1, any1, hno, t1, o1, if_neg (by decide), if_pos (by rw [Bool.or_true])]
        rw [this]
      · have hle : t.natAbs ≤ p.length := by omega
        have hat : atI (p.map V.int) ((t.natAbs : Int) - 1) = some (.int (p.getD (t.natAbs - 1) 0)) := by
          refine at_nat (k := t.natAbs - 1) (by omega) ?_
          rw [List.getElem?_map, List.getElem?_eq_getElem (by omega), List.getD_eq_getElem?_getD, List.getElem?_eq_getElem (by omega)] <;> rfl
        walk_at "rds"
        refine rd_ixT hb hat ?_
        walk_at "rds"
        refine rd_ite (fun c2 => ?_) (fun c2 => ?_)
        · have c2 := V.int.inj c2
          walk_at "rds"
          have t1 : trueIn p t = true := by
            unfold trueIn
            rw [decide_eq_true hle, decide_eq_true c2] <;> rfl
          have : stF p r = "true" := by
            unfold stF
            rw [if_pos (List.any_eq_true.mpr ⟨t, List.mem_of_getElem? ht, t1⟩)]
          rw [this] at q
          exact q
        · have t1 : trueIn p t = false := by
            unfold trueIn
            rw [decide_eq_false (p := p.getD (t.natAbs - 1) 0 = t) (fun e => c2 (congrArg V.int e)), Bool.and_false]
          have o1 : openIn p t = false := decide_eq_false (by omega)
          walk_at "rds"
          refine ⟨some (.int t), ?_, rfl, by rw [any1, hno, t1] <;> rfl⟩
          have : stF p (r.take (i + 1)) = stF p (r.take i) := by
            unfold stF
            rw [any1, any1, t1, o1, Bool.or_false, Bool.or_false]
          rw [this]
    · obtain ⟨y, rfl, rfl, hno⟩ := hP
      rw [List.length_map, List.take_of_length_le (Nat.le_refl _)]
      walk_at "rds"
      exact q
def spUnset (K : PySem.W.Frag) : Sp := fun vs H Q _ => ∃ (a b : Addr) (r p : List Int), vs = [.ref a, .ref b] ∧ SqT K H a (r.map V.int) ∧ SqT K H b (p.map V.int) ∧ Lit r ∧ p.length ≤ 60 ∧
  ∀ (o : Addr) (H' : Hp), Evl.Ex H H' → SqT K H' o ((r.filter (openIn p)).map V.int) → Q (.ref o) H'
theorem ok_unset {f : Addr} {fd : FuncData} (F : Fun K "unset_part" "unset_part" sunset_part f fd) (T : Bl mg) : FnOk P w K mg base CX0 1 f fd ["clause", "play"] (spUnset K) := by
  refine F.ok scunset_part (fun vs H Q E h => ?_) (fun cdv A outer s H vs Q E hr h => ?_)
  · obtain ⟨a, b, r, p, rfl, _⟩ := h
    rfl
  · obtain ⟨a, b, r, p, rfl, ha, hb, hr1, hp, q⟩ := h
    refine ⟨_, (pss_one (ps_ret (pe_callTy (c_tuple (K := K) rfl) (by rfl) T.tuple (by decide +kernel) (pa_cons (pe_lc (own := [("literal", 2)]) (g := gName 2) rfl scunset_part.nd (ik_tupI (K := K) rfl (pv 0)) (blkOk_by (own := [("literal", 2)]) (N := ["clause", "play", "literal"]) (sc := defScope sunset_part) (by decide +kernel)) (fun _ _ _ _ _ => (pg_name (i := 2) scunset_part.nd rfl (Or.inl rfl))) (fun _ _ _ _ _ => (pts_one (pt_cmpR op_gt (pe_callB c_abs (by rfl) T.abs (by decide +kernel) (pa_cons (pv 2) pa_nil)) (pe_callB (c_len (K := K) rfl) (by rfl) T.len (by decide +kernel) (pa_cons (pv 1) pa_nil)) (nomark _)))) (fun _ _ _ _ _ => (pv 2))) pa_nil)))), ?_⟩
    refine rd_start (σ' := [some (.ref a), some (.ref b), none]) rfl ?_
    walk_at "rds"
    refine rd_ref ha ?_
    refine lc_fmT (openIn p) V.int (σx := fun x => [some (.ref a), some (.ref b), some x]) ha (by have := hr1.2; omega) (fun _ => rfl) (fun _ => rfl)
      (fun x hx H' N S e kN kS => ?_) fun D H2 e2 eD hD => ?_
    · walk_at "rds"
      refine rd_lenT (Evl.ex_t e hb) ?_
      rw [List.length_map]
      walk_at "rds"
      refine rd_ite (fun c => ?_) (fun c => ?_)
      · walk_at "rds"
        exact kN (decide_eq_true (by omega)) _ (Evl.Ex.refl _)
      · exact kS (decide_eq_false (by omega)) _ (Evl.Ex.refl _)
    walk_at "rds"
    refine rd_tupL (SqL.of hD) fun o ho => ?_
    exact q o _ (e2.trans (Evl.Ex.new ho)) (SqT.of upd_same)
def spFrom (K : PySem.W.Frag) : Sp := fun vs H Q _ => ∃ (a c b : Addr) (z : Str) (xs : List V) (rs : List (List Int)) (p : List Int), vs = [.ref a, .ref b] ∧ SqT K H a [.str z, .ref c] ∧ SqT K H c xs ∧ DpAll K H xs (rs.map dR) ∧ (∀ r ∈ rs, Lit r) ∧ rs.length ≤ 1000 ∧ SqT K H b (p.map V.int) ∧ p.length ≤ 60 ∧
  ∀ (D : Addr) (ys : List V) (H' : Hp), Evl.Ex H H' → H D = none → H' D = some (.lst ys) → DpAll K H' ys (((rs.filter fun r => !r.any (trueIn p)).map fun r => r.filter (openIn p)).map dR) → Q (.ref D) H'
theorem stF_true {p r : List Int} : decide (V.str (stF p r) = V.str "true") = r.any (trueIn p) := by
  unfold stF
  cases r.any (trueIn p) with
  | true => rw [if_pos rfl]; decide
  | false =>
    rw [if_neg (by decide)]
    split <;> decide
theorem ok_from {f fS fU : Addr} {fd fdS fdU : FuncData} (F : Fun K "asked_from" "asked_from" sasked_from f fd) (T : Bl mg)
    (Gstate_of : FnOk P w K mg base CX0 1 fS fdS ["clause", "play"] (spState K)) (Cstate_of : Callee K mg "state_of" fS fdS ["clause", "play"])
    (Gunset_part : FnOk P w K mg base CX0 1 fU fdU ["clause", "play"] (spUnset K)) (Cunset_part : Callee K mg "unset_part" fU fdU ["clause", "play"]) :
    FnOk P w K mg base CX0 2 f fd ["sentence", "play"] (spFrom K) := by
  refine F.ok scasked_from (fun vs H Q E h => ?_) (fun cdv A outer s H vs Q E hr h => ?_)
  · obtain ⟨a, c, b, z, xs, rs, p, rfl, _⟩ := h
    rfl
  · obtain ⟨a, c, b, z, xs, rs, p, rfl, ha, hc, hd, hrs, hl, hb, hp, q⟩ := h
    refine ⟨_, (pss_one (ps_ret (pe_lc (own := [("clause", 2)]) (g := gName 2) rfl scasked_from.nd (ik_tupI (K := K) rfl (pe_ix (ik_tup (K := K) rfl) (pv 0) pe_int (fun _ _ => rfl))) (blkOk_by (own := [("clause", 2)]) (N := ["sentence", "play", "clause"]) (sc := defScope sasked_from) (by decide +kernel)) (fun _ _ _ _ _ => (pg_name (i := 2) scasked_from.nd rfl (Or.inl rfl))) (fun _ _ _ _ _ => (pts_one (pt_cmpR op_ne (pe_call Gstate_of (hr.mono (by decide)) (by rfl) Cstate_of.m Cstate_of.k Cstate_of.b .nil pass0 (pa_cons (pv 2) (pa_cons (pv 1) pa_nil))) pe_str (nomark _)))) (fun _ _ _ _ _ => (pe_call Gunset_part (hr.mono (by decide)) (by rfl) Cunset_part.m Cunset_part.k Cunset_part.b .nil pass0 (pa_cons (pv 2) (pa_cons (pv 1) pa_nil))))))), ?_⟩
    refine rd_start (σ' := [some (.ref a), some (.ref b), none]) rfl ?_
    walk_at "rds"
    refine rd_ixT (x := .ref c) ha rfl ?_
    refine rd_ref hc ?_
    refine lc_dpT noL_dR (fun r => !r.any (trueIn p)) (fun r => r.filter (openIn p)) (σx := fun x => [some (.ref a), some (.ref b), some x]) hc hd (by omega) (fun _ => rfl) (fun _ => rfl) (fun r hr v H' N S e hv kN kS => ?_) fun D H' ys e eD hD hys => q D ys H' e eD hD hys
    obtain ⟨v', rfl, sv⟩ := dp_row hv
    walk_at "rds"
    refine ⟨v', b, r, p, rfl, sv, Evl.ex_t e hb, hrs r hr, hp, ?_⟩
    walk_at "rds"
    rw [stF_true]
    cases c : r.any (trueIn p) with
    | true =>
      exact kS (by show (!r.any (trueIn p)) = false; rw [c]; rfl) _ (Evl.Ex.refl _)
    | false =>
      show tCall (spUnset K) [] E0 (tCons (tVar 2) (tCons (tVar 1) tNil)) _ _ _
      walk_at "rds"
      refine ⟨v', b, r, p, rfl, sv, Evl.ex_t e hb, hrs r hr, hp, fun o H3 e3 ho => ?_⟩
      exact kN (by show (!r.any (trueIn p)) = true; rw [c]; rfl) _ _ e3 (dp_of_row ho)
def nextF (lit : Int) (r : List Int) : Bool := !decide (r.getD 0 0 = lit)
def nextG (lit : Int) (r : List Int) : List Int := if r.getD 0 0 = -lit then r.drop 1 else r
def beh (lit : Int) (rs : List (List Int)) : List (List Int) := (rs.filter (nextF lit)).map (nextG lit)
def spBehind (K : PySem.W.Frag) : Sp := fun vs H Q _ => ∃ (a : Addr) (xs : List V) (rs : List (List Int)) (lit : Int), vs = [.ref a, .int lit] ∧ SqL K H a xs ∧ DpAll K H xs (rs.map dR) ∧ (∀ r ∈ rs, r ≠ []) ∧ rs.length ≤ 1000 ∧
  ∀ (D : Addr) (ys : List V) (H' : Hp), Evl.Ex H H' → H D = none → H' D = some (.lst ys) → DpAll K H' ys ((beh lit rs).map dR) → Q (.ref D) H'
theorem ok_behind {f : Addr} {fd : FuncData} (F : Fun K "asked_behind" "asked_behind" sasked_behind f fd) (T : Bl mg) :
    FnOk P w K mg base CX0 1 f fd ["asked", "literal"] (spBehind K) := by
  refine F.ok scasked_behind (fun vs H Q E h => ?_) (fun cdv A outer s H vs Q E hr h => ?_)
  · obtain ⟨a, xs, rs, lit, rfl, _⟩ := h
    rfl
  · obtain ⟨a, xs, rs, lit, rfl, ha, hd, hne, hl, q⟩ := h
    refine ⟨_, (pss_one (ps_ret (pe_lc (own := [("part", 2)]) (g := gName 2) rfl scasked_behind.nd (ik_listI (K := K) rfl (pv 0)) (blkOk_by (own := [("part", 2)]) (N := ["asked", "literal", "part"]) (sc := defScope sasked_behind) (by decide +kernel)) (fun _ _ _ _ _ => (pg_name (i := 2) scasked_behind.nd rfl (Or.inl rfl))) (fun _ _ _ _ _ => (pts_one (pt_cmpR op_ne (pe_ix (ik_tup (K := K) rfl) (pv 2) pe_int (fun _ _ => rfl)) (pv 1) (nomark _)))) (fun _ _ _ _ _ => (pe_ifExp (pt_cmpR op_eq (pe_ix (ik_tup (K := K) rfl) (pv 2) pe_int (fun _ _ => rfl)) (pe_un un_neg (pv 1)) (nomark _)) (pe_slice (sk_tup (K := K) rfl) (pv 2) (po_some pe_int) po_none) (pv 2)))))), ?_⟩
    refine rd_start (σ' := [some (.ref a), some (.int lit), none]) rfl ?_
    walk_at "rds"
    refine rd_refL ha ?_
    refine lc_dpL noL_dR (nextF lit) (nextG lit) (σx := fun x => [some (.ref a), some (.int lit), some x]) ha hd (by omega) (fun _ => rfl) (fun _ => rfl) (fun r hr v H' N S e hv kN kS => ?_) fun D H' ys e eD hD hys => q D ys H' e eD hD hys
    obtain ⟨v', rfl, sv⟩ := dp_row hv
    have hat : atI (r.map V.int) 0 = some (.int (r.getD 0 0)) := by
      cases r with
      | nil => exact absurd rfl (hne [] hr)
      | cons x t => exact at_nat (k := 0) rfl rfl
    walk_at "rds"
    refine rd_ixT sv hat ?_
    walk_at "rds"
    refine rd_iten (fun c => ?_) (fun c => ?_)
    · have hf : nextF lit r = true := by
        unfold nextF
        rw [decide_eq_false (fun e => c (congrArg V.int e))] <;> rfl
      walk_at "rds"
      refine rd_ixT sv hat ?_
      walk_at "rds"
      refine rd_ite (fun c2 => ?_) (fun c2 => ?_)
      · walk_at "rds"
        refine rd_slT sv fun o H3 e3 u3 => ?_
        rw [cut_drop (a := 1) (by decide), show (1 : Int).toNat = 1 from rfl, ← List.map_drop] at u3
        refine kN hf _ _ e3 ?_
        have : nextG lit r = r.drop 1 := if_pos (V.int.inj c2)
        rw [this]
        exact dp_of_row u3
      · walk_at "rds"
        refine kN hf _ _ (Evl.Ex.refl _) ?_
        have : nextG lit r = r := if_neg (fun e => c2 (congrArg V.int e))
        rw [this]
        exact dp_of_row sv
    · refine kS ?_ _ (Evl.Ex.refl _)
      unfold nextF
      rw [decide_eq_true (V.int.inj c)] <;> rfl
end
end KA
set_option Elab.async false
set_option linter.all false
set_option maxRecDepth 100000
set_option maxHeartbeats 400000
set_option pp.maxSteps 300
namespace KA
open PySem PySem.Spec PyProof.Rows L2 Ea
abbrev swinning_ways : Stmt := topS 17
theorem scwinning_ways : FnScope ["owners", "letter", "asked", "with_yes", "with_no"] ["owners", "letter", "asked"] (defScope swinning_ways) :=
  ⟨rfl, rfl, rfl, by decide +kernel, rfl, by decide +kernel, by decide +kernel⟩
abbrev ssome_wins : Stmt := topS 14
theorem scsome_wins : FnScope ["owners", "letter", "asked", "with_yes"] ["owners", "letter", "asked"] (defScope ssome_wins) :=
  ⟨rfl, rfl, rfl, by decide +kernel, rfl, by decide +kernel, by decide +kernel⟩
local macro_rules | `(tactic| walk_at "rd") => `(tactic| first
  | (with_reducible refine rd_seq ?_) | (with_reducible refine rd_asg ?_) | (with_reducible refine rd_if ?_) | (with_reducible refine rd_ret ?_) | (with_reducible refine rd_next ?_)
  | (with_reducible refine rd_drop ?_) | ((with_reducible refine rd_name (σ' := ?ss) ?hs ?_); (case hs => (dsimp only [List.set]; exact rfl)))
  | ((with_reducible refine rd_var (v := ?vv) ?hv ?_); (case hv => exact rfl)) | (with_reducible refine rd_c ?_) | (with_reducible refine rd_op ?_) | (with_reducible refine rd_un ?_)
  | (with_reducible refine rd_I0 ?_) | (with_reducible refine rd_U ?_) | (with_reducible refine rd_test ?_) | (with_reducible refine rd_B ?_) | (with_reducible refine rd_k ?_)
  | (with_reducible refine rd_not ?_) | (with_reducible refine rd_and ?_) | (with_reducible refine rd_or ?_) | (with_reducible refine rd_ifE ?_)
  | (with_reducible refine rd_par ?_) | ((with_reducible refine rd_par2 (σ' := ?ss) ?hs ?_); (case hs => (dsimp only [List.set]; exact rfl)))
  | (with_reducible refine rd_gsub ?_) | (with_reducible refine rd_andV ?_) | (with_reducible refine rd_orV ?_) | (with_reducible refine rd_notV ?_)
  | (with_reducible refine rd_lc ?_) | (with_reducible refine rd_iTup ?_) | (with_reducible refine rd_iList ?_) | (with_reducible refine rd_iRng1 ?_) | (with_reducible refine rd_iRng2 ?_) | (with_reducible refine rd_iEnumT ?_) | (with_reducible refine rd_iEnum ?_) | (with_reducible refine rd_iZipM ?_) | (with_reducible refine rd_iEnumS ?_) | (with_reducible refine rd_iKeys ?_) | (with_reducible refine rd_din ?_) | (with_reducible refine rd_dnotin ?_)
  | (with_reducible refine rd_yes ?_) | (with_reducible refine rd_true ?_) | (with_reducible refine rd_false ?_) | (with_reducible refine rd_m1 ?_) | (with_reducible refine rd_isS ?_)
  | ((with_reducible refine rd_eq ?hs ?_); (case hs => exact rfl)) | ((with_reducible refine rd_ne ?hs ?_); (case hs => exact rfl))
  | (with_reducible refine rd_listRg ?_) | (with_reducible refine rd_rg2 ?_) | (with_reducible refine rd_rgk ?_)
  | (with_reducible refine rd_dnew ?_) | (with_reducible refine rd_ddel ?_) | (with_reducible refine rd_kw ?_) | (with_reducible refine rd_callS ?_) | (with_reducible refine rd_dc ?_) | (with_reducible refine rd_for ?_) | (with_reducible refine rd_tru ?_) | (with_reducible refine rd_truI ?_)
  | (with_reducible refine rd_nil ?_) | (with_reducible refine rd_cons ?_) | (with_reducible refine rd_call ?_) | (with_reducible refine rd_cb ?_)
  | (with_reducible refine rd_tup ?_) | (with_reducible refine rd_lst ?_) | (with_reducible refine rd_dget ?_) | (with_reducible refine rd_dput ?_) | (with_reducible refine rd_dget2 ?_) | (with_reducible refine rd_sl ?_)
  | (with_reducible refine rd_nopart ?_) | (with_reducible refine rd_part ?_) | (with_reducible refine rd_parti ?_) | (with_reducible refine rd_bm ?_) | (with_reducible refine rd_bm0 ?_)
  | (with_reducible refine rd_int ?_) | (with_reducible refine rd_intb ?_) | (with_reducible refine rd_abs ?_) | (with_reducible refine rd_min2 ?_) | (with_reducible refine rd_max2 ?_))
local macro_rules | `(tactic| walk_at "rds") => `(tactic| repeat (walk_at "rd"))
local macro_rules | `(tactic| walk_at "rq") => `(tactic| first
  | (with_reducible refine rd_seq ?_) | (with_reducible refine rd_asg ?_) | (with_reducible refine rd_ret ?_) | (with_reducible refine rd_next ?_)
  | (with_reducible refine rd_drop ?_) | ((with_reducible refine rd_name (σ' := ?ss) ?hs ?_); (case hs => (dsimp only [List.set]; exact rfl)))
  | ((with_reducible refine rd_var (v := ?vv) ?hv ?_); (case hv => exact rfl)) | (with_reducible refine rd_c ?_) | (with_reducible refine rd_op ?_) | (with_reducible refine rd_un ?_)
  | (with_reducible refine rd_I0 ?_) | (with_reducible refine rd_U ?_) | (with_reducible refine rd_test ?_) | (with_reducible refine rd_B ?_) | (with_reducible refine rd_k ?_)
  | (with_reducible refine rd_not ?_) | (with_reducible refine rd_and ?_) | (with_reducible refine rd_or ?_) | (with_reducible refine rd_ifE ?_)
  | (with_reducible refine rd_par ?_) | ((with_reducible refine rd_par2 (σ' := ?ss) ?hs ?_); (case hs => (dsimp only [List.set]; exact rfl)))
  | (with_reducible refine rd_gsub ?_) | (with_reducible refine rd_andV ?_) | (with_reducible refine rd_orV ?_) | (with_reducible refine rd_notV ?_)
  | (with_reducible refine rd_lc ?_) | (with_reducible refine rd_iTup ?_) | (with_reducible refine rd_iList ?_) | (with_reducible refine rd_iRng1 ?_) | (with_reducible refine rd_iRng2 ?_) | (with_reducible refine rd_iEnumT ?_) | (with_reducible refine rd_iEnum ?_) | (with_reducible refine rd_iZipM ?_) | (with_reducible refine rd_iEnumS ?_) | (with_reducible refine rd_iKeys ?_) | (with_reducible refine rd_din ?_) | (with_reducible refine rd_dnotin ?_)
  | (with_reducible refine rd_yes ?_) | (with_reducible refine rd_true ?_) | (with_reducible refine rd_false ?_) | (with_reducible refine rd_m1 ?_) | (with_reducible refine rd_isS ?_)
  | ((with_reducible refine rd_eq ?hs ?_); (case hs => exact rfl)) | ((with_reducible refine rd_ne ?hs ?_); (case hs => exact rfl))
  | (with_reducible refine rd_listRg ?_) | (with_reducible refine rd_rg2 ?_) | (with_reducible refine rd_rgk ?_)
  | (with_reducible refine rd_dnew ?_) | (with_reducible refine rd_ddel ?_) | (with_reducible refine rd_kw ?_) | (with_reducible refine rd_callS ?_) | (with_reducible refine rd_dc ?_) | (with_reducible refine rd_for ?_) | (with_reducible refine rd_tru ?_) | (with_reducible refine rd_truI ?_)
  | (with_reducible refine rd_nil ?_) | (with_reducible refine rd_cons ?_) | (with_reducible refine rd_call ?_) | (with_reducible refine rd_cb ?_)
  | (with_reducible refine rd_tup ?_) | (with_reducible refine rd_lst ?_) | (with_reducible refine rd_dget ?_) | (with_reducible refine rd_dput ?_) | (with_reducible refine rd_dget2 ?_) | (with_reducible refine rd_sl ?_)
  | (with_reducible refine rd_nopart ?_) | (with_reducible refine rd_part ?_) | (with_reducible refine rd_parti ?_) | (with_reducible refine rd_bm ?_) | (with_reducible refine rd_bm0 ?_)
  | (with_reducible refine rd_int ?_) | (with_reducible refine rd_intb ?_) | (with_reducible refine rd_abs ?_) | (with_reducible refine rd_min2 ?_) | (with_reducible refine rd_max2 ?_))
local macro_rules | `(tactic| walk_at "rqs") => `(tactic| repeat (walk_at "rq"))
local macro_rules | `(tactic| walk_at "rv") => `(tactic| first
  | (with_reducible refine rd_seq ?_) | (with_reducible refine rd_asg ?_) | (with_reducible refine rd_ret ?_) | (with_reducible refine rd_next ?_)
  | (with_reducible refine rd_drop ?_) | ((with_reducible refine rd_name (σ' := ?ss) ?hs ?_); (case hs => (dsimp only [List.set]; exact rfl)))
  | ((with_reducible refine rd_var (v := ?vv) ?hv ?_); (case hv => exact rfl)) | (with_reducible refine rd_c ?_) | (with_reducible refine rd_op ?_) | (with_reducible refine rd_un ?_)
  | (with_reducible refine rd_I0 ?_) | (with_reducible refine rd_U ?_) | (with_reducible refine rd_test ?_) | (with_reducible refine rd_B ?_) | (with_reducible refine rd_k ?_)
  | (with_reducible refine rd_not ?_) | (with_reducible refine rd_and ?_) | (with_reducible refine rd_or ?_)
  | (with_reducible refine rd_par ?_) | ((with_reducible refine rd_par2 (σ' := ?ss) ?hs ?_); (case hs => (dsimp only [List.set]; exact rfl)))
  | (with_reducible refine rd_gsub ?_) | (with_reducible refine rd_andV ?_) | (with_reducible refine rd_orV ?_) | (with_reducible refine rd_notV ?_)
  | (with_reducible refine rd_lc ?_) | (with_reducible refine rd_iTup ?_) | (with_reducible refine rd_iList ?_) | (with_reducible refine rd_iRng1 ?_) | (with_reducible refine rd_iRng2 ?_) | (with_reducible refine rd_iEnumT ?_) | (with_reducible refine rd_iEnum ?_) | (with_reducible refine rd_iZipM ?_) | (with_reducible refine rd_iEnumS ?_) | (with_reducible refine rd_iKeys ?_) | (with_reducible refine rd_din ?_) | (with_reducible refine rd_dnotin ?_)
  | (with_reducible refine rd_yes ?_) | (with_reducible refine rd_true ?_) | (with_reducible refine rd_false ?_) | (with_reducible refine rd_m1 ?_) | (with_reducible refine rd_isS ?_)
  | ((with_reducible refine rd_eq ?hs ?_); (case hs => exact rfl)) | ((with_reducible refine rd_ne ?hs ?_); (case hs => exact rfl))
  | (with_reducible refine rd_listRg ?_) | (with_reducible refine rd_rg2 ?_) | (with_reducible refine rd_rgk ?_)
  | (with_reducible refine rd_dnew ?_) | (with_reducible refine rd_ddel ?_) | (with_reducible refine rd_kw ?_) | (with_reducible refine rd_callS ?_) | (with_reducible refine rd_dc ?_) | (with_reducible refine rd_for ?_) | (with_reducible refine rd_tru ?_) | (with_reducible refine rd_truI ?_)
  | (with_reducible refine rd_nil ?_) | (with_reducible refine rd_cons ?_) | (with_reducible refine rd_call ?_) | (with_reducible refine rd_cb ?_)
  | (with_reducible refine rd_tup ?_) | (with_reducible refine rd_lst ?_) | (with_reducible refine rd_dget ?_) | (with_reducible refine rd_dput ?_) | (with_reducible refine rd_dget2 ?_) | (with_reducible refine rd_sl ?_)
  | (with_reducible refine rd_nopart ?_) | (with_reducible refine rd_part ?_) | (with_reducible refine rd_parti ?_) | (with_reducible refine rd_bm ?_) | (with_reducible refine rd_bm0 ?_)
  | (with_reducible refine rd_int ?_) | (with_reducible refine rd_intb ?_) | (with_reducible refine rd_abs ?_) | (with_reducible refine rd_min2 ?_) | (with_reducible refine rd_max2 ?_))
local macro_rules | `(tactic| walk_at "rvs") => `(tactic| repeat (walk_at "rv"))

theorem at_sgn2 {n : Nat} {z : Str} {x : Int} (h : OwnS n z) (h1 : 1 ≤ x) (h2 : x ≤ (n : Int)) : atI z.cps.toList (x - 1) = some (sgn z x) := by
  have e : x - 1 = (x.natAbs : Int) - 1 := by omega
  rw [e]
  exact at_sgn h (by omega) (by omega)
/-- who wins from a letter on, m letters being left -/
def winR (z : Str) : Nat → Int → List (List Int) → Bool
  | m, letter, rs => if rs = [] then true else if [] ∈ rs then false else match m with
    | 0 => false
    | m + 1 => if heldBy z "s" letter = true then winR z m (letter + 1) (beh letter rs) || winR z m (letter + 1) (beh (-letter) rs) else winR z m (letter + 1) (beh letter rs) && winR z m (letter + 1) (beh (-letter) rs)
/-- rows of letters from one on -/
def From (n : Nat) (letter : Int) (rs : List (List Int)) : Prop := ∀ r ∈ rs, r.Pairwise (fun x y => x.natAbs < y.natAbs) ∧ ∀ x ∈ r, letter ≤ (x.natAbs : Int) ∧ x.natAbs ≤ n
theorem From.beh {n : Nat} {letter : Int} {rs : List (List Int)} {lit : Int} (h : From n letter rs) (hl : (lit.natAbs : Int) = letter) (hne : ∀ r ∈ rs, r ≠ []) : From n (letter + 1) (beh lit rs) := fun s hs => by
  obtain ⟨r, hr, rfl⟩ := List.mem_map.mp hs
  obtain ⟨hr1, hr2⟩ := List.mem_filter.mp hr
  obtain ⟨h1, h2⟩ := h r hr1
  have c1 : r.getD 0 0 ≠ lit := by
    unfold nextF at hr2
    intro e
    rw [decide_eq_true e] at hr2
    cases hr2
  cases r with
  | nil => exact absurd rfl (hne [] hr1)
  | cons x t =>
    have c1 : x ≠ lit := c1
    obtain ⟨p1, p2⟩ := List.pairwise_cons.mp h1
    have hx := h2 x List.mem_cons_self
    unfold nextG
    by_cases c2 : (x :: t).getD 0 0 = -lit
    · rw [if_pos c2]
      have c2 : x = -lit := c2
      refine ⟨p2, fun y hy => ?_⟩
      have := p1 y hy
      have := (h2 y (List.mem_cons_of_mem _ hy)).2
      omega
    · rw [if_neg c2]
      have c2 : x ≠ -lit := c2
      refine ⟨h1, fun y hy => ?_⟩
      have h3 := (h2 y hy).2
      rcases List.mem_cons.mp hy with rfl | hy
      · omega
      · have := p1 y hy
        omega
theorem beh_length (lit : Int) (rs : List (List Int)) : (beh lit rs).length ≤ rs.length := by
  unfold beh
  rw [List.length_map]
  exact List.length_filter_le _ _
theorem nice_from {n : Nat} {letter : Int} (hn : n ≤ 60) {r : List Int} (h : r.Pairwise (fun x y => x.natAbs < y.natAbs) ∧ ∀ x ∈ r, letter ≤ (x.natAbs : Int) ∧ x.natAbs ≤ n) (h1 : 1 ≤ letter) : Nice 60 1 (dR r) :=
  (Nice.tup (NiceAll.ints fun x hx => by
    have := h.2 x hx
    have : (10 : Nat) ^ 12 = 1000000000000 := by decide
    omega)).mono (by
      have : Row n r := ⟨h.1, fun x hx => by have := h.2 x hx; omega⟩
      have := Row.length this
      omega) (Nat.le_refl _)
theorem nice_froms {n : Nat} {letter : Int} (hn : n ≤ 60) (h1 : 1 ≤ letter) : ∀ {rs : List (List Int)}, From n letter rs → NiceAll (61 * rs.length) 1 (rs.map dR)
  | [], _ => NiceAll.nil
  | r :: t, h => (NiceAll.cons (nice_from hn (h r List.mem_cons_self) h1) (nice_froms hn h1 fun s hs => h s (List.mem_cons_of_mem _ hs))).mono (by rw [List.length_cons]; omega) (Nat.le_refl _)
theorem any_empty (rs : List (List Int)) : ((rs.map dR).any fun z => PyData.eqv z (dR [])) = decide ([] ∈ rs) := by
  induction rs with
  | nil => rfl
  | cons r t ih =>
    rw [List.map_cons, List.any_cons, ih]
    cases r with
    | nil => rw [decide_eq_true (p := [] ∈ [] :: t) List.mem_cons_self] <;> rfl
    | cons x s =>
      by_cases c : [] ∈ t
      · rw [decide_eq_true c, decide_eq_true (p := [] ∈ (x :: s) :: t) (List.mem_cons_of_mem _ c)] <;> rfl
      · rw [decide_eq_false c, decide_eq_false (p := [] ∈ (x :: s) :: t) (fun h => by
          rcases List.mem_cons.mp h with h | h
          · cases h
          · exact c h)] <;> rfl
theorem winR_nil (z : Str) (m : Nat) (letter : Int) : winR z m letter [] = true := by
  unfold winR
  exact if_pos rfl
theorem winR_lost {z : Str} {m : Nat} {letter : Int} {rs : List (List Int)} (h : [] ∈ rs) : winR z m letter rs = false := by
  unfold winR
  rw [if_neg (fun e => by rw [e] at h; cases h), if_pos h]
theorem winR_step {z : Str} {m : Nat} {letter : Int} {rs : List (List Int)} (h0 : rs ≠ []) (h : [] ∉ rs) :
    winR z (m + 1) letter rs = if heldBy z "s" letter = true then winR z m (letter + 1) (beh letter rs) || winR z m (letter + 1) (beh (-letter) rs) else winR z m (letter + 1) (beh letter rs) && winR z m (letter + 1) (beh (-letter) rs) := by
  rw [winR, if_neg h0, if_neg h]
/-- how many ways win from a letter on, m letters being left -/
def wayR (z : Str) : Nat → Int → List (List Int) → Nat
  | 0, _, rs => if [] ∈ rs then 0 else 1
  | m + 1, letter, rs => if [] ∈ rs then 0 else if heldBy z "s" letter = true then wayR z m (letter + 1) (beh letter rs) + wayR z m (letter + 1) (beh (-letter) rs) else wayR z m (letter + 1) (beh letter rs) * wayR z m (letter + 1) (beh (-letter) rs)
theorem wayR_lost {z : Str} {m : Nat} {letter : Int} {rs : List (List Int)} (h : [] ∈ rs) : wayR z m letter rs = 0 := by
  cases m <;> exact if_pos h
theorem wayR_end {z : Str} {letter : Int} {rs : List (List Int)} (h : [] ∉ rs) : wayR z 0 letter rs = 1 := if_neg h
theorem wayR_step {z : Str} {m : Nat} {letter : Int} {rs : List (List Int)} (h : [] ∉ rs) :
    wayR z (m + 1) letter rs = if heldBy z "s" letter = true then wayR z m (letter + 1) (beh letter rs) + wayR z m (letter + 1) (beh (-letter) rs) else wayR z m (letter + 1) (beh letter rs) * wayR z m (letter + 1) (beh (-letter) rs) := if_neg h
theorem cnt_add {a b m : Nat} (ha : a < 2 ^ 2 ^ m) (hb : b < 2 ^ 2 ^ m) : a + b < 2 ^ 2 ^ (m + 1) := by
  have e1 : 2 ^ 2 ^ (m + 1) = 2 ^ 2 ^ m * 2 ^ 2 ^ m := by rw [← Nat.pow_add, Nat.pow_succ]; congr 1; omega
  have h2 : 2 ≤ 2 ^ 2 ^ m := Nat.le_trans (by decide : 2 ≤ 2 ^ 1) (Nat.pow_le_pow_right (by decide) (Nat.one_le_two_pow))
  have := Nat.mul_le_mul_right (2 ^ 2 ^ m) h2
  omega
theorem cnt_mul {a b m : Nat} (ha : a < 2 ^ 2 ^ m) (hb : b < 2 ^ 2 ^ m) : a * b < 2 ^ 2 ^ (m + 1) := by
  have e1 : 2 ^ 2 ^ (m + 1) = 2 ^ 2 ^ m * 2 ^ 2 ^ m := by rw [← Nat.pow_add, Nat.pow_succ]; congr 1; omega
  rw [e1]
  exact Nat.mul_lt_mul'' ha hb
theorem wayR_lt (z : Str) : ∀ (m : Nat) (letter : Int) (rs : List (List Int)), wayR z m letter rs < 2 ^ 2 ^ m
  | 0, letter, rs => by
    unfold wayR
    split <;> decide
  | m + 1, letter, rs => by
    unfold wayR
    split
    · exact Nat.two_pow_pos _
    · split
      · exact cnt_add (wayR_lt z m _ _) (wayR_lt z m _ _)
      · exact cnt_mul (wayR_lt z m _ _) (wayR_lt z m _ _)
section
variable {P : Program} {w : World} {K : PySem.W.Frag} {mg : Str → Option Value} {base : Heap}
def spWays (K : PySem.W.Frag) (M : Nat) : Sp := fun vs H Q _ => ∃ (a : Addr) (z : Str) (n m : Nat) (letter : Int) (xs : List V) (rs : List (List Int)), vs = [.str z, .int letter, .ref a] ∧ OwnS n z ∧ n ≤ 12 ∧ 1 ≤ letter ∧ letter + m = n + 1 ∧ m < M ∧ SqL K H a xs ∧ DpAll K H xs (rs.map dR) ∧ From n letter rs ∧ rs.length ≤ 1000 ∧
  ∀ H', Evl.Ex H H' → Q (.int ((wayR z m letter rs : Nat) : Int)) H'
theorem ok_ways1 {f fB : Addr} {fd fdB : FuncData} (F : Fun K "winning_ways" "winning_ways" swinning_ways f fd) (T : Bl mg) {M k : Nat} (hk : 1 ≤ k)
    (Gasked_behind : FnOk P w K mg base CX0 1 fB fdB ["asked", "literal"] (spBehind K)) (Casked_behind : Callee K mg "asked_behind" fB fdB ["asked", "literal"])
    (Gwinning_ways : FnOk P w K mg base CX0 k f fd ["owners", "letter", "asked"] (spWays K M)) (Cwinning_ways : Callee K mg "winning_ways" f fd ["owners", "letter", "asked"]) :
    FnOk P w K mg base CX0 (k + 1) f fd ["owners", "letter", "asked"] (spWays K (M + 1)) := by
  refine F.ok scwinning_ways (fun vs H Q E h => ?_) (fun cdv A outer s H vs Q E hr h => ?_)
  · obtain ⟨a, z, n, m, letter, xs, rs, rfl, _⟩ := h
    rfl
  · obtain ⟨a, z, n, m, letter, xs, rs, rfl, hz, hn, hl1, hm, hM, ha, hd, hf, hl, q⟩ := h
    refine ⟨_, (pss_cons (ps_if (pt_cmpR (op_inD (hu65 hr)) (pe_tup pa_nil) (pv 2) (by rfl)) (pss_one (ps_ret pe_int)) pss_nil)
 (pss_cons (ps_if (pt_cmpR op_gt (pv 1) (pe_callB c_lenS (by rfl) T.len (by decide +kernel) (pa_cons (pv 0) pa_nil)) (nomark _)) (pss_one (ps_ret pe_int)) pss_nil)
 (pss_cons (ps_set (i := 3) scwinning_ways.nd rfl (Or.inl rfl) (pe_call Gwinning_ways hr (by rfl) Cwinning_ways.m Cwinning_ways.k Cwinning_ways.b .nil pass0 (pa_cons (pv 0) (pa_cons (pe_op op_add (pv 1) pe_int) (pa_cons (pe_call Gasked_behind (hr.mono hk) (by rfl) Casked_behind.m Casked_behind.k Casked_behind.b .nil pass0 (pa_cons (pv 2) (pa_cons (pv 1) pa_nil))) pa_nil)))))
 (pss_cons (ps_set (i := 4) scwinning_ways.nd rfl (Or.inl rfl) (pe_call Gwinning_ways hr (by rfl) Cwinning_ways.m Cwinning_ways.k Cwinning_ways.b .nil pass0 (pa_cons (pv 0) (pa_cons (pe_op op_add (pv 1) pe_int) (pa_cons (pe_call Gasked_behind (hr.mono hk) (by rfl) Casked_behind.m Casked_behind.k Casked_behind.b .nil pass0 (pa_cons (pv 2) (pa_cons (pe_un un_neg (pv 1)) pa_nil))) pa_nil)))))
 (pss_one (ps_ret (pe_ifExp (pt_cmpR op_eq (pe_ix ix_str (pv 0) (pe_op op_sub (pv 1) pe_int) (fun _ _ => rfl)) pe_str (nomark _)) (pe_op op_add (pv 3) (pv 4)) (pe_op op_mulW (pv 3) (pv 4))))))))), ?_⟩
    refine rd_start (σ' := [some (.str z), some (.int letter), some (.ref a), none, none]) rfl ?_
    walk_at "rds"
    refine ⟨Nat.zero_le _, fun p hp => ?_⟩
    have e1 := Evl.Ex.new (o := .tup []) hp
    walk_at "rds"
    refine ⟨dR [], rs.map dR, dp_of_row (r := []) (SqT.of upd_same), .lst (Evl.ex_l e1 ha) (dpAll_ex e1 _ _ hd), (Nice.tup NiceAll.nil : Nice 0 1 (dR [])).shaped (by decide), (Nice.lst (nice_froms (by omega) hl1 hf)).shaped (by decide), ?_⟩
    rw [any_empty]
    walk_at "rds"
    refine rd_ite (fun c1 => ?_) (fun c1 => ?_)
    · walk_at "rds"
      have := q _ e1
      rw [wayR_lost c1] at this
      exact this
    · have hne : ∀ r ∈ rs, r ≠ [] := fun r hr e => c1 (e ▸ hr)
      walk_at "rds"
      refine rd_lenS (by rw [hz.1, sizeLine_eq]; omega) ?_
      rw [hz.1]
      walk_at "rds"
      refine rd_ite (fun c2 => ?_) (fun c2 => ?_)
      · have m0 : m = 0 := by omega
        subst m0
        walk_at "rds"
        have := q _ e1
        rw [wayR_end c1] at this
        exact this
      · obtain ⟨m, rfl⟩ : ∃ m', m = m' + 1 := ⟨m - 1, by omega⟩
        have hxs := Evl.ex_l e1 ha
        have hds := dpAll_ex e1 _ _ hd
        walk_at "rds"
        refine ⟨a, xs, rs, letter, rfl, hxs, hds, hne, hl, fun D ys H2 e2 eD hD hys => ?_⟩
        walk_at "rds"
        refine ⟨D, z, n, m, letter + 1, ys, beh letter rs, rfl, hz, hn, by omega, by omega, by omega, SqL.of hD, hys, hf.beh (by omega) hne, Nat.le_trans (beh_length _ _) hl, fun H3 e3 => ?_⟩
        have e13 := (e1.trans e2).trans e3
        walk_at "rds"
        refine ⟨a, xs, rs, -letter, rfl, Evl.ex_l (e2.trans e3) hxs, dpAll_ex (e2.trans e3) _ _ hds, hne, hl, fun D2 ys2 H4 e4 eD2 hD2 hys2 => ?_⟩
        walk_at "rds"
        refine ⟨D2, z, n, m, letter + 1, ys2, beh (-letter) rs, rfl, hz, hn, by omega, by omega, by omega, SqL.of hD2, hys2, hf.beh (by omega) hne, Nat.le_trans (beh_length _ _) hl, fun H5 e5 => ?_⟩
        have fin := q _ ((e13.trans e4).trans e5)
        rw [wayR_step c1] at fin
        have b1 := wayR_lt z m (letter + 1) (beh letter rs)
        have b2 := wayR_lt z m (letter + 1) (beh (-letter) rs)
        generalize wayR z m (letter + 1) (beh letter rs) = w1 at fin b1 ⊢
        generalize wayR z m (letter + 1) (beh (-letter) rs) = w2 at fin b2 ⊢
        walk_at "rds"
        refine rd_ixS (by rw [hz.1, sizeLine_eq]; omega) (at_sgn2 hz (by omega) (by omega)) ?_
        walk_at "rds"
        refine rd_iteb (b := heldBy z "s" letter) (fun ch => ?_) (fun ch => ?_)
        · rw [if_pos ch, Int.natCast_add] at fin
          walk_at "rds"
          exact fin
        · rw [if_neg (by rw [ch]; decide), Int.natCast_mul] at fin
          have hpow : (0 : Nat) < 2 ^ m := Nat.two_pow_pos m
          have hp13 : 2 ^ m ≤ 2 ^ 13 := Nat.pow_le_pow_right (by decide) (by omega)
          have h13 : (2 : Nat) ^ 13 = 8192 := by decide
          walk_at "rds"
          refine rd_I (wide_mul (by rw [Int.natAbs_natCast]; exact b1) (by rw [Int.natAbs_natCast]; exact b2) hpow hpow (by omega)) ?_
          walk_at "rds"
          exact fin
theorem ok_ways0 {f : Addr} {fd : FuncData} : FnOk P w K mg base CX0 1 f fd ["owners", "letter", "asked"] (spWays K 0) :=
  ⟨fun vs H Q E h => by
    obtain ⟨a, z, n, m, letter, xs, rs, _, _, _, _, _, hM, _⟩ := h
    exact absurd hM (Nat.not_lt_zero m), fun A outer s H args us vs Q E hr e0 hb r hsp => by
    obtain ⟨a, z, n, m, letter, xs, rs, _, _, _, _, _, hM, _⟩ := hsp
    exact absurd hM (Nat.not_lt_zero m)⟩
theorem ok_ways {f fB : Addr} {fd fdB : FuncData} (F : Fun K "winning_ways" "winning_ways" swinning_ways f fd) (T : Bl mg)
    (Gasked_behind : FnOk P w K mg base CX0 1 fB fdB ["asked", "literal"] (spBehind K)) (Casked_behind : Callee K mg "asked_behind" fB fdB ["asked", "literal"])
    (Cwinning_ways : Callee K mg "winning_ways" f fd ["owners", "letter", "asked"]) : ∀ M : Nat, FnOk P w K mg base CX0 (M + 1) f fd ["owners", "letter", "asked"] (spWays K M)
  | 0 => ok_ways0
  | M + 1 => ok_ways1 F T (Nat.succ_le_succ (Nat.zero_le M)) Gasked_behind Casked_behind (ok_ways F T Gasked_behind Casked_behind Cwinning_ways M) Cwinning_ways
def spWins (K : PySem.W.Frag) (M : Nat) : Sp := fun vs H Q _ => ∃ (a : Addr) (z : Str) (n m : Nat) (letter : Int) (xs : List V) (rs : List (List Int)), vs = [.str z, .int letter, .ref a] ∧ OwnS n z ∧ n ≤ 60 ∧ 1 ≤ letter ∧ letter + m = n + 1 ∧ m < M ∧ SqL K H a xs ∧ DpAll K H xs (rs.map dR) ∧ From n letter rs ∧ rs.length ≤ 1000 ∧
  ∀ H', Evl.Ex H H' → Q (.bl (winR z m letter rs)) H'
theorem ok_wins1 {f fB : Addr} {fd fdB : FuncData} (F : Fun K "some_wins" "some_wins" ssome_wins f fd) (T : Bl mg) {M k : Nat} (hk : 1 ≤ k)
    (Gasked_behind : FnOk P w K mg base CX0 1 fB fdB ["asked", "literal"] (spBehind K)) (Casked_behind : Callee K mg "asked_behind" fB fdB ["asked", "literal"])
    (Gsome_wins : FnOk P w K mg base CX0 k f fd ["owners", "letter", "asked"] (spWins K M)) (Csome_wins : Callee K mg "some_wins" f fd ["owners", "letter", "asked"]) :
    FnOk P w K mg base CX0 (k + 1) f fd ["owners", "letter", "asked"] (spWins K (M + 1)) := by
  refine F.ok scsome_wins (fun vs H Q E h => ?_) (fun cdv A outer s H vs Q E hr h => ?_)
  · obtain ⟨a, z, n, m, letter, xs, rs, rfl, _⟩ := h
    rfl
  · obtain ⟨a, z, n, m, letter, xs, rs, rfl, hz, hn, hl1, hm, hM, ha, hd, hf, hl, q⟩ := h
    refine ⟨_, (pss_cons (ps_if (pt_not (pk_truth (K := K) rfl (pv 2) (by intro _; rfl))) (pss_one (ps_ret pe_bl)) pss_nil)
 (pss_cons (ps_if (pt_cmpR (op_inD (hu65 hr)) (pe_tup pa_nil) (pv 2) (by rfl)) (pss_one (ps_ret pe_bl)) pss_nil)
 (pss_cons (ps_set (i := 3) scsome_wins.nd rfl (Or.inl rfl) (pe_call Gsome_wins hr (by rfl) Csome_wins.m Csome_wins.k Csome_wins.b .nil pass0 (pa_cons (pv 0) (pa_cons (pe_op op_add (pv 1) pe_int) (pa_cons (pe_call Gasked_behind (hr.mono hk) (by rfl) Casked_behind.m Casked_behind.k Casked_behind.b .nil pass0 (pa_cons (pv 2) (pa_cons (pv 1) pa_nil))) pa_nil)))))
 (pss_cons (ps_if (pt_cmpR op_eq (pv 3) (pe_cmpR op_eq (pe_ix ix_str (pv 0) (pe_op op_sub (pv 1) pe_int) (fun _ _ => rfl)) pe_str (nomark _)) (nomark _)) (pss_one (ps_ret (pv 3))) pss_nil)
 (pss_one (ps_ret (pe_call Gsome_wins hr (by rfl) Csome_wins.m Csome_wins.k Csome_wins.b .nil pass0 (pa_cons (pv 0) (pa_cons (pe_op op_add (pv 1) pe_int) (pa_cons (pe_call Gasked_behind (hr.mono hk) (by rfl) Casked_behind.m Casked_behind.k Casked_behind.b .nil pass0 (pa_cons (pv 2) (pa_cons (pe_un un_neg (pv 1)) pa_nil))) pa_nil)))))))))), ?_⟩
    refine rd_start (σ' := [some (.str z), some (.int letter), some (.ref a), none]) rfl ?_
    walk_at "rds"
    have lx : xs.length = rs.length := by rw [dpAll_len hd, List.length_map]
    refine ⟨!xs.isEmpty, .inl ⟨xs, ha, rfl⟩, ?_⟩
    by_cases c0 : rs = []
    · subst c0
      have : xs = [] := List.length_eq_zero_iff.mp lx
      subst this
      rw [if_pos (by decide)]
      walk_at "rds"
      have := q _ (Evl.Ex.refl _)
      rw [winR_nil] at this
      exact this
    · have hxe : xs.isEmpty = false := by
        cases xs with
        | nil =>
          rw [List.length_nil] at lx
          exact absurd (List.length_eq_zero_iff.mp lx.symm) c0
        | cons x t => rfl
      rw [hxe, if_neg (by decide)]
      walk_at "rds"
      refine ⟨Nat.zero_le _, fun p hp => ?_⟩
      have e1 := Evl.Ex.new (o := .tup []) hp
      walk_at "rds"
      refine ⟨dR [], rs.map dR, dp_of_row (r := []) (SqT.of upd_same), .lst (Evl.ex_l e1 ha) (dpAll_ex e1 _ _ hd), (Nice.tup NiceAll.nil : Nice 0 1 (dR [])).shaped (by decide), (Nice.lst (nice_froms hn hl1 hf)).shaped (by decide), ?_⟩
      rw [any_empty]
      walk_at "rds"
      refine rd_ite (fun c1 => ?_) (fun c1 => ?_)
      · walk_at "rds"
        have := q _ e1
        rw [winR_lost c1] at this
        exact this
      · have hne : ∀ r ∈ rs, r ≠ [] := fun r hr e => c1 (e ▸ hr)
        obtain ⟨m, rfl⟩ : ∃ m', m = m' + 1 := by
          cases m with
          | succ m => exact ⟨m, rfl⟩
          | zero =>
            obtain ⟨r, hr⟩ := List.exists_mem_of_ne_nil rs c0
            have hr1 := hf r hr
            cases r with
            | nil => exact absurd rfl (hne [] hr)
            | cons x t =>
              have := hr1.2 x List.mem_cons_self
              omega
        have hxs := Evl.ex_l e1 ha
        have hds := dpAll_ex e1 _ _ hd
        walk_at "rds"
        refine ⟨a, xs, rs, letter, rfl, hxs, hds, hne, hl, fun D ys H2 e2 eD hD hys => ?_⟩
        walk_at "rds"
        refine ⟨D, z, n, m, letter + 1, ys, beh letter rs, rfl, hz, hn, by omega, by omega, by omega, SqL.of hD, hys, hf.beh (by omega) hne, Nat.le_trans (beh_length _ _) hl, fun H3 e3 => ?_⟩
        have e13 := (e1.trans e2).trans e3
        have fin := fun H' (e : Evl.Ex H H') => q H' e
        rw [winR_step c0 c1] at fin
        walk_at "rds"
        refine rd_ixS (by rw [hz.1, sizeLine_eq]; omega) (at_sgn2 hz (by omega) (by omega)) ?_
        walk_at "rds"
        have hh : decide (V.str ⟨#[sgn z letter]⟩ = V.str "s") = heldBy z "s" letter := rfl
        rw [hh]
        have fin1 := fin _ e13
        refine rd_ite (fun c2 => ?_) (fun c2 => ?_)
        · have c2 : winR z m (letter + 1) (beh letter rs) = heldBy z "s" letter := V.bl.inj c2
          walk_at "rds"
          have e : (if heldBy z "s" letter = true then winR z m (letter + 1) (beh letter rs) || winR z m (letter + 1) (beh (-letter) rs) else winR z m (letter + 1) (beh letter rs) && winR z m (letter + 1) (beh (-letter) rs)) = winR z m (letter + 1) (beh letter rs) := by
            cases c3 : heldBy z "s" letter with
            | true => rw [c3] at c2; rw [if_pos rfl, c2, Bool.true_or]
            | false => rw [c3] at c2; rw [if_neg (by decide), c2, Bool.false_and]
          rw [e] at fin1
          exact fin1
        · have c2 : winR z m (letter + 1) (beh letter rs) ≠ heldBy z "s" letter := fun e => c2 (congrArg V.bl e)
          walk_at "rds"
          refine ⟨a, xs, rs, -letter, rfl, Evl.ex_l (e2.trans e3) hxs, dpAll_ex (e2.trans e3) _ _ hds, hne, hl, fun D2 ys2 H4 e4 eD2 hD2 hys2 => ?_⟩
          walk_at "rds"
          refine ⟨D2, z, n, m, letter + 1, ys2, beh (-letter) rs, rfl, hz, hn, by omega, by omega, by omega, SqL.of hD2, hys2, hf.beh (by omega) hne, Nat.le_trans (beh_length _ _) hl, fun H5 e5 => ?_⟩
          have fin2 := fin _ ((e13.trans e4).trans e5)
          have e : (if heldBy z "s" letter = true then winR z m (letter + 1) (beh letter rs) || winR z m (letter + 1) (beh (-letter) rs) else winR z m (letter + 1) (beh letter rs) && winR z m (letter + 1) (beh (-letter) rs)) = winR z m (letter + 1) (beh (-letter) rs) := by
            cases c3 : heldBy z "s" letter with
            | true =>
              rw [c3] at c2
              rw [if_pos rfl, Bool.eq_false_iff.mpr c2, Bool.false_or]
            | false =>
              rw [c3] at c2
              have : winR z m (letter + 1) (beh letter rs) = true := by
                cases h : winR z m (letter + 1) (beh letter rs) with
                | true => rfl
                | false => exact absurd h c2
              rw [if_neg (by decide), this, Bool.true_and]
          rw [e] at fin2
          exact fin2
theorem ok_wins0 {f : Addr} {fd : FuncData} : FnOk P w K mg base CX0 1 f fd ["owners", "letter", "asked"] (spWins K 0) :=
  ⟨fun vs H Q E h => by
    obtain ⟨a, z, n, m, letter, xs, rs, _, _, _, _, _, hM, _⟩ := h
    exact absurd hM (Nat.not_lt_zero m), fun A outer s H args us vs Q E hr e0 hb r hsp => by
    obtain ⟨a, z, n, m, letter, xs, rs, _, _, _, _, _, hM, _⟩ := hsp
    exact absurd hM (Nat.not_lt_zero m)⟩
theorem ok_wins {f fB : Addr} {fd fdB : FuncData} (F : Fun K "some_wins" "some_wins" ssome_wins f fd) (T : Bl mg)
    (Gasked_behind : FnOk P w K mg base CX0 1 fB fdB ["asked", "literal"] (spBehind K)) (Casked_behind : Callee K mg "asked_behind" fB fdB ["asked", "literal"])
    (Csome_wins : Callee K mg "some_wins" f fd ["owners", "letter", "asked"]) : ∀ M : Nat, FnOk P w K mg base CX0 (M + 1) f fd ["owners", "letter", "asked"] (spWins K M)
  | 0 => ok_wins0
  | M + 1 => ok_wins1 F T (Nat.succ_le_succ (Nat.zero_le M)) Gasked_behind Casked_behind (ok_wins F T Gasked_behind Casked_behind Csome_wins M) Csome_wins
end
end KA
set_option Elab.async false
set_option linter.all false
set_option maxRecDepth 100000
set_option maxHeartbeats 400000
set_option pp.maxSteps 300
namespace Ea
open PySem PySem.Spec PyProof.Rows L2
theorem rd_iStr {te : TE} {σ : L2.St} {H : Hp} {R : It → Hp → Prop} (h : te σ H fun v H1 => ∃ x, v = V.str x ∧ R (Its x) H1) : iStr te σ H R := h
/-- a for over the signs of a text -/
theorem fr_str {σ : L2.St} {H : Hp} {tb : TS} {D : Ends} {j : Nat} {z : Str} (Pv : Nat → L2.St → Hp → Prop) (h0 : Pv 0 σ H)
    (hs : ∀ i σ H c, z.cps.toList[i]? = some c → Pv i σ H → tb { D with nx := Pv (i + 1), ct := Pv (i + 1), bk := D.nx } (σ.set j (some (.str ⟨#[c]⟩))) H) (hd : ∀ σ H, Pv z.length σ H → D.nx σ H) : ForR (gName j) tb D σ (Its z) H := by
  refine ⟨fun i m σ' H' => i + m = z.cps.size ∧ Pv i σ' H', ⟨z.cps.size, by omega, h0⟩, fun i m σ' H' hW => ?_⟩
  obtain ⟨em, hp⟩ := hW
  by_cases hi : i < z.cps.size
  · refine .inr ⟨hi, Pv (i + 1), fun σ2 H2 h2 => ⟨m - 1, by omega, by omega, h2⟩, fun x H2 hy => ?_⟩
    obtain ⟨e, c, hc, rfl⟩ := hy
    rw [e]
    exact hs i σ' H' c (by rw [Array.getElem?_toList]; exact hc) hp
  · have hin : i = z.cps.size := by omega
    subst hin
    exact .inl ⟨Nat.le_refl _, hd σ' H' hp⟩
end Ea
namespace KA
open PySem PySem.Spec PyProof.Rows L2 Ea
abbrev s_law_free : Stmt := topS 28
theorem sc_law_free : FnScope ["owners", "found", "sign"] ["owners"] (defScope s_law_free) :=
  ⟨rfl, rfl, rfl, by decide +kernel, rfl, by decide +kernel, by decide +kernel⟩
local macro_rules | `(tactic| walk_at "rd") => `(tactic| first
  | (with_reducible refine rd_seq ?_) | (with_reducible refine rd_asg ?_) | (with_reducible refine rd_if ?_) | (with_reducible refine rd_ret ?_) | (with_reducible refine rd_next ?_)
  | (with_reducible refine rd_drop ?_) | ((with_reducible refine rd_name (σ' := ?ss) ?hs ?_); (case hs => (dsimp only [List.set]; exact rfl)))
  | ((with_reducible refine rd_var (v := ?vv) ?hv ?_); (case hv => exact rfl)) | (with_reducible refine rd_c ?_) | (with_reducible refine rd_op ?_) | (with_reducible refine rd_un ?_)
  | (with_reducible refine rd_I0 ?_) | (with_reducible refine rd_U ?_) | (with_reducible refine rd_test ?_) | (with_reducible refine rd_B ?_) | (with_reducible refine rd_k ?_)
  | (with_reducible refine rd_not ?_) | (with_reducible refine rd_and ?_) | (with_reducible refine rd_or ?_) | (with_reducible refine rd_ifE ?_)
  | (with_reducible refine rd_par ?_) | ((with_reducible refine rd_par2 (σ' := ?ss) ?hs ?_); (case hs => (dsimp only [List.set]; exact rfl)))
  | (with_reducible refine rd_gsub ?_) | (with_reducible refine rd_andV ?_) | (with_reducible refine rd_orV ?_) | (with_reducible refine rd_notV ?_)
  | (with_reducible refine rd_lc ?_) | (with_reducible refine rd_iTup ?_) | (with_reducible refine rd_iList ?_) | (with_reducible refine rd_iRng1 ?_) | (with_reducible refine rd_iRng2 ?_) | (with_reducible refine rd_iEnumT ?_) | (with_reducible refine rd_iEnum ?_) | (with_reducible refine rd_iZipM ?_) | (with_reducible refine rd_iEnumS ?_) | (with_reducible refine rd_iKeys ?_) | (with_reducible refine rd_din ?_) | (with_reducible refine rd_dnotin ?_)
  | (with_reducible refine rd_yes ?_) | (with_reducible refine rd_true ?_) | (with_reducible refine rd_false ?_) | (with_reducible refine rd_m1 ?_) | (with_reducible refine rd_isS ?_)
  | ((with_reducible refine rd_eq ?hs ?_); (case hs => exact rfl)) | ((with_reducible refine rd_ne ?hs ?_); (case hs => exact rfl))
  | (with_reducible refine rd_listRg ?_) | (with_reducible refine rd_rg2 ?_) | (with_reducible refine rd_rgk ?_)
  | (with_reducible refine rd_dnew ?_) | (with_reducible refine rd_ddel ?_) | (with_reducible refine rd_kw ?_) | (with_reducible refine rd_callS ?_) | (with_reducible refine rd_dc ?_) | (with_reducible refine rd_for ?_) | (with_reducible refine rd_tru ?_) | (with_reducible refine rd_truI ?_)
  | (with_reducible refine rd_nil ?_) | (with_reducible refine rd_cons ?_) | (with_reducible refine rd_call ?_) | (with_reducible refine rd_cb ?_)
  | (with_reducible refine rd_tup ?_) | (with_reducible refine rd_lst ?_) | (with_reducible refine rd_dget ?_) | (with_reducible refine rd_dput ?_) | (with_reducible refine rd_dget2 ?_) | (with_reducible refine rd_sl ?_)
  | (with_reducible refine rd_nopart ?_) | (with_reducible refine rd_part ?_) | (with_reducible refine rd_parti ?_) | (with_reducible refine rd_bm ?_) | (with_reducible refine rd_bm0 ?_)
  | (with_reducible refine rd_int ?_) | (with_reducible refine rd_intb ?_) | (with_reducible refine rd_abs ?_) | (with_reducible refine rd_min2 ?_) | (with_reducible refine rd_max2 ?_))
local macro_rules | `(tactic| walk_at "rds") => `(tactic| repeat (walk_at "rd"))
local macro_rules | `(tactic| walk_at "rq") => `(tactic| first
  | (with_reducible refine rd_seq ?_) | (with_reducible refine rd_asg ?_) | (with_reducible refine rd_ret ?_) | (with_reducible refine rd_next ?_)
  | (with_reducible refine rd_drop ?_) | ((with_reducible refine rd_name (σ' := ?ss) ?hs ?_); (case hs => (dsimp only [List.set]; exact rfl)))
  | ((with_reducible refine rd_var (v := ?vv) ?hv ?_); (case hv => exact rfl)) | (with_reducible refine rd_c ?_) | (with_reducible refine rd_op ?_) | (with_reducible refine rd_un ?_)
  | (with_reducible refine rd_I0 ?_) | (with_reducible refine rd_U ?_) | (with_reducible refine rd_test ?_) | (with_reducible refine rd_B ?_) | (with_reducible refine rd_k ?_)
  | (with_reducible refine rd_not ?_) | (with_reducible refine rd_and ?_) | (with_reducible refine rd_or ?_) | (with_reducible refine rd_ifE ?_)
  | (with_reducible refine rd_par ?_) | ((with_reducible refine rd_par2 (σ' := ?ss) ?hs ?_); (case hs => (dsimp only [List.set]; exact rfl)))
  | (with_reducible refine rd_gsub ?_) | (with_reducible refine rd_andV ?_) | (with_reducible refine rd_orV ?_) | (with_reducible refine rd_notV ?_)
  | (with_reducible refine rd_lc ?_) | (with_reducible refine rd_iTup ?_) | (with_reducible refine rd_iList ?_) | (with_reducible refine rd_iRng1 ?_) | (with_reducible refine rd_iRng2 ?_) | (with_reducible refine rd_iEnumT ?_) | (with_reducible refine rd_iEnum ?_) | (with_reducible refine rd_iZipM ?_) | (with_reducible refine rd_iEnumS ?_) | (with_reducible refine rd_iKeys ?_) | (with_reducible refine rd_din ?_) | (with_reducible refine rd_dnotin ?_)
  | (with_reducible refine rd_yes ?_) | (with_reducible refine rd_true ?_) | (with_reducible refine rd_false ?_) | (with_reducible refine rd_m1 ?_) | (with_reducible refine rd_isS ?_)
  | ((with_reducible refine rd_eq ?hs ?_); (case hs => exact rfl)) | ((with_reducible refine rd_ne ?hs ?_); (case hs => exact rfl))
  | (with_reducible refine rd_listRg ?_) | (with_reducible refine rd_rg2 ?_) | (with_reducible refine rd_rgk ?_)
  | (with_reducible refine rd_dnew ?_) | (with_reducible refine rd_ddel ?_) | (with_reducible refine rd_kw ?_) | (with_reducible refine rd_callS ?_) | (with_reducible refine rd_dc ?_) | (with_reducible refine rd_for ?_) | (with_reducible refine rd_tru ?_) | (with_reducible refine rd_truI ?_)
  | (with_reducible refine rd_nil ?_) | (with_reducible refine rd_cons ?_) | (with_reducible refine rd_call ?_) | (with_reducible refine rd_cb ?_)
  | (with_reducible refine rd_tup ?_) | (with_reducible refine rd_lst ?_) | (with_reducible refine rd_dget ?_) | (with_reducible refine rd_dput ?_) | (with_reducible refine rd_dget2 ?_) | (with_reducible refine rd_sl ?_)
  | (with_reducible refine rd_nopart ?_) | (with_reducible refine rd_part ?_) | (with_reducible refine rd_parti ?_) | (with_reducible refine rd_bm ?_) | (with_reducible refine rd_bm0 ?_)
  | (with_reducible refine rd_int ?_) | (with_reducible refine rd_intb ?_) | (with_reducible refine rd_abs ?_) | (with_reducible refine rd_min2 ?_) | (with_reducible refine rd_max2 ?_))
local macro_rules | `(tactic| walk_at "rqs") => `(tactic| repeat (walk_at "rq"))
local macro_rules | `(tactic| walk_at "rv") => `(tactic| first
  | (with_reducible refine rd_seq ?_) | (with_reducible refine rd_asg ?_) | (with_reducible refine rd_ret ?_) | (with_reducible refine rd_next ?_)
  | (with_reducible refine rd_drop ?_) | ((with_reducible refine rd_name (σ' := ?ss) ?hs ?_); (case hs => (dsimp only [List.set]; exact rfl)))
  | ((with_reducible refine rd_var (v := ?vv) ?hv ?_); (case hv => exact rfl)) | (with_reducible refine rd_c ?_) | (with_reducible refine rd_op ?_) | (with_reducible refine rd_un ?_)
  | (with_reducible refine rd_I0 ?_) | (with_reducible refine rd_U ?_) | (with_reducible refine rd_test ?_) | (with_reducible refine rd_B ?_) | (with_reducible refine rd_k ?_)
  | (with_reducible refine rd_not ?_) | (with_reducible refine rd_and ?_) | (with_reducible refine rd_or ?_)
  | (with_reducible refine rd_par ?_) | ((with_reducible refine rd_par2 (σ' := ?ss) ?hs ?_); (case hs => (dsimp only [List.set]; exact rfl)))
  | (with_reducible refine rd_gsub ?_) | (with_reducible refine rd_andV ?_) | (with_reducible refine rd_orV ?_) | (with_reducible refine rd_notV ?_)
  | (with_reducible refine rd_lc ?_) | (with_reducible refine rd_iTup ?_) | (with_reducible refine rd_iList ?_) | (with_reducible refine rd_iRng1 ?_) | (with_reducible refine rd_iRng2 ?_) | (with_reducible refine rd_iEnumT ?_) | (with_reducible refine rd_iEnum ?_) | (with_reducible refine rd_iZipM ?_) | (with_reducible refine rd_iEnumS ?_) | (with_reducible refine rd_iKeys ?_) | (with_reducible refine rd_din ?_) | (with_reducible refine rd_dnotin ?_)
  | (with_reducible refine rd_yes ?_) | (with_reducible refine rd_true ?_) | (with_reducible refine rd_false ?_) | (with_reducible refine rd_m1 ?_) | (with_reducible refine rd_isS ?_)
  | ((with_reducible refine rd_eq ?hs ?_); (case hs => exact rfl)) | ((with_reducible refine rd_ne ?hs ?_); (case hs => exact rfl))
  | (with_reducible refine rd_listRg ?_) | (with_reducible refine rd_rg2 ?_) | (with_reducible refine rd_rgk ?_)
  | (with_reducible refine rd_dnew ?_) | (with_reducible refine rd_ddel ?_) | (with_reducible refine rd_kw ?_) | (with_reducible refine rd_callS ?_) | (with_reducible refine rd_dc ?_) | (with_reducible refine rd_for ?_) | (with_reducible refine rd_tru ?_) | (with_reducible refine rd_truI ?_)
  | (with_reducible refine rd_nil ?_) | (with_reducible refine rd_cons ?_) | (with_reducible refine rd_call ?_) | (with_reducible refine rd_cb ?_)
  | (with_reducible refine rd_tup ?_) | (with_reducible refine rd_lst ?_) | (with_reducible refine rd_dget ?_) | (with_reducible refine rd_dput ?_) | (with_reducible refine rd_dget2 ?_) | (with_reducible refine rd_sl ?_)
  | (with_reducible refine rd_nopart ?_) | (with_reducible refine rd_part ?_) | (with_reducible refine rd_parti ?_) | (with_reducible refine rd_bm ?_) | (with_reducible refine rd_bm0 ?_)
  | (with_reducible refine rd_int ?_) | (with_reducible refine rd_intb ?_) | (with_reducible refine rd_abs ?_) | (with_reducible refine rd_min2 ?_) | (with_reducible refine rd_max2 ?_))
local macro_rules | `(tactic| walk_at "rvs") => `(tactic| repeat (walk_at "rv"))

section
variable {P : Program} {w : World} {K : PySem.W.Frag} {mg : Str → Option Value} {base : Heap}
/-- how many ways there are where nothing is asked -/
def freeL : List Nat → Nat
  | [] => 1
  | c :: t => if V.str ⟨#[c]⟩ = V.str (Str.ofString "s") then 2 * freeL t else freeL t * freeL t
theorem freeL_cons (c : Nat) (t : List Nat) : freeL (c :: t) = if V.str ⟨#[c]⟩ = V.str (Str.ofString "s") then 2 * freeL t else freeL t * freeL t := rfl
theorem freeL_lt : ∀ l : List Nat, freeL l < 2 ^ 2 ^ l.length
  | [] => by decide
  | c :: t => by
    have ih := freeL_lt t
    unfold freeL
    split
    · rw [Nat.two_mul]
      exact cnt_add ih ih
    · exact cnt_mul ih ih
theorem beh_nil (l : Int) : beh l [] = [] := rfl
theorem free_way {z : Str} : ∀ (m k : Nat), k + m = z.cps.toList.length → wayR z m ((k : Int) + 1) [] = freeL (z.cps.toList.drop k)
  | 0, k, h => by
    rw [List.drop_eq_nil_of_le (by omega)]
    rfl
  | m + 1, k, h => by
    have ih := free_way (z := z) m (k + 1) (by omega)
    rw [wayR_step (by simp), beh_nil, beh_nil]
    have e1 : (k : Int) + 1 + 1 = ((k + 1 : Nat) : Int) + 1 := by omega
    rw [e1, ih]
    have hd : z.cps.toList.drop k = sgn z ((k : Int) + 1) :: z.cps.toList.drop (k + 1) := by
      rw [List.drop_eq_getElem_cons (by omega)]
      congr 1
      unfold sgn
      have e2 : ((k : Int) + 1).natAbs - 1 = k := by omega
      rw [e2, List.getD_eq_getElem?_getD, List.getElem?_eq_getElem (by omega)] <;> rfl
    rw [hd, freeL_cons]
    unfold heldBy
    by_cases c : V.str ⟨#[sgn z ((k : Int) + 1)]⟩ = V.str (Str.ofString "s")
    · rw [if_pos c, if_pos (decide_eq_true c), Nat.two_mul]
    · rw [if_neg c, if_neg (by rw [decide_eq_true_eq]; exact c)]
def spFree (K : PySem.W.Frag) : Sp := fun vs H Q _ => ∃ (z : Str) (n : Nat), vs = [.str z] ∧ OwnS n z ∧ n ≤ 13 ∧ Q (.int ((freeL z.cps.toList : Nat) : Int)) H
theorem ok_free {f : Addr} {fd : FuncData} (F : Fun K "_law_free" "_law_free" s_law_free f fd) (T : Bl mg) : FnOk P w K mg base CX0 1 f fd ["owners"] (spFree K) := by
  refine F.ok sc_law_free (fun vs H Q E h => ?_) (fun cdv A outer s H vs Q E hr h => ?_)
  · obtain ⟨z, n, rfl, _⟩ := h
    rfl
  · obtain ⟨z, n, rfl, hz, hn, q⟩ := h
    refine ⟨_, (pss_cons (ps_set (i := 1) sc_law_free.nd rfl (Or.inl rfl) pe_int)
 (pss_cons (ps_for PassesOwn.never rfl (pi_str (pe_revS (pv 0))) (pg_name (i := 2) sc_law_free.nd rfl (Or.inl rfl)) (pss_one (ps_set (i := 1) sc_law_free.nd rfl (Or.inl rfl) (pe_ifExp (pt_cmpR op_eq (pv 2) pe_str (nomark _)) (pe_op op_mulW pe_int (pv 1)) (pe_op op_mulW (pv 1) (pv 1))))))
 (pss_one (ps_ret (pv 1))))), ?_⟩
    refine rd_start (σ' := [some (.str z), none, none]) rfl ?_
    walk_at "rds"
    refine rd_iStr ?_
    refine rd_revS ?_
    walk_at "rds"
    refine ⟨z, rfl, by rw [hz.1, sizeLine_eq]; omega, revT z, rfl, ?_⟩
    have hl : (revT z).length = n := (revT_length z).trans hz.1
    have hzl : z.cps.toList.length = n := hz.1
    refine fr_str (fun i σ' H' => ∃ (x2 : Option V), σ' = [some (.str z), some (.int ((freeL (z.cps.toList.drop (n - i)) : Nat) : Int)), x2] ∧ H' = H) ⟨_, by rw [List.drop_eq_nil_of_le (by omega)] <;> rfl, rfl⟩ (fun i σ' H' c hc hP => ?_) fun σ' H' hP => ?_
    · obtain ⟨x2, rfl, rfl⟩ := hP
      have hi : i < n := by
        have := (List.getElem?_eq_some_iff.mp hc).1
        rw [← hl]
        exact this
      have hdr : z.cps.toList.drop (n - (i + 1)) = c :: z.cps.toList.drop (n - i) := by
        have hc2 : z.cps.toList.reverse[i]? = some c := hc
        rw [List.getElem?_reverse (by omega)] at hc2
        obtain ⟨h1, h2⟩ := List.getElem?_eq_some_iff.mp hc2
        have e0 : n - (i + 1) = z.cps.toList.length - 1 - i := by omega
        have e1 : n - i = z.cps.toList.length - 1 - i + 1 := by omega
        rw [e0, e1, List.drop_eq_getElem_cons h1, h2]
      have hf : freeL (z.cps.toList.drop (n - i)) < 2 ^ 2 ^ i := by
        have := freeL_lt (z.cps.toList.drop (n - i))
        rw [List.length_drop, hzl] at this
        have e : n - (n - i) = i := by omega
        rw [e] at this
        exact this
      have goal : freeL (z.cps.toList.drop (n - (i + 1))) = if V.str ⟨#[c]⟩ = V.str (Str.ofString "s") then 2 * freeL (z.cps.toList.drop (n - i)) else freeL (z.cps.toList.drop (n - i)) * freeL (z.cps.toList.drop (n - i)) := by
        rw [hdr]
        rfl
      rw [goal]
      generalize freeL (z.cps.toList.drop (n - i)) = f at hf ⊢
      have hp : 2 ^ i ≤ 2 ^ 13 := Nat.pow_le_pow_right (by decide) (by omega)
      have hp1 : 0 < 2 ^ i := Nat.two_pow_pos i
      have h13 : 2 ^ 13 = 8192 := by decide
      refine rd_start (σ' := [some (.str z), some (.int (f : Int)), some (.str ⟨#[c]⟩)]) rfl ?_
      have ha : ((f : Int)).natAbs < 2 ^ (2 ^ i) := by rw [Int.natAbs_natCast]; exact hf
      walk_at "rds"
      refine rd_ite (fun c1 => ?_) (fun c1 => ?_)
      · walk_at "rds"
        refine rd_I (wide_mul (i := 2) (a := 2) (by decide) ha (by decide) hp1 (by omega)) ?_
        walk_at "rds"
        rw [if_pos c1]
        exact ⟨_, by rw [Int.natCast_mul] <;> rfl, rfl⟩
      · walk_at "rds"
        refine rd_I (wide_mul ha ha hp1 hp1 (by omega)) ?_
        walk_at "rds"
        rw [if_neg c1]
        exact ⟨_, by rw [Int.natCast_mul], rfl⟩
    · obtain ⟨x2, rfl, rfl⟩ := hP
      walk_at "rds"
      rw [hl, Nat.sub_self] at *
      exact q
end
end KA
set_option Elab.async false
set_option linter.all false
set_option maxRecDepth 100000
set_option maxHeartbeats 400000
set_option pp.maxSteps 300
namespace KA
open PySem PySem.Spec PyProof.Rows L2 Ea
abbrev scheck_size : Stmt := topS 10
theorem sccheck_size : FnScope ["sentence"] ["sentence"] (defScope scheck_size) :=
  ⟨rfl, rfl, rfl, by decide +kernel, rfl, by decide +kernel, by decide +kernel⟩
local macro_rules | `(tactic| walk_at "rd") => `(tactic| first
  | (with_reducible refine rd_seq ?_) | (with_reducible refine rd_asg ?_) | (with_reducible refine rd_if ?_) | (with_reducible refine rd_ret ?_) | (with_reducible refine rd_next ?_)
  | (with_reducible refine rd_drop ?_) | ((with_reducible refine rd_name (σ' := ?ss) ?hs ?_); (case hs => (dsimp only [List.set]; exact rfl)))
  | ((with_reducible refine rd_var (v := ?vv) ?hv ?_); (case hv => exact rfl)) | (with_reducible refine rd_c ?_) | (with_reducible refine rd_op ?_) | (with_reducible refine rd_un ?_)
  | (with_reducible refine rd_I0 ?_) | (with_reducible refine rd_U ?_) | (with_reducible refine rd_test ?_) | (with_reducible refine rd_B ?_) | (with_reducible refine rd_k ?_)
  | (with_reducible refine rd_not ?_) | (with_reducible refine rd_and ?_) | (with_reducible refine rd_or ?_) | (with_reducible refine rd_ifE ?_)
  | (with_reducible refine rd_par ?_) | ((with_reducible refine rd_par2 (σ' := ?ss) ?hs ?_); (case hs => (dsimp only [List.set]; exact rfl)))
  | (with_reducible refine rd_gsub ?_) | (with_reducible refine rd_andV ?_) | (with_reducible refine rd_orV ?_) | (with_reducible refine rd_notV ?_)
  | (with_reducible refine rd_lc ?_) | (with_reducible refine rd_iTup ?_) | (with_reducible refine rd_iList ?_) | (with_reducible refine rd_iRng1 ?_) | (with_reducible refine rd_iRng2 ?_) | (with_reducible refine rd_iEnumT ?_) | (with_reducible refine rd_iEnum ?_) | (with_reducible refine rd_iZipM ?_) | (with_reducible refine rd_iEnumS ?_) | (with_reducible refine rd_iKeys ?_) | (with_reducible refine rd_din ?_) | (with_reducible refine rd_dnotin ?_)
  | (with_reducible refine rd_yes ?_) | (with_reducible refine rd_true ?_) | (with_reducible refine rd_false ?_) | (with_reducible refine rd_m1 ?_) | (with_reducible refine rd_isS ?_)
  | ((with_reducible refine rd_eq ?hs ?_); (case hs => exact rfl)) | ((with_reducible refine rd_ne ?hs ?_); (case hs => exact rfl))
  | (with_reducible refine rd_listRg ?_) | (with_reducible refine rd_rg2 ?_) | (with_reducible refine rd_rgk ?_)
  | (with_reducible refine rd_dnew ?_) | (with_reducible refine rd_ddel ?_) | (with_reducible refine rd_kw ?_) | (with_reducible refine rd_callS ?_) | (with_reducible refine rd_dc ?_) | (with_reducible refine rd_for ?_) | (with_reducible refine rd_tru ?_) | (with_reducible refine rd_truI ?_)
  | (with_reducible refine rd_nil ?_) | (with_reducible refine rd_cons ?_) | (with_reducible refine rd_call ?_) | (with_reducible refine rd_cb ?_)
  | (with_reducible refine rd_tup ?_) | (with_reducible refine rd_lst ?_) | (with_reducible refine rd_dget ?_) | (with_reducible refine rd_dput ?_) | (with_reducible refine rd_dget2 ?_) | (with_reducible refine rd_sl ?_)
  | (with_reducible refine rd_nopart ?_) | (with_reducible refine rd_part ?_) | (with_reducible refine rd_parti ?_) | (with_reducible refine rd_bm ?_) | (with_reducible refine rd_bm0 ?_)
  | (with_reducible refine rd_int ?_) | (with_reducible refine rd_intb ?_) | (with_reducible refine rd_abs ?_) | (with_reducible refine rd_min2 ?_) | (with_reducible refine rd_max2 ?_))
local macro_rules | `(tactic| walk_at "rds") => `(tactic| repeat (walk_at "rd"))
local macro_rules | `(tactic| walk_at "rq") => `(tactic| first
  | (with_reducible refine rd_seq ?_) | (with_reducible refine rd_asg ?_) | (with_reducible refine rd_ret ?_) | (with_reducible refine rd_next ?_)
  | (with_reducible refine rd_drop ?_) | ((with_reducible refine rd_name (σ' := ?ss) ?hs ?_); (case hs => (dsimp only [List.set]; exact rfl)))
  | ((with_reducible refine rd_var (v := ?vv) ?hv ?_); (case hv => exact rfl)) | (with_reducible refine rd_c ?_) | (with_reducible refine rd_op ?_) | (with_reducible refine rd_un ?_)
  | (with_reducible refine rd_I0 ?_) | (with_reducible refine rd_U ?_) | (with_reducible refine rd_test ?_) | (with_reducible refine rd_B ?_) | (with_reducible refine rd_k ?_)
  | (with_reducible refine rd_not ?_) | (with_reducible refine rd_and ?_) | (with_reducible refine rd_or ?_) | (with_reducible refine rd_ifE ?_)
  | (with_reducible refine rd_par ?_) | ((with_reducible refine rd_par2 (σ' := ?ss) ?hs ?_); (case hs => (dsimp only [List.set]; exact rfl)))
  | (with_reducible refine rd_gsub ?_) | (with_reducible refine rd_andV ?_) | (with_reducible refine rd_orV ?_) | (with_reducible refine rd_notV ?_)
  | (with_reducible refine rd_lc ?_) | (with_reducible refine rd_iTup ?_) | (with_reducible refine rd_iList ?_) | (with_reducible refine rd_iRng1 ?_) | (with_reducible refine rd_iRng2 ?_) | (with_reducible refine rd_iEnumT ?_) | (with_reducible refine rd_iEnum ?_) | (with_reducible refine rd_iZipM ?_) | (with_reducible refine rd_iEnumS ?_) | (with_reducible refine rd_iKeys ?_) | (with_reducible refine rd_din ?_) | (with_reducible refine rd_dnotin ?_)
  | (with_reducible refine rd_yes ?_) | (with_reducible refine rd_true ?_) | (with_reducible refine rd_false ?_) | (with_reducible refine rd_m1 ?_) | (with_reducible refine rd_isS ?_)
  | ((with_reducible refine rd_eq ?hs ?_); (case hs => exact rfl)) | ((with_reducible refine rd_ne ?hs ?_); (case hs => exact rfl))
  | (with_reducible refine rd_listRg ?_) | (with_reducible refine rd_rg2 ?_) | (with_reducible refine rd_rgk ?_)
  | (with_reducible refine rd_dnew ?_) | (with_reducible refine rd_ddel ?_) | (with_reducible refine rd_kw ?_) | (with_reducible refine rd_callS ?_) | (with_reducible refine rd_dc ?_) | (with_reducible refine rd_for ?_) | (with_reducible refine rd_tru ?_) | (with_reducible refine rd_truI ?_)
  | (with_reducible refine rd_nil ?_) | (with_reducible refine rd_cons ?_) | (with_reducible refine rd_call ?_) | (with_reducible refine rd_cb ?_)
  | (with_reducible refine rd_tup ?_) | (with_reducible refine rd_lst ?_) | (with_reducible refine rd_dget ?_) | (with_reducible refine rd_dput ?_) | (with_reducible refine rd_dget2 ?_) | (with_reducible refine rd_sl ?_)
  | (with_reducible refine rd_nopart ?_) | (with_reducible refine rd_part ?_) | (with_reducible refine rd_parti ?_) | (with_reducible refine rd_bm ?_) | (with_reducible refine rd_bm0 ?_)
  | (with_reducible refine rd_int ?_) | (with_reducible refine rd_intb ?_) | (with_reducible refine rd_abs ?_) | (with_reducible refine rd_min2 ?_) | (with_reducible refine rd_max2 ?_))
local macro_rules | `(tactic| walk_at "rqs") => `(tactic| repeat (walk_at "rq"))
local macro_rules | `(tactic| walk_at "rv") => `(tactic| first
  | (with_reducible refine rd_seq ?_) | (with_reducible refine rd_asg ?_) | (with_reducible refine rd_ret ?_) | (with_reducible refine rd_next ?_)
  | (with_reducible refine rd_drop ?_) | ((with_reducible refine rd_name (σ' := ?ss) ?hs ?_); (case hs => (dsimp only [List.set]; exact rfl)))
  | ((with_reducible refine rd_var (v := ?vv) ?hv ?_); (case hv => exact rfl)) | (with_reducible refine rd_c ?_) | (with_reducible refine rd_op ?_) | (with_reducible refine rd_un ?_)
  | (with_reducible refine rd_I0 ?_) | (with_reducible refine rd_U ?_) | (with_reducible refine rd_test ?_) | (with_reducible refine rd_B ?_) | (with_reducible refine rd_k ?_)
  | (with_reducible refine rd_not ?_) | (with_reducible refine rd_and ?_) | (with_reducible refine rd_or ?_)
  | (with_reducible refine rd_par ?_) | ((with_reducible refine rd_par2 (σ' := ?ss) ?hs ?_); (case hs => (dsimp only [List.set]; exact rfl)))
  | (with_reducible refine rd_gsub ?_) | (with_reducible refine rd_andV ?_) | (with_reducible refine rd_orV ?_) | (with_reducible refine rd_notV ?_)
  | (with_reducible refine rd_lc ?_) | (with_reducible refine rd_iTup ?_) | (with_reducible refine rd_iList ?_) | (with_reducible refine rd_iRng1 ?_) | (with_reducible refine rd_iRng2 ?_) | (with_reducible refine rd_iEnumT ?_) | (with_reducible refine rd_iEnum ?_) | (with_reducible refine rd_iZipM ?_) | (with_reducible refine rd_iEnumS ?_) | (with_reducible refine rd_iKeys ?_) | (with_reducible refine rd_din ?_) | (with_reducible refine rd_dnotin ?_)
  | (with_reducible refine rd_yes ?_) | (with_reducible refine rd_true ?_) | (with_reducible refine rd_false ?_) | (with_reducible refine rd_m1 ?_) | (with_reducible refine rd_isS ?_)
  | ((with_reducible refine rd_eq ?hs ?_); (case hs => exact rfl)) | ((with_reducible refine rd_ne ?hs ?_); (case hs => exact rfl))
  | (with_reducible refine rd_listRg ?_) | (with_reducible refine rd_rg2 ?_) | (with_reducible refine rd_rgk ?_)
  | (with_reducible refine rd_dnew ?_) | (with_reducible refine rd_ddel ?_) | (with_reducible refine rd_kw ?_) | (with_reducible refine rd_callS ?_) | (with_reducible refine rd_dc ?_) | (with_reducible refine rd_for ?_) | (with_reducible refine rd_tru ?_) | (with_reducible refine rd_truI ?_)
  | (with_reducible refine rd_nil ?_) | (with_reducible refine rd_cons ?_) | (with_reducible refine rd_call ?_) | (with_reducible refine rd_cb ?_)
  | (with_reducible refine rd_tup ?_) | (with_reducible refine rd_lst ?_) | (with_reducible refine rd_dget ?_) | (with_reducible refine rd_dput ?_) | (with_reducible refine rd_dget2 ?_) | (with_reducible refine rd_sl ?_)
  | (with_reducible refine rd_nopart ?_) | (with_reducible refine rd_part ?_) | (with_reducible refine rd_parti ?_) | (with_reducible refine rd_bm ?_) | (with_reducible refine rd_bm0 ?_)
  | (with_reducible refine rd_int ?_) | (with_reducible refine rd_intb ?_) | (with_reducible refine rd_abs ?_) | (with_reducible refine rd_min2 ?_) | (with_reducible refine rd_max2 ?_))
local macro_rules | `(tactic| walk_at "rvs") => `(tactic| repeat (walk_at "rv"))

/-- TooMany -/
structure TooC (K : PySem.W.Frag) (mg : Str → Option Value) (C fI : Addr) (fdI : FuncData) : Prop where
  T : OexC K C
  iC : PySem.W.findIn K (.ref C) "__init__" = some (some (.ref fI))
  tI : PySem.W.typeIn K (.ref fI) = some (.type "function")
  m : mg "TooMany" = some (.ref C)
  b : Binds K fdI ["self", "limit"] []
/-- what is let out where there are too many -/
def OutM (C : Addr) (H : Hp) (E : XK) : Prop := ∀ (dd : Addr) (H' : Hp), Evl.Ex H H' → H dd = none → H' dd = some (.xd [("limit", .int 12)]) → E (.ref C) (some dd) H'
theorem OutM.ex {C : Addr} {H H1 : Hp} {E : XK} (e : Evl.Ex H H1) (h : OutM C H E) : OutM C H1 E := fun dd H' e' hd hx => h dd H' (e.trans e') (by
  cases q : H dd with
  | none => rfl
  | some o =>
    rw [e _ _ q] at hd
    cases hd) hx
section
variable {P : Program} {w : World} {K : PySem.W.Frag} {mg : Str → Option Value} {base : Heap}
def spSize (K : PySem.W.Frag) (C : Addr) : Sp := fun vs H Q E => ∃ (a c : Addr) (z : Str) (n : Nat), vs = [.ref a] ∧ SqT K H a [.str z, .ref c] ∧ OwnS n z ∧ n ≤ 60 ∧ (n ≤ 12 → Q .non H) ∧ (12 < n → OutM C H E)
theorem ok_size {f C fI : Addr} {fd fdI : FuncData} (F : Fun K "check_size" "check_size" scheck_size f fd) (T : Bl mg) (OTooMany : TooC K mg C fI fdI)
    (OITooMany : FnOk P w K mg base CX0 1 fI fdI ["self", "limit"] (spSup C "limit")) (mMS : ∃ u, mg "MAX_SEARCH" = some u ∧ RelV (.int 12) u) :
    FnOk P w K mg base (L2.CX P w) 3 f fd ["sentence"] (spSize K C) := by
  refine F.okX sccheck_size (fun vs H Q E h => ?_) (fun cdv A outer s H vs Q E hr h => ?_)
  · obtain ⟨a, c, z, n, rfl, _⟩ := h
    rfl
  · obtain ⟨a, c, z, n, rfl, ha, hz, hn, q1, q2⟩ := h
    refine ⟨_, (pss_one (ps_if (pt_cmpR op_gt (pe_callB c_lenS (by rfl) T.len (by decide +kernel) (pa_cons (pe_ix (ik_tup (K := K) rfl) (pv 0) pe_int (fun _ _ => rfl)) pa_nil)) (C8.pe_gc (v := .int 12) (by rfl) mMS) (nomark _)) (pss_one (ps_raise rfl (takes_of rfl rfl rfl rfl) (pmk_oex OTooMany.T OTooMany.iC OTooMany.tI OITooMany (hr.mono (by decide)) OTooMany.b .nil pass0 (by rfl) OTooMany.m (pa_cons (C8.pe_gc (v := .int 12) (by rfl) mMS) pa_nil)))) pss_nil)), ?_⟩
    refine rd_start (σ' := [some (.ref a)]) rfl ?_
    walk_at "rds"
    refine rd_ixT ha rfl ?_
    walk_at "rds"
    refine rd_lenS (by rw [hz.1, sizeLine_eq]; omega) ?_
    rw [hz.1]
    walk_at "rds"
    refine rd_ite (fun c => ?_) (fun c => ?_)
    · walk_at "rds"
      show tMkO C (spSup C "limit") [] _ _ _ _
      unfold tMkO
      walk_at "rds"
      refine ⟨by show 1 ≤ 1000; decide, fun e he => ?_⟩
      refine ⟨e, .int 12, rfl, upd_same, fun dx hdx hne => ⟨rfl, dx, [("limit", .int 12)], upd_same, (upd_ne hne).trans upd_same, ?_, ?_⟩⟩
      · rw [upd_ne hne] at hdx
        exact hdx
      · rw [upd_ne hne] at hdx
        refine q2 (by omega) dx _ (fun b o q => ?_) hdx upd_same
        have b1 : b ≠ dx := ne_of_none q hdx
        have b2 : b ≠ e := ne_of_none q he
        rw [upd_ne b1, del_ne b2, upd_ne b2, upd_ne b1, upd_ne b2]
        exact q
    · walk_at "rds"
      exact q1 (by omega)
end
end KA
set_option Elab.async false
set_option linter.all false
set_option maxRecDepth 100000
set_option maxHeartbeats 400000
set_option pp.maxSteps 300
namespace KA
open PySem PySem.Spec PyProof.Rows L2 Ea
abbrev s_law_ends : Stmt := topS 29
theorem sc_law_ends : FnScope ["owners", "rows", "play", "left", "row", "rest", "at", "one", "two", "x"] ["owners", "rows", "play"] (defScope s_law_ends) :=
  ⟨rfl, rfl, rfl, by decide +kernel, rfl, by decide +kernel, by decide +kernel⟩
local macro_rules | `(tactic| walk_at "rd") => `(tactic| first
  | (with_reducible refine rd_seq ?_) | (with_reducible refine rd_asg ?_) | (with_reducible refine rd_if ?_) | (with_reducible refine rd_ret ?_) | (with_reducible refine rd_next ?_)
  | (with_reducible refine rd_drop ?_) | ((with_reducible refine rd_name (σ' := ?ss) ?hs ?_); (case hs => (dsimp only [List.set]; exact rfl)))
  | ((with_reducible refine rd_var (v := ?vv) ?hv ?_); (case hv => exact rfl)) | (with_reducible refine rd_c ?_) | (with_reducible refine rd_op ?_) | (with_reducible refine rd_un ?_)
  | (with_reducible refine rd_I0 ?_) | (with_reducible refine rd_U ?_) | (with_reducible refine rd_test ?_) | (with_reducible refine rd_B ?_) | (with_reducible refine rd_k ?_)
  | (with_reducible refine rd_not ?_) | (with_reducible refine rd_and ?_) | (with_reducible refine rd_or ?_) | (with_reducible refine rd_ifE ?_)
  | (with_reducible refine rd_par ?_) | ((with_reducible refine rd_par2 (σ' := ?ss) ?hs ?_); (case hs => (dsimp only [List.set]; exact rfl)))
  | (with_reducible refine rd_gsub ?_) | (with_reducible refine rd_andV ?_) | (with_reducible refine rd_orV ?_) | (with_reducible refine rd_notV ?_)
  | (with_reducible refine rd_lc ?_) | (with_reducible refine rd_iTup ?_) | (with_reducible refine rd_iList ?_) | (with_reducible refine rd_iRng1 ?_) | (with_reducible refine rd_iRng2 ?_) | (with_reducible refine rd_iEnumT ?_) | (with_reducible refine rd_iEnum ?_) | (with_reducible refine rd_iZipM ?_) | (with_reducible refine rd_iEnumS ?_) | (with_reducible refine rd_iKeys ?_) | (with_reducible refine rd_din ?_) | (with_reducible refine rd_dnotin ?_)
  | (with_reducible refine rd_yes ?_) | (with_reducible refine rd_true ?_) | (with_reducible refine rd_false ?_) | (with_reducible refine rd_m1 ?_) | (with_reducible refine rd_isS ?_)
  | ((with_reducible refine rd_eq ?hs ?_); (case hs => exact rfl)) | ((with_reducible refine rd_ne ?hs ?_); (case hs => exact rfl))
  | (with_reducible refine rd_listRg ?_) | (with_reducible refine rd_rg2 ?_) | (with_reducible refine rd_rgk ?_)
  | (with_reducible refine rd_dnew ?_) | (with_reducible refine rd_ddel ?_) | (with_reducible refine rd_kw ?_) | (with_reducible refine rd_callS ?_) | (with_reducible refine rd_dc ?_) | (with_reducible refine rd_for ?_) | (with_reducible refine rd_tru ?_) | (with_reducible refine rd_truI ?_)
  | (with_reducible refine rd_nil ?_) | (with_reducible refine rd_cons ?_) | (with_reducible refine rd_call ?_) | (with_reducible refine rd_cb ?_)
  | (with_reducible refine rd_tup ?_) | (with_reducible refine rd_lst ?_) | (with_reducible refine rd_dget ?_) | (with_reducible refine rd_dput ?_) | (with_reducible refine rd_dget2 ?_) | (with_reducible refine rd_sl ?_)
  | (with_reducible refine rd_nopart ?_) | (with_reducible refine rd_part ?_) | (with_reducible refine rd_parti ?_) | (with_reducible refine rd_bm ?_) | (with_reducible refine rd_bm0 ?_)
  | (with_reducible refine rd_int ?_) | (with_reducible refine rd_intb ?_) | (with_reducible refine rd_abs ?_) | (with_reducible refine rd_min2 ?_) | (with_reducible refine rd_max2 ?_))
local macro_rules | `(tactic| walk_at "rds") => `(tactic| repeat (walk_at "rd"))
local macro_rules | `(tactic| walk_at "rq") => `(tactic| first
  | (with_reducible refine rd_seq ?_) | (with_reducible refine rd_asg ?_) | (with_reducible refine rd_ret ?_) | (with_reducible refine rd_next ?_)
  | (with_reducible refine rd_drop ?_) | ((with_reducible refine rd_name (σ' := ?ss) ?hs ?_); (case hs => (dsimp only [List.set]; exact rfl)))
  | ((with_reducible refine rd_var (v := ?vv) ?hv ?_); (case hv => exact rfl)) | (with_reducible refine rd_c ?_) | (with_reducible refine rd_op ?_) | (with_reducible refine rd_un ?_)
  | (with_reducible refine rd_I0 ?_) | (with_reducible refine rd_U ?_) | (with_reducible refine rd_test ?_) | (with_reducible refine rd_B ?_) | (with_reducible refine rd_k ?_)
  | (with_reducible refine rd_not ?_) | (with_reducible refine rd_and ?_) | (with_reducible refine rd_or ?_) | (with_reducible refine rd_ifE ?_)
  | (with_reducible refine rd_par ?_) | ((with_reducible refine rd_par2 (σ' := ?ss) ?hs ?_); (case hs => (dsimp only [List.set]; exact rfl)))
  | (with_reducible refine rd_gsub ?_) | (with_reducible refine rd_andV ?_) | (with_reducible refine rd_orV ?_) | (with_reducible refine rd_notV ?_)
  | (with_reducible refine rd_lc ?_) | (with_reducible refine rd_iTup ?_) | (with_reducible refine rd_iList ?_) | (with_reducible refine rd_iRng1 ?_) | (with_reducible refine rd_iRng2 ?_) | (with_reducible refine rd_iEnumT ?_) | (with_reducible refine rd_iEnum ?_) | (with_reducible refine rd_iZipM ?_) | (with_reducible refine rd_iEnumS ?_) | (with_reducible refine rd_iKeys ?_) | (with_reducible refine rd_din ?_) | (with_reducible refine rd_dnotin ?_)
  | (with_reducible refine rd_yes ?_) | (with_reducible refine rd_true ?_) | (with_reducible refine rd_false ?_) | (with_reducible refine rd_m1 ?_) | (with_reducible refine rd_isS ?_)
  | ((with_reducible refine rd_eq ?hs ?_); (case hs => exact rfl)) | ((with_reducible refine rd_ne ?hs ?_); (case hs => exact rfl))
  | (with_reducible refine rd_listRg ?_) | (with_reducible refine rd_rg2 ?_) | (with_reducible refine rd_rgk ?_)
  | (with_reducible refine rd_dnew ?_) | (with_reducible refine rd_ddel ?_) | (with_reducible refine rd_kw ?_) | (with_reducible refine rd_callS ?_) | (with_reducible refine rd_dc ?_) | (with_reducible refine rd_for ?_) | (with_reducible refine rd_tru ?_) | (with_reducible refine rd_truI ?_)
  | (with_reducible refine rd_nil ?_) | (with_reducible refine rd_cons ?_) | (with_reducible refine rd_call ?_) | (with_reducible refine rd_cb ?_)
  | (with_reducible refine rd_tup ?_) | (with_reducible refine rd_lst ?_) | (with_reducible refine rd_dget ?_) | (with_reducible refine rd_dput ?_) | (with_reducible refine rd_dget2 ?_) | (with_reducible refine rd_sl ?_)
  | (with_reducible refine rd_nopart ?_) | (with_reducible refine rd_part ?_) | (with_reducible refine rd_parti ?_) | (with_reducible refine rd_bm ?_) | (with_reducible refine rd_bm0 ?_)
  | (with_reducible refine rd_int ?_) | (with_reducible refine rd_intb ?_) | (with_reducible refine rd_abs ?_) | (with_reducible refine rd_min2 ?_) | (with_reducible refine rd_max2 ?_))
local macro_rules | `(tactic| walk_at "rqs") => `(tactic| repeat (walk_at "rq"))
local macro_rules | `(tactic| walk_at "rv") => `(tactic| first
  | (with_reducible refine rd_seq ?_) | (with_reducible refine rd_asg ?_) | (with_reducible refine rd_ret ?_) | (with_reducible refine rd_next ?_)
  | (with_reducible refine rd_drop ?_) | ((with_reducible refine rd_name (σ' := ?ss) ?hs ?_); (case hs => (dsimp only [List.set]; exact rfl)))
  | ((with_reducible refine rd_var (v := ?vv) ?hv ?_); (case hv => exact rfl)) | (with_reducible refine rd_c ?_) | (with_reducible refine rd_op ?_) | (with_reducible refine rd_un ?_)
  | (with_reducible refine rd_I0 ?_) | (with_reducible refine rd_U ?_) | (with_reducible refine rd_test ?_) | (with_reducible refine rd_B ?_) | (with_reducible refine rd_k ?_)
  | (with_reducible refine rd_not ?_) | (with_reducible refine rd_and ?_) | (with_reducible refine rd_or ?_)
  | (with_reducible refine rd_par ?_) | ((with_reducible refine rd_par2 (σ' := ?ss) ?hs ?_); (case hs => (dsimp only [List.set]; exact rfl)))
  | (with_reducible refine rd_gsub ?_) | (with_reducible refine rd_andV ?_) | (with_reducible refine rd_orV ?_) | (with_reducible refine rd_notV ?_)
  | (with_reducible refine rd_lc ?_) | (with_reducible refine rd_iTup ?_) | (with_reducible refine rd_iList ?_) | (with_reducible refine rd_iRng1 ?_) | (with_reducible refine rd_iRng2 ?_) | (with_reducible refine rd_iEnumT ?_) | (with_reducible refine rd_iEnum ?_) | (with_reducible refine rd_iZipM ?_) | (with_reducible refine rd_iEnumS ?_) | (with_reducible refine rd_iKeys ?_) | (with_reducible refine rd_din ?_) | (with_reducible refine rd_dnotin ?_)
  | (with_reducible refine rd_yes ?_) | (with_reducible refine rd_true ?_) | (with_reducible refine rd_false ?_) | (with_reducible refine rd_m1 ?_) | (with_reducible refine rd_isS ?_)
  | ((with_reducible refine rd_eq ?hs ?_); (case hs => exact rfl)) | ((with_reducible refine rd_ne ?hs ?_); (case hs => exact rfl))
  | (with_reducible refine rd_listRg ?_) | (with_reducible refine rd_rg2 ?_) | (with_reducible refine rd_rgk ?_)
  | (with_reducible refine rd_dnew ?_) | (with_reducible refine rd_ddel ?_) | (with_reducible refine rd_kw ?_) | (with_reducible refine rd_callS ?_) | (with_reducible refine rd_dc ?_) | (with_reducible refine rd_for ?_) | (with_reducible refine rd_tru ?_) | (with_reducible refine rd_truI ?_)
  | (with_reducible refine rd_nil ?_) | (with_reducible refine rd_cons ?_) | (with_reducible refine rd_call ?_) | (with_reducible refine rd_cb ?_)
  | (with_reducible refine rd_tup ?_) | (with_reducible refine rd_lst ?_) | (with_reducible refine rd_dget ?_) | (with_reducible refine rd_dput ?_) | (with_reducible refine rd_dget2 ?_) | (with_reducible refine rd_sl ?_)
  | (with_reducible refine rd_nopart ?_) | (with_reducible refine rd_part ?_) | (with_reducible refine rd_parti ?_) | (with_reducible refine rd_bm ?_) | (with_reducible refine rd_bm0 ?_)
  | (with_reducible refine rd_int ?_) | (with_reducible refine rd_intb ?_) | (with_reducible refine rd_abs ?_) | (with_reducible refine rd_min2 ?_) | (with_reducible refine rd_max2 ?_))
local macro_rules | `(tactic| walk_at "rvs") => `(tactic| repeat (walk_at "rv"))

theorem rd_unl2 {K : PySem.W.Frag} {σ σ' : L2.St} {H : Hp} {p : Addr} {x y : V} {n i j : Nat} {N : L2.St → Hp → Prop} (s : SqL K H p [x, y]) (hn : n = 2) (hs : (σ.set i (some x)).set j (some y) = σ') (h : N σ' H) :
    gUnl K n (gCons (gName i) (gCons (gName j) gNil)) (.ref p) σ H N := ⟨p, [x, y], rfl, s, hn.symm, x, [y], rfl, y, [], rfl, rfl, by subst hs; exact h⟩
/-- what is asked of rows behind a play -/
def askedF (p : List Int) (rs : List (List Int)) : List (List Int) := (rs.filter fun r => !r.any (trueIn p)).map fun r => r.filter (openIn p)
/-- a play: the letters from 1 on -/
def PlayOk (p : List Int) : Prop := ∀ i x, p[i]? = some x → x.natAbs = i + 1
theorem PlayOk.take {p : List Int} (h : PlayOk p) (k : Nat) : PlayOk (p.take k) := fun i x e => by
  rw [List.getElem?_take] at e
  split at e
  · exact h i x e
  · cases e
theorem PlayOk.mem {p : List Int} (h : PlayOk p) {x : Int} (h1 : 1 ≤ x.natAbs) : decide (x ∈ p) = trueIn p x := by
  unfold trueIn
  by_cases c : x ∈ p
  · obtain ⟨i, hi⟩ := List.mem_iff_getElem?.mp c
    have e := h i x hi
    have hl := (List.getElem?_eq_some_iff.mp hi).1
    rw [decide_eq_true c, decide_eq_true (by omega), List.getD_eq_getElem?_getD, show x.natAbs - 1 = i by omega, hi]
    exact (decide_eq_true rfl).symm
  · rw [decide_eq_false c]
    by_cases c2 : x.natAbs ≤ p.length
    · rw [decide_eq_true c2, Bool.true_and]
      refine (decide_eq_false fun e => c ?_).symm
      rw [List.getD_eq_getElem?_getD, List.getElem?_eq_getElem (by omega), Option.getD_some] at e
      exact e ▸ List.getElem_mem _
    · rw [decide_eq_false c2, Bool.false_and]
theorem PlayOk.neg {p : List Int} (h : PlayOk p) {x : Int} (h1 : 1 ≤ x.natAbs) (hx : trueIn p x = false) : decide (-x ∈ p) = !openIn p x := by
  rw [h.mem (x := -x) (by rw [Int.natAbs_neg]; exact h1)]
  unfold trueIn openIn at *
  rw [Int.natAbs_neg]
  by_cases c : x.natAbs ≤ p.length
  · rw [decide_eq_true c, Bool.true_and] at hx ⊢
    have e0 : p.getD (x.natAbs - 1) 0 ≠ x := of_decide_eq_false hx
    have e1 : (p.getD (x.natAbs - 1) 0).natAbs = x.natAbs := by
      have := h (x.natAbs - 1) (p.getD (x.natAbs - 1) 0) (by rw [List.getD_eq_getElem?_getD, List.getElem?_eq_getElem (by omega)]; rfl)
      omega
    rw [decide_eq_true (by omega), decide_eq_false (p := p.length < x.natAbs) (by omega)] <;> rfl
  · rw [decide_eq_false c, Bool.false_and, decide_eq_true (p := p.length < x.natAbs) (by omega)] <;> rfl
theorem PlayOk.snoc {p : List Int} (h : PlayOk p) {x : Int} (e : x.natAbs = p.length + 1) : PlayOk (p ++ [x]) := fun i y hi => by
  rw [List.getElem?_append] at hi
  split at hi
  · exact h i y hi
  · next c =>
    have : i - p.length = 0 := by
      by_cases z : i - p.length = 0
      · exact z
      · rw [List.getElem?_eq_none (by show 1 ≤ i - p.length; omega)] at hi
        cases hi
    rw [this] at hi
    obtain rfl : x = y := Option.some.inj hi
    omega
theorem filter_none {α : Type} {f : α → Bool} {l : List α} : (l.filter f).isEmpty = !l.any f := by
  induction l with
  | nil => rfl
  | cons x t ih =>
    rw [List.filter_cons, List.any_cons]
    cases f x with
    | true => rfl
    | false =>
      rw [if_neg (by decide), ih, Bool.false_or]
theorem own_drop {z : Str} {k n : Nat} (h : OwnS n z) (hk : k ≤ n) : OwnS (n - k) (cutS z (some (k : Int)) none) := by
  have e1 : HT.sIx z.length 0 (some (k : Int)) = min k z.length := HT.sIx_nat _ _ _
  have e2 : HT.sIx z.length z.length none = z.length := HT.sIx_none _ _
  have e4 : z.length = n := h.1
  have e3 : z.cps.toList.length = n := h.1
  refine ⟨?_, fun c hc => h.2 c ?_⟩
  · show (cutS z (some (k : Int)) none).cps.size = n - k
    unfold cutS
    rw [e1, e2, List.size_toArray, List.length_take, List.length_drop, e3, e4]
    omega
  · unfold cutS at hc
    rw [List.toList_toArray] at hc
    exact List.mem_of_mem_drop (List.mem_of_mem_take hc)
theorem askedF_row {n : Nat} {p : List Int} {rs : List (List Int)} (h : ∀ r ∈ rs, Row n r) : ∀ r ∈ askedF p rs, Row n r := fun r hr => by
  obtain ⟨s, hs, rfl⟩ := List.mem_map.mp hr
  exact (h s (List.mem_filter.mp hs).1).sub List.filter_sublist
theorem askedF_from {n : Nat} {p : List Int} {rs : List (List Int)} (h : ∀ r ∈ rs, Row n r) : From n ((p.length : Int) + 1) (askedF p rs) := fun r hr => by
  obtain ⟨s, hs, rfl⟩ := List.mem_map.mp hr
  have hrow := h s (List.mem_filter.mp hs).1
  refine ⟨hrow.1.sublist List.filter_sublist, fun x hx => ?_⟩
  obtain ⟨h1, h2⟩ := List.mem_filter.mp hx
  have h2 : p.length < x.natAbs := of_decide_eq_true h2
  exact ⟨by omega, (hrow.2 x h1).2⟩
theorem askedF_len (p : List Int) (rs : List (List Int)) : (askedF p rs).length ≤ rs.length := by
  unfold askedF
  rw [List.length_map]
  exact List.length_filter_le _ _
/-- one letter more -/
theorem askedF_snoc {n : Nat} {p : List Int} {lit : Int} {rs : List (List Int)} (hl : lit.natAbs = p.length + 1) (h : From n ((p.length : Int) + 1) rs) (hne : [] ∉ rs) : askedF (p ++ [lit]) rs = beh lit rs := by
  have t1 : ∀ x : Int, p.length + 1 ≤ x.natAbs → trueIn (p ++ [lit]) x = decide (x = lit) := fun x hx => by
    unfold trueIn
    rw [List.length_append, List.length_singleton]
    by_cases c : x.natAbs = p.length + 1
    · rw [decide_eq_true (by omega), Bool.true_and, List.getD_eq_getElem?_getD, c, List.getElem?_append_right (by omega)]
      have : p.length + 1 - 1 - p.length = 0 := by omega
      rw [this]
      exact decide_eq_decide.mpr ⟨fun e => e.symm, fun e => e.symm⟩
    · rw [decide_eq_false (by omega), Bool.false_and]
      exact (decide_eq_false fun e => c (by rw [e]; exact hl)).symm
  have o1 : ∀ x : Int, openIn (p ++ [lit]) x = decide (p.length + 1 < x.natAbs) := fun x => by
    unfold openIn
    rw [List.length_append, List.length_singleton]
  unfold askedF beh
  have hmap : ∀ r ∈ rs, (!r.any (trueIn (p ++ [lit]))) = nextF lit r ∧ (nextF lit r = true → r.filter (openIn (p ++ [lit])) = nextG lit r) := fun r hr => by
    obtain ⟨hp, hx⟩ := h r hr
    cases r with
    | nil => exact absurd hr hne
    | cons y t =>
      have hy := hx y List.mem_cons_self
      have ht : ∀ x ∈ t, p.length + 1 < x.natAbs := fun x hm => by
        have := (List.pairwise_cons.mp hp).1 x hm
        omega
      have a1 : (y :: t).any (trueIn (p ++ [lit])) = decide (y = lit) := by
        rw [List.any_cons, t1 y (by omega)]
        have : t.any (trueIn (p ++ [lit])) = false := List.any_eq_false.mpr fun x hm => by
          rw [t1 x (by have := ht x hm; omega), decide_eq_true_eq]
          intro e
          have := ht x hm
          rw [e] at this
          omega
        rw [this, Bool.or_false]
      refine ⟨?_, fun hn => ?_⟩
      · rw [a1] <;> rfl
      · have hn : (!decide (y = lit)) = true := hn
        have hyl : y ≠ lit := by simpa using hn
        have ft : t.filter (openIn (p ++ [lit])) = t := List.filter_eq_self.mpr fun x hm => by
          rw [o1]
          exact decide_eq_true (ht x hm)
        show (y :: t).filter (openIn (p ++ [lit])) = if y = -lit then t else y :: t
        rw [List.filter_cons, o1, ft]
        by_cases c : y = -lit
        · rw [if_pos c, if_neg (by rw [decide_eq_true_eq, c, Int.natAbs_neg]; omega)]
        · have : p.length + 1 < y.natAbs := by
            have h1 := hy.1
            by_cases z : y.natAbs = p.length + 1
            · exfalso
              have : y.natAbs = lit.natAbs := by omega
              rcases Int.natAbs_eq_natAbs_iff.mp this with e | e
              · exact hyl e
              · exact c e
            · omega
          rw [if_neg c, if_pos (decide_eq_true this)]
  rw [List.filter_congr fun r hr => (hmap r hr).1]
  exact List.map_congr_left fun r hr => (hmap r (List.mem_filter.mp hr).1).2 (List.mem_filter.mp hr).2
def whoT (b : Bool) : Str := if b = true then "some" else "each"
theorem inV_who (b1 b2 : Bool) : inV (.str (Str.ofString "some")) [.str (whoT b1), .str (whoT b2)] = (b1 || b2) := by
  cases b1 <;> cases b2 <;> decide +kernel
theorem who_ne : ¬ V.str (whoT true) = V.str (whoT false) := by decide
theorem who_lit {b : Bool} {σ : L2.St} {H : Hp} {Q : VK} (h : Q (.str (whoT b)) H) : if b = true then tC (.str (Str.ofString "some")) σ H Q else tC (.str (Str.ofString "each")) σ H Q := by
  cases b <;> exact h
theorem cutS_drop {z : Str} {k : Nat} : (cutS z (some (k : Int)) none).cps.toList = z.cps.toList.drop k := by
  have e1 : HT.sIx z.length 0 (some (k : Int)) = min k z.length := HT.sIx_nat _ _ _
  have e2 : HT.sIx z.length z.length none = z.length := HT.sIx_none _ _
  have e3 : z.cps.toList.length = z.length := rfl
  unfold cutS
  rw [e1, e2, List.toList_toArray]
  by_cases c : k ≤ z.length
  · rw [Nat.min_eq_left c]
    exact List.take_of_length_le (by rw [List.length_drop]; omega)
  · rw [Nat.min_eq_right (by omega), List.drop_eq_nil_of_le (by omega), List.drop_eq_nil_of_le (by omega), List.take_nil]
section
variable {P : Program} {w : World} {K : PySem.W.Frag} {mg : Str → Option Value} {base : Heap}
/-- what is told of a play: who wins, how many ways -/
def EndT (K : PySem.W.Frag) (H : Hp) (n : Nat) (z : Str) (p : List Int) (rs : List (List Int)) (v : V) : Prop :=
  ∃ (q : Addr) (cnt : Nat), v = .ref q ∧ cnt = wayR z (n - p.length) ((p.length : Int) + 1) (askedF p rs) ∧ SqT K H q [.str (whoT (winR z (n - p.length) ((p.length : Int) + 1) (askedF p rs))), .int (cnt : Int)]
theorem EndT.ex {H H' : Hp} {n : Nat} {z : Str} {p : List Int} {rs : List (List Int)} {v : V} (e : Evl.Ex H H') (h : EndT K H n z p rs v) : EndT K H' n z p rs v := by
  obtain ⟨q, cnt, h1, h2, h3⟩ := h
  exact ⟨q, cnt, h1, h2, Evl.ex_t e h3⟩
def spEndsL (K : PySem.W.Frag) (M : Nat) : Sp := fun vs H Q _ => ∃ (z : Str) (a b : Addr) (n : Nat) (xs : List V) (rs : List (List Int)) (p : List Int), vs = [.str z, .ref a, .ref b] ∧ OwnS n z ∧ n ≤ 12 ∧ SqL K H a xs ∧ DpAll K H xs (rs.map dR) ∧ (∀ r ∈ rs, Row n r) ∧ rs.length ≤ 1000 ∧
  SqT K H b (p.map V.int) ∧ PlayOk p ∧ p.length ≤ n ∧ n - p.length < M ∧ ∀ (v : V) (H' : Hp), Evl.Ex H H' → EndT K H' n z p rs v → Q v H'
def spEndsT (K : PySem.W.Frag) (M : Nat) : Sp := fun vs H Q _ => ∃ (z : Str) (a b : Addr) (n : Nat) (xs : List V) (rs : List (List Int)) (p : List Int), vs = [.str z, .ref a, .ref b] ∧ OwnS n z ∧ n ≤ 12 ∧ SqT K H a xs ∧ DpAll K H xs (rs.map dR) ∧ (∀ r ∈ rs, Row n r) ∧ rs.length ≤ 1000 ∧
  SqT K H b (p.map V.int) ∧ PlayOk p ∧ p.length ≤ n ∧ n - p.length < M ∧ ∀ (v : V) (H' : Hp), Evl.Ex H H' → EndT K H' n z p rs v → Q v H'
theorem ok_ends1 {f fF : Addr} {fd fdF : FuncData} (F : Fun K "_law_ends" "_law_ends" s_law_ends f fd) (T : Bl mg) {M k : Nat} (hk : 1 ≤ k)
    (G_law_free : FnOk P w K mg base CX0 1 fF fdF ["owners"] (spFree K)) (C_law_free : Callee K mg "_law_free" fF fdF ["owners"])
    (G_law_ends : FnOk P w K mg base CX0 k f fd ["owners", "rows", "play"] (spEndsL K M)) (C_law_ends : Callee K mg "_law_ends" f fd ["owners", "rows", "play"]) :
    FnOk P w K mg base CX0 (k + 1) f fd ["owners", "rows", "play"] (spEndsL K (M + 1)) := by
  refine F.ok sc_law_ends (fun vs H Q E h => ?_) (fun cdv A outer s H vs Q E hr h => ?_)
  · obtain ⟨z, a, b, n, xs, rs, p, rfl, _⟩ := h
    rfl
  · obtain ⟨z, a, b, n, xs, rs, p, rfl, hz, hn, ha, hd, hrow, hl, hb, hp, pl, hM, q⟩ := h
    have hr1 : Room k (A.deeper (envOfC (Str.ofString "_law_ends") (defScope s_law_ends) s.heap.objs.size f cdv)) := hr
    have hr0 : Room 1 (A.deeper (envOfC (Str.ofString "_law_ends") (defScope s_law_ends) s.heap.objs.size f cdv)) := hr.mono hk
    refine ⟨_, (pss_cons (ps_set (i := 3) sc_law_ends.nd rfl (Or.inr rfl) (pe_lst pa_nil))
 (pss_cons (ps_for PassesOwn.never rfl (ik_listI (K := K) rfl (pv 1)) (pg_name (i := 4) sc_law_ends.nd rfl (Or.inl rfl)) (pss_one (ps_if (pt_cmpR (ok_eqD (K := K) rfl hr.units) (pe_lc (own := [("x", 9)]) (g := gName 9) rfl sc_law_ends.nd (ik_tupI (K := K) rfl (pv 4)) (blkOk_by (own := [("x", 9)]) (N := ["owners", "rows", "play", "left", "row", "rest", "at", "one", "two", "x"]) (sc := defScope s_law_ends) (by decide +kernel)) (fun _ _ _ _ _ => (pg_name (i := 9) sc_law_ends.nd rfl (Or.inl rfl))) (fun _ _ _ _ _ => (pts_one (pt_cmpR (ok_in (K := K) rfl) (pv 9) (pv 2) (by rfl)))) (fun _ _ _ _ _ => (pv 9))) (pe_lst pa_nil) (nomark _)) (pss_cons (ps_setLc (i := 5) (own := [("x", 9)]) (g := gName 9) rfl sc_law_ends.nd rfl rfl (sw_true rfl rfl rfl (by decide +kernel)) (ik_tupI (K := K) rfl (pv 4)) (blkOk_by (own := [("x", 9)]) (N := ["owners", "rows", "play", "left", "row", "rest", "at", "one", "two", "x"]) (sc := defScope s_law_ends) (by decide +kernel)) (fun _ _ _ _ _ => (pg_name (i := 9) sc_law_ends.nd rfl (Or.inl rfl))) (fun _ _ _ _ _ => (pts_one (pt_cmpR (ok_notIn (K := K) rfl) (pe_un un_neg (pv 9)) (pv 2) (by rfl)))) (fun _ _ _ _ _ => (pv 9)))
 (pss_cons (ps_if (pt_cmpR (ok_eqD (K := K) rfl hr.units) (pv 5) (pe_lst pa_nil) (nomark _)) (pss_one (ps_ret (pe_tup (pa_cons pe_str (pa_cons pe_int pa_nil))))) pss_nil)
 (pss_one (ps_expr (pe_bm PySem.F.plainAttrs_list PySem.F.slot_list_append PySem.F.type_list_append mt_append (pv 3) (pa_cons (pe_callTy (c_tuple (K := K) rfl) (by rfl) T.tuple (by decide +kernel) (pa_cons (pv 5) pa_nil)) pa_nil)))))) pss_nil)))
 (pss_cons (ps_set (i := 6) sc_law_ends.nd rfl (Or.inl rfl) (pe_callB (c_len (K := K) rfl) (by rfl) T.len (by decide +kernel) (pa_cons (pv 2) pa_nil)))
 (pss_cons (ps_if (pt_cmpR op_eq (pv 6) (pe_callB c_lenS (by rfl) T.len (by decide +kernel) (pa_cons (pv 0) pa_nil)) (nomark _)) (pss_one (ps_ret (pe_tup (pa_cons pe_str (pa_cons pe_int pa_nil))))) pss_nil)
 (pss_cons (ps_if (pt_cmpR (ok_eqD (K := K) rfl hr.units) (pv 3) (pe_lst pa_nil) (nomark _)) (pss_one (ps_ret (pe_tup (pa_cons pe_str (pa_cons (pe_call G_law_free hr0 (by rfl) C_law_free.m C_law_free.k C_law_free.b .nil pass0 (pa_cons (pe_slice sl_str (pv 0) (po_some (pv 6)) po_none) pa_nil)) pa_nil))))) pss_nil)
 (pss_cons (ps_asg (pe_lc (own := [("x", 9)]) (g := gName 9) rfl sc_law_ends.nd (ik_tupI (K := K) rfl (pe_tup (pa_cons (pe_op op_add (pv 6) pe_int) (pa_cons (pe_op op_sub (pe_un un_neg (pv 6)) pe_int) pa_nil)))) (blkOk_by (own := [("x", 9)]) (N := ["owners", "rows", "play", "left", "row", "rest", "at", "one", "two", "x"]) (sc := defScope s_law_ends) (by decide +kernel)) (fun _ _ _ _ _ => (pg_name (i := 9) sc_law_ends.nd rfl (Or.inl rfl))) (fun _ _ _ _ _ => pts_nil) (fun _ _ _ _ _ => (pe_call G_law_ends hr1 (by rfl) C_law_ends.m C_law_ends.k C_law_ends.b .nil pass0 (pa_cons (pv 0) (pa_cons (pv 3) (pa_cons (pe_op (ok_catT (K := K) rfl) (pv 2) (pe_tup (pa_cons (pv 9) pa_nil))) pa_nil)))))) (pg_unl rfl (pgs_cons (pg_name (i := 7) sc_law_ends.nd rfl (Or.inl rfl)) (pgs_cons (pg_name (i := 8) sc_law_ends.nd rfl (Or.inl rfl)) pgs_nil))))
 (pss_cons (ps_if (pt_cmpR op_eq (pe_ix ix_str (pv 0) (pv 6) (fun _ _ => rfl)) pe_str (nomark _)) (pss_one (ps_ret (pe_tup (pa_cons (pe_ifExp (pt_cmpR (ok_in (K := K) rfl) pe_str (pe_tup (pa_cons (pe_ix (ik_tup (K := K) rfl) (pv 7) pe_int (fun _ _ => rfl)) (pa_cons (pe_ix (ik_tup (K := K) rfl) (pv 8) pe_int (fun _ _ => rfl)) pa_nil))) (by rfl)) pe_str pe_str) (pa_cons (pe_op op_add (pe_ix (ik_tup (K := K) rfl) (pv 7) pe_int (fun _ _ => rfl)) (pe_ix (ik_tup (K := K) rfl) (pv 8) pe_int (fun _ _ => rfl))) pa_nil))))) pss_nil)
 (pss_one (ps_ret (pe_tup (pa_cons (pe_ifExp (pt_chain op_eq op_eq (pe_ix (ik_tup (K := K) rfl) (pv 7) pe_int (fun _ _ => rfl)) (pe_ix (ik_tup (K := K) rfl) (pv 8) pe_int (fun _ _ => rfl)) pe_str) pe_str pe_str) (pa_cons (pe_op op_mulW (pe_ix (ik_tup (K := K) rfl) (pv 7) pe_int (fun _ _ => rfl)) (pe_ix (ik_tup (K := K) rfl) (pv 8) pe_int (fun _ _ => rfl))) pa_nil)))))))))))), ?_⟩
    have lx : xs.length = rs.length := by rw [dpAll_len hd, List.length_map]
    have psz : (p.map V.int).length = p.length := List.length_map ..
    refine rd_start (σ' := [some (.str z), some (.ref a), some (.ref b), none, none, none, none, none, none, none]) rfl ?_
    walk_at "rqs"
    refine ⟨Nat.zero_le _, fun L hL => ?_⟩
    have eL := Evl.Ex.new (o := .lst []) hL
    walk_at "rqs"
    refine rd_refL (Evl.ex_l eL ha) ?_
    refine fr_list (xs := xs) (fun i σ' H' => ∃ (x4 x5 : Option V) (ys : List V), σ' = [some (.str z), some (.ref a), some (.ref b), some (.ref L), x4, x5, none, none, none, none] ∧ Evl.Ex H H' ∧ H' L = some (.lst ys) ∧ DpAll K H' ys ((askedF p (rs.take i)).map dR) ∧ [] ∉ askedF p (rs.take i))
      ⟨_, _, [], rfl, eL, upd_same, .nil, (by show [] ∉ ([] : List (List Int)); exact nofun)⟩ (fun i σ' H' _ ⟨_, _, _, _, e, _⟩ => Evl.ex_l e ha) (fun i x σ' H' hi hP => ?_) fun σ' H' hP => ?_
    · obtain ⟨x4, x5, ys, rfl, e, eL', hys, hne⟩ := hP
      obtain ⟨d0, hd0, hx⟩ := dpAll_get hd hi
      rw [List.getElem?_map] at hd0
      obtain ⟨r, hr', rfl⟩ := Option.map_eq_some_iff.mp hd0
      have hrm := List.mem_of_getElem? hr'
      have hrr := hrow r hrm
      obtain ⟨c, rfl, sv0⟩ := dp_row hx
      have sv := Evl.ex_t e sv0
      have htk : rs.take (i + 1) = rs.take i ++ [r] := by rw [List.take_add_one, hr'] <;> rfl
      have hys1 : ys.length ≤ 1000 := by
        rw [dpAll_len hys, List.length_map]
        have h1 := askedF_len p (rs.take i)
        have h2 := List.length_take (i := i) (l := rs)
        omega
      refine rd_start (σ' := [some (.str z), some (.ref a), some (.ref b), some (.ref L), some (.ref c), x5, none, none, none, none]) rfl ?_
      walk_at "rqs"
      refine rd_if ?_
      walk_at "rqs"
      refine rd_ref sv ?_
      refine lc_fmT (trueIn p) V.int (σx := fun x => [some (.str z), some (.ref a), some (.ref b), some (.ref L), some (.ref c), x5, none, none, none, some x]) sv (by have := hrr.length; omega) (fun _ => rfl) (fun _ => rfl)
        (fun x hx H2 N S e2 kN kS => ?_) fun D H2 e2 eD hD => ?_
      · walk_at "rqs"
        refine rd_inT (Evl.ex_t (e.trans e2) hb) ?_
        rw [hp.mem (hrr.2 x hx).1]
        walk_at "rqs"
        cases c : trueIn p x with
        | true =>
          rw [if_pos rfl]
          walk_at "rqs"
          exact kN c _ (Evl.Ex.refl _)
        | false =>
          rw [if_neg (by decide)]
          exact kS c _ (Evl.Ex.refl _)
      walk_at "rqs"
      refine ⟨Nat.zero_le _, fun t ht => ?_⟩
      have e3 := Evl.Ex.trans e2 (Evl.Ex.new (o := .lst []) ht)
      refine rd_noneI (SqL.of ((Evl.Ex.new ht) _ _ hD)) (SqL.of upd_same) ?_
      rw [filter_none]
      walk_at "rqs"
      have eLt := e3 _ _ eL'
      have hyt := dpAll_ex e3 _ _ hys
      have et := e.trans e3
      have svt := Evl.ex_t e3 sv
      clear hys eL' e3 e2 hD eD sv
      generalize upd H2 t (.lst []) = H3 at eLt hyt et svt ⊢
      cases ct : r.any (trueIn p) with
      | true =>
        refine (if_neg (by decide)).mpr ?_
        walk_at "rqs"
        have ea : askedF p (rs.take (i + 1)) = askedF p (rs.take i) := by
          unfold askedF
          rw [htk, List.filter_append, List.map_append]
          simp [ct]
        refine ⟨_, _, ys, rfl, et, eLt, ?_, ?_⟩
        · rw [ea]
          exact hyt
        · rw [ea]
          exact hne
      | false =>
        refine (if_pos (by decide)).mpr ?_
        have hno : ∀ x ∈ r, trueIn p x = false := fun x hx => by
          have := List.any_eq_false.mp ct x hx
          simpa using this
        have ea : askedF p (rs.take (i + 1)) = askedF p (rs.take i) ++ [r.filter (openIn p)] := by
          unfold askedF
          rw [htk, List.filter_append, List.map_append]
          simp [ct]
        walk_at "rqs"
        refine rd_ref svt ?_
        refine lc_fmT (openIn p) V.int (σx := fun x => [some (.str z), some (.ref a), some (.ref b), some (.ref L), some (.ref c), x5, none, none, none, some x]) svt (by have := hrr.length; omega) (fun _ => rfl) (fun _ => rfl)
          (fun x hx H2 N S e2 kN kS => ?_) fun D H4 e4 eD hD => ?_
        · walk_at "rqs"
          refine rd_notInT (Evl.ex_t (et.trans e2) hb) ?_
          rw [hp.neg (hrr.2 x hx).1 (hno x hx), Bool.not_not]
          walk_at "rqs"
          cases c : openIn p x with
          | true =>
            rw [if_pos rfl]
            walk_at "rqs"
            exact kN c _ (Evl.Ex.refl _)
          | false =>
            rw [if_neg (by decide)]
            exact kS c _ (Evl.Ex.refl _)
        walk_at "rqs"
        refine rd_if ?_
        walk_at "rqs"
        refine ⟨Nat.zero_le _, fun t2 ht2 => ?_⟩
        have e5 := Evl.Ex.trans e4 (Evl.Ex.new (o := .lst []) ht2)
        have hD5 := (Evl.Ex.new (o := .lst []) ht2) _ _ hD
        refine rd_noneI (SqL.of hD5) (SqL.of upd_same) ?_
        walk_at "rqs"
        have eL5 := e5 _ _ eLt
        have hy5 := dpAll_ex e5 _ _ hyt
        have et5 := et.trans e5
        clear eLt hyt hD eD e4
        generalize upd H4 t2 (.lst []) = H5 at eL5 hy5 et5 hD5 ⊢
        cases cr : (r.filter (openIn p)).isEmpty with
        | true =>
          refine (if_pos rfl).mpr ?_
          walk_at "rqs"
          have hin : [] ∈ askedF p rs := by
            have h1 : r.filter (openIn p) = [] := List.isEmpty_iff.mp cr
            exact List.mem_map.mpr ⟨r, List.mem_filter.mpr ⟨hrm, by rw [ct]; rfl⟩, h1⟩
          refine ⟨(by show 2 ≤ sizeLine; decide), fun o ho => ?_⟩
          refine q _ _ (et5.trans (Evl.Ex.new ho)) ⟨o, 0, rfl, (wayR_lost hin).symm, ?_⟩
          rw [winR_lost hin]
          exact SqT.of upd_same
        | false =>
          refine (if_neg (by decide)).mpr ?_
          walk_at "rqs"
          refine rd_tyL eL5 ?_
          walk_at "rqs"
          refine rd_tupL (SqL.of hD5) fun o ho => ?_
          have e6 := Evl.Ex.new (o := .tup ((r.filter (openIn p)).map V.int)) ho
          walk_at "rqs"
          refine rd_append (e6 _ _ eL5) (by omega) ?_
          walk_at "rqs"
          refine ⟨_, _, ys ++ [.ref o], rfl, Evl.Ex.mut (et5.trans e6) hL, upd_same, ?_, ?_⟩
          · rw [ea, List.map_append]
            refine dps_mono (fun _ _ t => tup_upd (e6 _ _ eL5) lst_not t) _ _ ?_ (dpAll_app (dpAll_ex e6 _ _ hy5) (.cons (dp_of_row (SqT.of upd_same)) .nil))
            exact noLs_all fun d h => by
              rcases List.mem_append.mp h with h | h
              · obtain ⟨r, _, rfl⟩ := List.mem_map.mp h
                exact noL_dR r
              · obtain ⟨r, _, rfl⟩ := List.mem_map.mp h
                exact noL_dR r
          · rw [ea]
            intro hm
            rcases List.mem_append.mp hm with hm | hm
            · exact hne hm
            · rw [← List.mem_singleton.mp hm] at cr
              cases cr
    · obtain ⟨x4, x5, ys, rfl, e, eL', hys, hne⟩ := hP
      rw [lx, List.take_of_length_le (Nat.le_refl _)] at hys hne
      have yl : ys.length = (askedF p rs).length := by rw [dpAll_len hys, List.length_map]
      have al := askedF_len p rs
      have hfrom := askedF_from (p := p) hrow
      have harow := askedF_row (p := p) hrow
      walk_at "rqs"
      refine rd_lenT (Evl.ex_t e hb) ?_
      rw [psz]
      walk_at "rqs"
      refine rd_if ?_
      walk_at "rqs"
      refine rd_lenS (by rw [hz.1, sizeLine_eq]; omega) ?_
      rw [hz.1]
      walk_at "rqs"
      refine rd_ite (fun cn => ?_) (fun cn => ?_)
      · have cn := V.int.inj cn
        walk_at "rqs"
        refine ⟨(by show 2 ≤ sizeLine; decide), fun o ho => ?_⟩
        have hnil : askedF p rs = [] := by
          cases hq : askedF p rs with
          | nil => rfl
          | cons r0 t0 =>
            exfalso
            have h0 := hfrom r0 (by rw [hq]; exact List.mem_cons_self)
            cases r0 with
            | nil => exact hne (by rw [hq]; exact List.mem_cons_self)
            | cons y t =>
              have := h0.2 y List.mem_cons_self
              omega
        refine q _ _ (e.trans (Evl.Ex.new ho)) ⟨o, 1, rfl, ?_, ?_⟩
        · rw [hnil, show n - p.length = 0 by omega] <;> rfl
        rw [hnil, winR_nil]
        exact SqT.of upd_same
      · have cn : p.length < n := by
          have : (p.length : Int) ≠ (n : Int) := fun z => cn (congrArg V.int z)
          omega
        walk_at "rqs"
        refine rd_if ?_
        walk_at "rqs"
        refine ⟨Nat.zero_le _, fun t ht => ?_⟩
        have e2 := Evl.Ex.new (o := .lst []) ht
        refine ⟨.list ((askedF p rs).map dR), .list [], .lst (SqL.of (e2 _ _ eL')) (dpAll_ex e2 _ _ hys), .lst (SqL.of upd_same) .nil, (Nice.lst (nice_rows (by omega : n ≤ 60) harow)).shaped (by decide), rfl, ?_⟩
        have ee : PyData.eqv (.list ((askedF p rs).map dR)) (.list []) = (askedF p rs).isEmpty := by cases askedF p rs <;> rfl
        rw [ee]
        have e2 := e.trans e2
        have eL2 := (Evl.Ex.new (o := .lst []) ht) _ _ eL'
        have hy2 := dpAll_ex (Evl.Ex.new (o := .lst []) ht) _ _ hys
        clear e eL' hys
        generalize upd H' t (.lst []) = H2 at e2 eL2 hy2 ⊢
        walk_at "rqs"
        cases ca : (askedF p rs).isEmpty with
        | true =>
          refine (if_pos rfl).mpr ?_
          have ca := List.isEmpty_iff.mp ca
          walk_at "rqs"
          refine rd_slS (by rw [hz.1, sizeLine_eq]; omega) ?_
          walk_at "rqs"
          refine ⟨_, n - p.length, rfl, own_drop hz (by omega), by omega, ?_⟩
          have hg : freeL (cutS z (some (p.length : Int)) none).cps.toList = wayR z (n - p.length) ((p.length : Int) + 1) (askedF p rs) := by
            rw [ca, free_way _ _ (by rw [show z.cps.toList.length = n from hz.1]; omega), cutS_drop]
          generalize freeL (cutS z (some (p.length : Int)) none).cps.toList = g at hg ⊢
          walk_at "rqs"
          refine ⟨(by show 2 ≤ sizeLine; decide), fun o ho => ?_⟩
          refine q _ _ (e2.trans (Evl.Ex.new ho)) ⟨o, g, rfl, hg, ?_⟩
          rw [ca, winR_nil]
          exact SqT.of upd_same
        | false =>
          refine (if_neg (by decide)).mpr ?_
          have hne0 : askedF p rs ≠ [] := fun z => by rw [z] at ca; cases ca
          walk_at "rqs"
          refine ⟨(by show 2 ≤ sizeLine; decide), fun tt htt => ?_⟩
          have e3 := Evl.Ex.new (o := .tup [V.int ((p.length : Int) + 1), V.int (-(p.length : Int) - 1)]) htt
          have eL3 := e3 _ _ eL2
          have hy3 := dpAll_ex e3 _ _ hy2
          have stt : SqT K (upd H2 tt (.tup [V.int ((p.length : Int) + 1), V.int (-(p.length : Int) - 1)])) tt [V.int ((p.length : Int) + 1), V.int (-(p.length : Int) - 1)] := SqT.of upd_same
          have e3 := e2.trans e3
          clear e2 eL2 hy2
          generalize upd H2 tt (.tup [V.int ((p.length : Int) + 1), V.int (-(p.length : Int) - 1)]) = H3 at e3 eL3 hy3 stt ⊢
          refine rd_ref stt ?_
          let lit : Nat → Int := fun i => if i = 0 then (p.length : Int) + 1 else -(p.length : Int) - 1
          have hlit : ∀ i, (lit i).natAbs = p.length + 1 := fun i => by
            show (if i = 0 then (p.length : Int) + 1 else -(p.length : Int) - 1).natAbs = _
            split <;> omega
          refine lc_exT (σx := fun x => [some (.str z), some (.ref a), some (.ref b), some (.ref L), x4, x5, some (.int (p.length : Int)), none, none, some x])
            (fun i acc H' => acc.length = i ∧ ∀ j v, acc[j]? = some v → EndT K H' n z (p ++ [lit j]) (askedF p rs) v)
            (fun i acc H1 D ys u hD h => ⟨h.1, fun j v hj => by
              obtain ⟨q1, c1, h1, h2, h3⟩ := h.2 j v hj
              exact ⟨q1, c1, h1, h2, tup_upd hD lst_not h3⟩⟩) stt (by show 2 ≤ 40000; decide) (fun _ => rfl) (fun _ => rfl) (fun H' _ => ⟨rfl, fun j v hj => by simp at hj⟩)
            (fun i x hi acc H' N e4 hP hN => ?_) fun D acc H5 e5 hDn hD hP => ?_
          · have hx : x = .int (lit i) := by
              cases i with
              | zero => exact (Option.some.inj hi).symm
              | succ i =>
                cases i with
                | zero => exact (Option.some.inj hi).symm
                | succ i => simp at hi
            subst hx
            walk_at "rqs"
            refine ⟨(by show 1 ≤ sizeLine; decide), fun u hu => ?_⟩
            have e5 := e4.trans (Evl.Ex.new (o := .tup [V.int (lit i)]) hu)
            refine rd_catT (Evl.ex_t (e3.trans e5) hb) (SqT.of upd_same) (by rw [psz, sizeLine_eq]; show _ + 1 ≤ _; omega) fun c H6 e6 s6 => ?_
            have e7 := e5.trans e6
            have s6 : SqT K H6 c ((p ++ [lit i]).map V.int) := by
              rw [List.map_append]
              exact s6
            have hlen : (p ++ [lit i]).length = p.length + 1 := by rw [List.length_append] <;> rfl
            refine ⟨z, L, c, n, ys, askedF p rs, p ++ [lit i], rfl, hz, hn, SqL.of (e7 _ _ eL3), dpAll_ex e7 _ _ hy3, harow, by omega, s6, hp.snoc (hlit i), by rw [hlen]; omega, by rw [hlen]; omega, fun v H7 e8 hv => ?_⟩
            have e9 : Evl.Ex H' H7 := ((Evl.Ex.new (o := .tup [V.int (lit i)]) hu).trans e6).trans e8
            refine hN v H7 e9 ⟨by rw [List.length_append, hP.1] <;> rfl, fun j w' hj => ?_⟩
            rw [List.getElem?_append] at hj
            split at hj
            · exact (hP.2 j w' hj).ex e9
            · next hc =>
              have hji : j = i := by
                have h1 := hP.1
                by_cases z : j - acc.length = 0
                · omega
                · rw [List.getElem?_eq_none (by show 1 ≤ j - acc.length; omega)] at hj
                  cases hj
              subst hji
              rw [hP.1, Nat.sub_self] at hj
              obtain rfl : v = w' := Option.some.inj hj
              exact hv
          · obtain ⟨v1, v2, rfl⟩ : ∃ v1 v2, acc = [v1, v2] := by
              have h1 := hP.1
              match acc, h1 with
              | [v1, v2], _ => exact ⟨v1, v2, rfl⟩
            obtain ⟨q1, c1, rfl, hc1, t1⟩ := hP.2 0 v1 rfl
            obtain ⟨q2, c2, rfl, hc2, t2⟩ := hP.2 1 v2 rfl
            have l1 : (p ++ [lit 0]).length = p.length + 1 := by rw [List.length_append] <;> rfl
            have l2 : (p ++ [lit 1]).length = p.length + 1 := by rw [List.length_append] <;> rfl
            have as1 := askedF_snoc (rs := askedF p rs) (hlit 0) hfrom hne
            have as2 := askedF_snoc (rs := askedF p rs) (hlit 1) hfrom hne
            have hl1 : lit 1 = -((p.length : Int) + 1) := by show -(p.length : Int) - 1 = _; omega
            have hl0 : lit 0 = (p.length : Int) + 1 := rfl
            rw [l1, as1, hl0] at hc1
            rw [l2, as2, hl1] at hc2
            rw [l1, as1, hl0] at t1
            rw [l2, as2, hl1] at t2
            obtain ⟨m, hm⟩ : ∃ m, n - p.length = m + 1 := ⟨n - p.length - 1, by omega⟩
            have hm2 : n - (p.length + 1) = m := by omega
            rw [hm2] at hc1 hc2 t1 t2
            have step := winR_step (z := z) (m := m) (letter := (p.length : Int) + 1) hne0 hne
            rw [show ((p.length + 1 : Nat) : Int) + 1 = (p.length : Int) + 1 + 1 by omega] at t1 t2 hc1 hc2
            have wst := wayR_step (z := z) (m := m) (letter := (p.length : Int) + 1) hne
            have hb1 : c1 < 2 ^ 2 ^ m := hc1 ▸ wayR_lt _ _ _ _
            have hb2 : c2 < 2 ^ 2 ^ m := hc2 ▸ wayR_lt _ _ _ _
            rw [← hc1, ← hc2] at wst
            clear hc1 hc2
            generalize winR z m ((p.length : Int) + 1 + 1) (beh ((p.length : Int) + 1) (askedF p rs)) = b1 at t1 step
            generalize winR z m ((p.length : Int) + 1 + 1) (beh (-((p.length : Int) + 1)) (askedF p rs)) = b2 at t2 step
            have fin : ∀ (cnt : Nat) (bw : Bool) (o : Addr) (H8 : Hp), Evl.Ex H5 H8 → H8 o = none → cnt = wayR z (m + 1) ((p.length : Int) + 1) (askedF p rs) → winR z (m + 1) ((p.length : Int) + 1) (askedF p rs) = bw → Q (.ref o) (upd H8 o (.tup [.str (whoT bw), .int (cnt : Int)])) := fun cnt bw o H8 e8 ho hc hw => by
              refine q _ _ (((e3.trans e5).trans e8).trans (Evl.Ex.new ho)) ⟨o, cnt, rfl, ?_, ?_⟩
              · rw [hm]
                exact hc
              · rw [hm, hw]
                exact SqT.of upd_same
            refine rd_unl2 (SqL.of hD) rfl (σ' := [some (.str z), some (.ref a), some (.ref b), some (.ref L), x4, x5, some (.int (p.length : Int)), some (.ref q1), some (.ref q2), none]) rfl ?_
            walk_at "rqs"
            refine rd_if ?_
            walk_at "rqs"
            have hat : atI z.cps.toList (p.length : Int) = some (sgn z ((p.length : Int) + 1)) := by
              have := at_sgn2 hz (x := (p.length : Int) + 1) (by omega) (by omega)
              rw [show (p.length : Int) + 1 - 1 = (p.length : Int) by omega] at this
              exact this
            refine rd_ixS (by rw [hz.1, sizeLine_eq]; omega) hat ?_
            walk_at "rqs"
            refine rd_iteb (b := heldBy z "s" ((p.length : Int) + 1)) (fun ch => ?_) (fun ch => ?_)
            · rw [if_pos ch] at step wst
              walk_at "rqs"
              refine rd_ixT t1 rfl ?_
              walk_at "rqs"
              refine rd_ixT t2 rfl ?_
              walk_at "rqs"
              refine ⟨(by show 2 ≤ sizeLine; decide), fun u hu => ?_⟩
              have eu := Evl.Ex.new (o := .tup [V.str (whoT b1), .str (whoT b2)]) hu
              refine ⟨u, _, rfl, .inr (SqT.of upd_same), rfl, rfl, ?_⟩
              rw [if_neg (by decide), inV_who]
              walk_at "rqs"
              refine who_lit ?_
              walk_at "rqs"
              refine rd_ixT (Evl.ex_t eu t1) rfl ?_
              walk_at "rqs"
              refine rd_ixT (Evl.ex_t eu t2) rfl ?_
              walk_at "rqs"
              refine ⟨(by show 2 ≤ sizeLine; decide), fun o ho => ?_⟩
              exact fin (c1 + c2) (b1 || b2) o _ eu ho wst.symm step
            · rw [if_neg (by rw [ch]; decide)] at step wst
              have hpow : (0 : Nat) < 2 ^ m := Nat.two_pow_pos m
              have hp13 : 2 ^ m ≤ 2 ^ 13 := Nat.pow_le_pow_right (by decide) (by omega)
              have h13 : (2 : Nat) ^ 13 = 8192 := by decide
              have last : ∀ (bw : Bool), (b1 && b2) = bw → tCons (tOp (rI CMulW fun i j => V.int (i * j)) (tOp (rIxT K) (tVar 7) (tC (.int 1))) (tOp (rIxT K) (tVar 8) (tC (.int 1)))) tNil [some (.str z), some (.ref a), some (.ref b), some (.ref L), x4, x5, some (.int (p.length : Int)), some (.ref q1), some (.ref q2), none] H5
                  (fun xs H2 => (V.str (whoT bw) :: xs).length ≤ sizeLine ∧ ∀ p, H2 p = none → Q (.ref p) (upd H2 p (.tup (V.str (whoT bw) :: xs)))) := fun bw hbw => by
                walk_at "rqs"
                refine rd_ixT t1 rfl ?_
                walk_at "rqs"
                refine rd_ixT t2 rfl ?_
                walk_at "rqs"
                refine rd_I (wide_mul (by rw [Int.natAbs_natCast]; exact hb1) (by rw [Int.natAbs_natCast]; exact hb2) hpow hpow (by omega)) ?_
                walk_at "rqs"
                refine ⟨(by show 2 ≤ sizeLine; decide), fun o ho => ?_⟩
                have := fin (c1 * c2) bw o _ (Evl.Ex.refl _) ho wst.symm (step.trans hbw)
                rw [Int.natCast_mul] at this
                exact this
              walk_at "rqs"
              refine rd_chain ?_
              walk_at "rqs"
              refine rd_ixT t1 rfl ?_
              walk_at "rqs"
              refine rd_ixT t2 rfl ?_
              walk_at "rqs"
              cases b1 with
              | true =>
                cases b2 with
                | true =>
                  refine (if_pos (decide_eq_true rfl)).mpr ?_
                  walk_at "rqs"
                  refine (if_pos (by decide)).mpr ?_
                  exact last true rfl
                | false =>
                  refine (if_neg (by decide)).mpr ?_
                  walk_at "rqs"
                  refine rd_ixT t1 rfl ?_
                  walk_at "rqs"
                  refine rd_ixT t2 rfl ?_
                  walk_at "rqs"
                  refine rd_I (wide_mul (by rw [Int.natAbs_natCast]; exact hb1) (by rw [Int.natAbs_natCast]; exact hb2) hpow hpow (by omega)) ?_
                  walk_at "rqs"
                  refine ⟨(by show 2 ≤ sizeLine; decide), fun o ho => ?_⟩
                  have := fin (c1 * c2) false o _ (Evl.Ex.refl _) ho wst.symm step
                  rw [Int.natCast_mul] at this
                  exact this
              | false =>
                cases b2 with
                | true =>
                  refine (if_neg (by decide)).mpr ?_
                  walk_at "rqs"
                  refine rd_ixT t1 rfl ?_
                  walk_at "rqs"
                  refine rd_ixT t2 rfl ?_
                  walk_at "rqs"
                  refine rd_I (wide_mul (by rw [Int.natAbs_natCast]; exact hb1) (by rw [Int.natAbs_natCast]; exact hb2) hpow hpow (by omega)) ?_
                  walk_at "rqs"
                  refine ⟨(by show 2 ≤ sizeLine; decide), fun o ho => ?_⟩
                  have := fin (c1 * c2) false o _ (Evl.Ex.refl _) ho wst.symm step
                  rw [Int.natCast_mul] at this
                  exact this
                | false =>
                  refine (if_pos (decide_eq_true rfl)).mpr ?_
                  walk_at "rqs"
                  refine (if_neg Bool.false_ne_true).mpr ?_
                  exact last false rfl
end
end KA
set_option Elab.async false
set_option linter.all false
set_option maxRecDepth 100000
set_option maxHeartbeats 400000
set_option pp.maxSteps 300
namespace KA
open PySem PySem.Spec PyProof.Rows L2 Ea
local macro_rules | `(tactic| walk_at "rd") => `(tactic| first
  | (with_reducible refine rd_seq ?_) | (with_reducible refine rd_asg ?_) | (with_reducible refine rd_if ?_) | (with_reducible refine rd_ret ?_) | (with_reducible refine rd_next ?_)
  | (with_reducible refine rd_drop ?_) | ((with_reducible refine rd_name (σ' := ?ss) ?hs ?_); (case hs => (dsimp only [List.set]; exact rfl)))
  | ((with_reducible refine rd_var (v := ?vv) ?hv ?_); (case hv => exact rfl)) | (with_reducible refine rd_c ?_) | (with_reducible refine rd_op ?_) | (with_reducible refine rd_un ?_)
  | (with_reducible refine rd_I0 ?_) | (with_reducible refine rd_U ?_) | (with_reducible refine rd_test ?_) | (with_reducible refine rd_B ?_) | (with_reducible refine rd_k ?_)
  | (with_reducible refine rd_not ?_) | (with_reducible refine rd_and ?_) | (with_reducible refine rd_or ?_) | (with_reducible refine rd_ifE ?_)
  | (with_reducible refine rd_par ?_) | ((with_reducible refine rd_par2 (σ' := ?ss) ?hs ?_); (case hs => (dsimp only [List.set]; exact rfl)))
  | (with_reducible refine rd_gsub ?_) | (with_reducible refine rd_andV ?_) | (with_reducible refine rd_orV ?_) | (with_reducible refine rd_notV ?_)
  | (with_reducible refine rd_lc ?_) | (with_reducible refine rd_iTup ?_) | (with_reducible refine rd_iList ?_) | (with_reducible refine rd_iRng1 ?_) | (with_reducible refine rd_iRng2 ?_) | (with_reducible refine rd_iEnumT ?_) | (with_reducible refine rd_iEnum ?_) | (with_reducible refine rd_iZipM ?_) | (with_reducible refine rd_iEnumS ?_) | (with_reducible refine rd_iKeys ?_) | (with_reducible refine rd_din ?_) | (with_reducible refine rd_dnotin ?_)
  | (with_reducible refine rd_yes ?_) | (with_reducible refine rd_true ?_) | (with_reducible refine rd_false ?_) | (with_reducible refine rd_m1 ?_) | (with_reducible refine rd_isS ?_)
  | ((with_reducible refine rd_eq ?hs ?_); (case hs => exact rfl)) | ((with_reducible refine rd_ne ?hs ?_); (case hs => exact rfl))
  | (with_reducible refine rd_listRg ?_) | (with_reducible refine rd_rg2 ?_) | (with_reducible refine rd_rgk ?_)
  | (with_reducible refine rd_dnew ?_) | (with_reducible refine rd_ddel ?_) | (with_reducible refine rd_kw ?_) | (with_reducible refine rd_callS ?_) | (with_reducible refine rd_dc ?_) | (with_reducible refine rd_for ?_) | (with_reducible refine rd_tru ?_) | (with_reducible refine rd_truI ?_)
  | (with_reducible refine rd_nil ?_) | (with_reducible refine rd_cons ?_) | (with_reducible refine rd_call ?_) | (with_reducible refine rd_cb ?_)
  | (with_reducible refine rd_tup ?_) | (with_reducible refine rd_lst ?_) | (with_reducible refine rd_dget ?_) | (with_reducible refine rd_dput ?_) | (with_reducible refine rd_dget2 ?_) | (with_reducible refine rd_sl ?_)
  | (with_reducible refine rd_nopart ?_) | (with_reducible refine rd_part ?_) | (with_reducible refine rd_parti ?_) | (with_reducible refine rd_bm ?_) | (with_reducible refine rd_bm0 ?_)
  | (with_reducible refine rd_int ?_) | (with_reducible refine rd_intb ?_) | (with_reducible refine rd_abs ?_) | (with_reducible refine rd_min2 ?_) | (with_reducible refine rd_max2 ?_))
local macro_rules | `(tactic| walk_at "rds") => `(tactic| repeat (walk_at "rd"))
local macro_rules | `(tactic| walk_at "rq") => `(tactic| first
  | (with_reducible refine rd_seq ?_) | (with_reducible refine rd_asg ?_) | (with_reducible refine rd_ret ?_) | (with_reducible refine rd_next ?_)
  | (with_reducible refine rd_drop ?_) | ((with_reducible refine rd_name (σ' := ?ss) ?hs ?_); (case hs => (dsimp only [List.set]; exact rfl)))
  | ((with_reducible refine rd_var (v := ?vv) ?hv ?_); (case hv => exact rfl)) | (with_reducible refine rd_c ?_) | (with_reducible refine rd_op ?_) | (with_reducible refine rd_un ?_)
  | (with_reducible refine rd_I0 ?_) | (with_reducible refine rd_U ?_) | (with_reducible refine rd_test ?_) | (with_reducible refine rd_B ?_) | (with_reducible refine rd_k ?_)
  | (with_reducible refine rd_not ?_) | (with_reducible refine rd_and ?_) | (with_reducible refine rd_or ?_) | (with_reducible refine rd_ifE ?_)
  | (with_reducible refine rd_par ?_) | ((with_reducible refine rd_par2 (σ' := ?ss) ?hs ?_); (case hs => (dsimp only [List.set]; exact rfl)))
  | (with_reducible refine rd_gsub ?_) | (with_reducible refine rd_andV ?_) | (with_reducible refine rd_orV ?_) | (with_reducible refine rd_notV ?_)
  | (with_reducible refine rd_lc ?_) | (with_reducible refine rd_iTup ?_) | (with_reducible refine rd_iList ?_) | (with_reducible refine rd_iRng1 ?_) | (with_reducible refine rd_iRng2 ?_) | (with_reducible refine rd_iEnumT ?_) | (with_reducible refine rd_iEnum ?_) | (with_reducible refine rd_iZipM ?_) | (with_reducible refine rd_iEnumS ?_) | (with_reducible refine rd_iKeys ?_) | (with_reducible refine rd_din ?_) | (with_reducible refine rd_dnotin ?_)
  | (with_reducible refine rd_yes ?_) | (with_reducible refine rd_true ?_) | (with_reducible refine rd_false ?_) | (with_reducible refine rd_m1 ?_) | (with_reducible refine rd_isS ?_)
  | ((with_reducible refine rd_eq ?hs ?_); (case hs => exact rfl)) | ((with_reducible refine rd_ne ?hs ?_); (case hs => exact rfl))
  | (with_reducible refine rd_listRg ?_) | (with_reducible refine rd_rg2 ?_) | (with_reducible refine rd_rgk ?_)
  | (with_reducible refine rd_dnew ?_) | (with_reducible refine rd_ddel ?_) | (with_reducible refine rd_kw ?_) | (with_reducible refine rd_callS ?_) | (with_reducible refine rd_dc ?_) | (with_reducible refine rd_for ?_) | (with_reducible refine rd_tru ?_) | (with_reducible refine rd_truI ?_)
  | (with_reducible refine rd_nil ?_) | (with_reducible refine rd_cons ?_) | (with_reducible refine rd_call ?_) | (with_reducible refine rd_cb ?_)
  | (with_reducible refine rd_tup ?_) | (with_reducible refine rd_lst ?_) | (with_reducible refine rd_dget ?_) | (with_reducible refine rd_dput ?_) | (with_reducible refine rd_dget2 ?_) | (with_reducible refine rd_sl ?_)
  | (with_reducible refine rd_nopart ?_) | (with_reducible refine rd_part ?_) | (with_reducible refine rd_parti ?_) | (with_reducible refine rd_bm ?_) | (with_reducible refine rd_bm0 ?_)
  | (with_reducible refine rd_int ?_) | (with_reducible refine rd_intb ?_) | (with_reducible refine rd_abs ?_) | (with_reducible refine rd_min2 ?_) | (with_reducible refine rd_max2 ?_))
local macro_rules | `(tactic| walk_at "rqs") => `(tactic| repeat (walk_at "rq"))
local macro_rules | `(tactic| walk_at "rv") => `(tactic| first
  | (with_reducible refine rd_seq ?_) | (with_reducible refine rd_asg ?_) | (with_reducible refine rd_ret ?_) | (with_reducible refine rd_next ?_)
  | (with_reducible refine rd_drop ?_) | ((with_reducible refine rd_name (σ' := ?ss) ?hs ?_); (case hs => (dsimp only [List.set]; exact rfl)))
  | ((with_reducible refine rd_var (v := ?vv) ?hv ?_); (case hv => exact rfl)) | (with_reducible refine rd_c ?_) | (with_reducible refine rd_op ?_) | (with_reducible refine rd_un ?_)
  | (with_reducible refine rd_I0 ?_) | (with_reducible refine rd_U ?_) | (with_reducible refine rd_test ?_) | (with_reducible refine rd_B ?_) | (with_reducible refine rd_k ?_)
  | (with_reducible refine rd_not ?_) | (with_reducible refine rd_and ?_) | (with_reducible refine rd_or ?_)
  | (with_reducible refine rd_par ?_) | ((with_reducible refine rd_par2 (σ' := ?ss) ?hs ?_); (case hs => (dsimp only [List.set]; exact rfl)))
  | (with_reducible refine rd_gsub ?_) | (with_reducible refine rd_andV ?_) | (with_reducible refine rd_orV ?_) | (with_reducible refine rd_notV ?_)
  | (with_reducible refine rd_lc ?_) | (with_reducible refine rd_iTup ?_) | (with_reducible refine rd_iList ?_) | (with_reducible refine rd_iRng1 ?_) | (with_reducible refine rd_iRng2 ?_) | (with_reducible refine rd_iEnumT ?_) | (with_reducible refine rd_iEnum ?_) | (with_reducible refine rd_iZipM ?_) | (with_reducible refine rd_iEnumS ?_) | (with_reducible refine rd_iKeys ?_) | (with_reducible refine rd_din ?_) | (with_reducible refine rd_dnotin ?_)
  | (with_reducible refine rd_yes ?_) | (with_reducible refine rd_true ?_) | (with_reducible refine rd_false ?_) | (with_reducible refine rd_m1 ?_) | (with_reducible refine rd_isS ?_)
  | ((with_reducible refine rd_eq ?hs ?_); (case hs => exact rfl)) | ((with_reducible refine rd_ne ?hs ?_); (case hs => exact rfl))
  | (with_reducible refine rd_listRg ?_) | (with_reducible refine rd_rg2 ?_) | (with_reducible refine rd_rgk ?_)
  | (with_reducible refine rd_dnew ?_) | (with_reducible refine rd_ddel ?_) | (with_reducible refine rd_kw ?_) | (with_reducible refine rd_callS ?_) | (with_reducible refine rd_dc ?_) | (with_reducible refine rd_for ?_) | (with_reducible refine rd_tru ?_) | (with_reducible refine rd_truI ?_)
  | (with_reducible refine rd_nil ?_) | (with_reducible refine rd_cons ?_) | (with_reducible refine rd_call ?_) | (with_reducible refine rd_cb ?_)
  | (with_reducible refine rd_tup ?_) | (with_reducible refine rd_lst ?_) | (with_reducible refine rd_dget ?_) | (with_reducible refine rd_dput ?_) | (with_reducible refine rd_dget2 ?_) | (with_reducible refine rd_sl ?_)
  | (with_reducible refine rd_nopart ?_) | (with_reducible refine rd_part ?_) | (with_reducible refine rd_parti ?_) | (with_reducible refine rd_bm ?_) | (with_reducible refine rd_bm0 ?_)
  | (with_reducible refine rd_int ?_) | (with_reducible refine rd_intb ?_) | (with_reducible refine rd_abs ?_) | (with_reducible refine rd_min2 ?_) | (with_reducible refine rd_max2 ?_))
local macro_rules | `(tactic| walk_at "rvs") => `(tactic| repeat (walk_at "rv"))

section
variable {P : Program} {w : World} {K : PySem.W.Frag} {mg : Str → Option Value} {base : Heap}
theorem ok_endsT {f fF : Addr} {fd fdF : FuncData} (F : Fun K "_law_ends" "_law_ends" s_law_ends f fd) (T : Bl mg) {M k : Nat} (hk : 1 ≤ k)
    (G_law_free : FnOk P w K mg base CX0 1 fF fdF ["owners"] (spFree K)) (C_law_free : Callee K mg "_law_free" fF fdF ["owners"])
    (G_law_ends : FnOk P w K mg base CX0 k f fd ["owners", "rows", "play"] (spEndsL K M)) (C_law_ends : Callee K mg "_law_ends" f fd ["owners", "rows", "play"]) :
    FnOk P w K mg base CX0 (k + 1) f fd ["owners", "rows", "play"] (spEndsT K (M + 1)) := by
  refine F.ok sc_law_ends (fun vs H Q E h => ?_) (fun cdv A outer s H vs Q E hr h => ?_)
  · obtain ⟨z, a, b, n, xs, rs, p, rfl, _⟩ := h
    rfl
  · obtain ⟨z, a, b, n, xs, rs, p, rfl, hz, hn, ha, hd, hrow, hl, hb, hp, pl, hM, q⟩ := h
    have hr1 : Room k (A.deeper (envOfC (Str.ofString "_law_ends") (defScope s_law_ends) s.heap.objs.size f cdv)) := hr
    have hr0 : Room 1 (A.deeper (envOfC (Str.ofString "_law_ends") (defScope s_law_ends) s.heap.objs.size f cdv)) := hr.mono hk
    refine ⟨_, (pss_cons (ps_set (i := 3) sc_law_ends.nd rfl (Or.inr rfl) (pe_lst pa_nil))
 (pss_cons (ps_for PassesOwn.never rfl (ik_tupI (K := K) rfl (pv 1)) (pg_name (i := 4) sc_law_ends.nd rfl (Or.inl rfl)) (pss_one (ps_if (pt_cmpR (ok_eqD (K := K) rfl hr.units) (pe_lc (own := [("x", 9)]) (g := gName 9) rfl sc_law_ends.nd (ik_tupI (K := K) rfl (pv 4)) (blkOk_by (own := [("x", 9)]) (N := ["owners", "rows", "play", "left", "row", "rest", "at", "one", "two", "x"]) (sc := defScope s_law_ends) (by decide +kernel)) (fun _ _ _ _ _ => (pg_name (i := 9) sc_law_ends.nd rfl (Or.inl rfl))) (fun _ _ _ _ _ => (pts_one (pt_cmpR (ok_in (K := K) rfl) (pv 9) (pv 2) (by rfl)))) (fun _ _ _ _ _ => (pv 9))) (pe_lst pa_nil) (nomark _)) (pss_cons (ps_setLc (i := 5) (own := [("x", 9)]) (g := gName 9) rfl sc_law_ends.nd rfl rfl (sw_true rfl rfl rfl (by decide +kernel)) (ik_tupI (K := K) rfl (pv 4)) (blkOk_by (own := [("x", 9)]) (N := ["owners", "rows", "play", "left", "row", "rest", "at", "one", "two", "x"]) (sc := defScope s_law_ends) (by decide +kernel)) (fun _ _ _ _ _ => (pg_name (i := 9) sc_law_ends.nd rfl (Or.inl rfl))) (fun _ _ _ _ _ => (pts_one (pt_cmpR (ok_notIn (K := K) rfl) (pe_un un_neg (pv 9)) (pv 2) (by rfl)))) (fun _ _ _ _ _ => (pv 9)))
 (pss_cons (ps_if (pt_cmpR (ok_eqD (K := K) rfl hr.units) (pv 5) (pe_lst pa_nil) (nomark _)) (pss_one (ps_ret (pe_tup (pa_cons pe_str (pa_cons pe_int pa_nil))))) pss_nil)
 (pss_one (ps_expr (pe_bm PySem.F.plainAttrs_list PySem.F.slot_list_append PySem.F.type_list_append mt_append (pv 3) (pa_cons (pe_callTy (c_tuple (K := K) rfl) (by rfl) T.tuple (by decide +kernel) (pa_cons (pv 5) pa_nil)) pa_nil)))))) pss_nil)))
 (pss_cons (ps_set (i := 6) sc_law_ends.nd rfl (Or.inl rfl) (pe_callB (c_len (K := K) rfl) (by rfl) T.len (by decide +kernel) (pa_cons (pv 2) pa_nil)))
 (pss_cons (ps_if (pt_cmpR op_eq (pv 6) (pe_callB c_lenS (by rfl) T.len (by decide +kernel) (pa_cons (pv 0) pa_nil)) (nomark _)) (pss_one (ps_ret (pe_tup (pa_cons pe_str (pa_cons pe_int pa_nil))))) pss_nil)
 (pss_cons (ps_if (pt_cmpR (ok_eqD (K := K) rfl hr.units) (pv 3) (pe_lst pa_nil) (nomark _)) (pss_one (ps_ret (pe_tup (pa_cons pe_str (pa_cons (pe_call G_law_free hr0 (by rfl) C_law_free.m C_law_free.k C_law_free.b .nil pass0 (pa_cons (pe_slice sl_str (pv 0) (po_some (pv 6)) po_none) pa_nil)) pa_nil))))) pss_nil)
 (pss_cons (ps_asg (pe_lc (own := [("x", 9)]) (g := gName 9) rfl sc_law_ends.nd (ik_tupI (K := K) rfl (pe_tup (pa_cons (pe_op op_add (pv 6) pe_int) (pa_cons (pe_op op_sub (pe_un un_neg (pv 6)) pe_int) pa_nil)))) (blkOk_by (own := [("x", 9)]) (N := ["owners", "rows", "play", "left", "row", "rest", "at", "one", "two", "x"]) (sc := defScope s_law_ends) (by decide +kernel)) (fun _ _ _ _ _ => (pg_name (i := 9) sc_law_ends.nd rfl (Or.inl rfl))) (fun _ _ _ _ _ => pts_nil) (fun _ _ _ _ _ => (pe_call G_law_ends hr1 (by rfl) C_law_ends.m C_law_ends.k C_law_ends.b .nil pass0 (pa_cons (pv 0) (pa_cons (pv 3) (pa_cons (pe_op (ok_catT (K := K) rfl) (pv 2) (pe_tup (pa_cons (pv 9) pa_nil))) pa_nil)))))) (pg_unl rfl (pgs_cons (pg_name (i := 7) sc_law_ends.nd rfl (Or.inl rfl)) (pgs_cons (pg_name (i := 8) sc_law_ends.nd rfl (Or.inl rfl)) pgs_nil))))
 (pss_cons (ps_if (pt_cmpR op_eq (pe_ix ix_str (pv 0) (pv 6) (fun _ _ => rfl)) pe_str (nomark _)) (pss_one (ps_ret (pe_tup (pa_cons (pe_ifExp (pt_cmpR (ok_in (K := K) rfl) pe_str (pe_tup (pa_cons (pe_ix (ik_tup (K := K) rfl) (pv 7) pe_int (fun _ _ => rfl)) (pa_cons (pe_ix (ik_tup (K := K) rfl) (pv 8) pe_int (fun _ _ => rfl)) pa_nil))) (by rfl)) pe_str pe_str) (pa_cons (pe_op op_add (pe_ix (ik_tup (K := K) rfl) (pv 7) pe_int (fun _ _ => rfl)) (pe_ix (ik_tup (K := K) rfl) (pv 8) pe_int (fun _ _ => rfl))) pa_nil))))) pss_nil)
 (pss_one (ps_ret (pe_tup (pa_cons (pe_ifExp (pt_chain op_eq op_eq (pe_ix (ik_tup (K := K) rfl) (pv 7) pe_int (fun _ _ => rfl)) (pe_ix (ik_tup (K := K) rfl) (pv 8) pe_int (fun _ _ => rfl)) pe_str) pe_str pe_str) (pa_cons (pe_op op_mulW (pe_ix (ik_tup (K := K) rfl) (pv 7) pe_int (fun _ _ => rfl)) (pe_ix (ik_tup (K := K) rfl) (pv 8) pe_int (fun _ _ => rfl))) pa_nil)))))))))))), ?_⟩
    have lx : xs.length = rs.length := by rw [dpAll_len hd, List.length_map]
    have psz : (p.map V.int).length = p.length := List.length_map ..
    refine rd_start (σ' := [some (.str z), some (.ref a), some (.ref b), none, none, none, none, none, none, none]) rfl ?_
    walk_at "rqs"
    refine ⟨Nat.zero_le _, fun L hL => ?_⟩
    have eL := Evl.Ex.new (o := .lst []) hL
    walk_at "rqs"
    refine rd_ref (Evl.ex_t eL ha) ?_
    refine fr_tup (xs := xs) (fun i σ' H' => ∃ (x4 x5 : Option V) (ys : List V), σ' = [some (.str z), some (.ref a), some (.ref b), some (.ref L), x4, x5, none, none, none, none] ∧ Evl.Ex H H' ∧ H' L = some (.lst ys) ∧ DpAll K H' ys ((askedF p (rs.take i)).map dR) ∧ [] ∉ askedF p (rs.take i))
      ⟨_, _, [], rfl, eL, upd_same, .nil, (by show [] ∉ ([] : List (List Int)); exact nofun)⟩ (fun i σ' H' _ ⟨_, _, _, _, e, _⟩ => Evl.ex_t e ha) (fun i x σ' H' hi hP => ?_) fun σ' H' hP => ?_
    · obtain ⟨x4, x5, ys, rfl, e, eL', hys, hne⟩ := hP
      obtain ⟨d0, hd0, hx⟩ := dpAll_get hd hi
      rw [List.getElem?_map] at hd0
      obtain ⟨r, hr', rfl⟩ := Option.map_eq_some_iff.mp hd0
      have hrm := List.mem_of_getElem? hr'
      have hrr := hrow r hrm
      obtain ⟨c, rfl, sv0⟩ := dp_row hx
      have sv := Evl.ex_t e sv0
      have htk : rs.take (i + 1) = rs.take i ++ [r] := by rw [List.take_add_one, hr'] <;> rfl
      have hys1 : ys.length ≤ 1000 := by
        rw [dpAll_len hys, List.length_map]
        have h1 := askedF_len p (rs.take i)
        have h2 := List.length_take (i := i) (l := rs)
        omega
      refine rd_start (σ' := [some (.str z), some (.ref a), some (.ref b), some (.ref L), some (.ref c), x5, none, none, none, none]) rfl ?_
      walk_at "rqs"
      refine rd_if ?_
      walk_at "rqs"
      refine rd_ref sv ?_
      refine lc_fmT (trueIn p) V.int (σx := fun x => [some (.str z), some (.ref a), some (.ref b), some (.ref L), some (.ref c), x5, none, none, none, some x]) sv (by have := hrr.length; omega) (fun _ => rfl) (fun _ => rfl)
        (fun x hx H2 N S e2 kN kS => ?_) fun D H2 e2 eD hD => ?_
      · walk_at "rqs"
        refine rd_inT (Evl.ex_t (e.trans e2) hb) ?_
        rw [hp.mem (hrr.2 x hx).1]
        walk_at "rqs"
        cases c : trueIn p x with
        | true =>
          rw [if_pos rfl]
          walk_at "rqs"
          exact kN c _ (Evl.Ex.refl _)
        | false =>
          rw [if_neg (by decide)]
          exact kS c _ (Evl.Ex.refl _)
      walk_at "rqs"
      refine ⟨Nat.zero_le _, fun t ht => ?_⟩
      have e3 := Evl.Ex.trans e2 (Evl.Ex.new (o := .lst []) ht)
      refine rd_noneI (SqL.of ((Evl.Ex.new ht) _ _ hD)) (SqL.of upd_same) ?_
      rw [filter_none]
      walk_at "rqs"
      have eLt := e3 _ _ eL'
      have hyt := dpAll_ex e3 _ _ hys
      have et := e.trans e3
      have svt := Evl.ex_t e3 sv
      clear hys eL' e3 e2 hD eD sv
      generalize upd H2 t (.lst []) = H3 at eLt hyt et svt ⊢
      cases ct : r.any (trueIn p) with
      | true =>
        refine (if_neg (by decide)).mpr ?_
        walk_at "rqs"
        have ea : askedF p (rs.take (i + 1)) = askedF p (rs.take i) := by
          unfold askedF
          rw [htk, List.filter_append, List.map_append]
          simp [ct]
        refine ⟨_, _, ys, rfl, et, eLt, ?_, ?_⟩
        · rw [ea]
          exact hyt
        · rw [ea]
          exact hne
      | false =>
        refine (if_pos (by decide)).mpr ?_
        have hno : ∀ x ∈ r, trueIn p x = false := fun x hx => by
          have := List.any_eq_false.mp ct x hx
          simpa using this
        have ea : askedF p (rs.take (i + 1)) = askedF p (rs.take i) ++ [r.filter (openIn p)] := by
          unfold askedF
          rw [htk, List.filter_append, List.map_append]
          simp [ct]
        walk_at "rqs"
        refine rd_ref svt ?_
        refine lc_fmT (openIn p) V.int (σx := fun x => [some (.str z), some (.ref a), some (.ref b), some (.ref L), some (.ref c), x5, none, none, none, some x]) svt (by have := hrr.length; omega) (fun _ => rfl) (fun _ => rfl)
          (fun x hx H2 N S e2 kN kS => ?_) fun D H4 e4 eD hD => ?_
        · walk_at "rqs"
          refine rd_notInT (Evl.ex_t (et.trans e2) hb) ?_
          rw [hp.neg (hrr.2 x hx).1 (hno x hx), Bool.not_not]
          walk_at "rqs"
          cases c : openIn p x with
          | true =>
            rw [if_pos rfl]
            walk_at "rqs"
            exact kN c _ (Evl.Ex.refl _)
          | false =>
            rw [if_neg (by decide)]
            exact kS c _ (Evl.Ex.refl _)
        walk_at "rqs"
        refine rd_if ?_
        walk_at "rqs"
        refine ⟨Nat.zero_le _, fun t2 ht2 => ?_⟩
        have e5 := Evl.Ex.trans e4 (Evl.Ex.new (o := .lst []) ht2)
        have hD5 := (Evl.Ex.new (o := .lst []) ht2) _ _ hD
        refine rd_noneI (SqL.of hD5) (SqL.of upd_same) ?_
        walk_at "rqs"
        have eL5 := e5 _ _ eLt
        have hy5 := dpAll_ex e5 _ _ hyt
        have et5 := et.trans e5
        clear eLt hyt hD eD e4
        generalize upd H4 t2 (.lst []) = H5 at eL5 hy5 et5 hD5 ⊢
        cases cr : (r.filter (openIn p)).isEmpty with
        | true =>
          refine (if_pos rfl).mpr ?_
          walk_at "rqs"
          have hin : [] ∈ askedF p rs := by
            have h1 : r.filter (openIn p) = [] := List.isEmpty_iff.mp cr
            exact List.mem_map.mpr ⟨r, List.mem_filter.mpr ⟨hrm, by rw [ct]; rfl⟩, h1⟩
          refine ⟨(by show 2 ≤ sizeLine; decide), fun o ho => ?_⟩
          refine q _ _ (et5.trans (Evl.Ex.new ho)) ⟨o, 0, rfl, (wayR_lost hin).symm, ?_⟩
          rw [winR_lost hin]
          exact SqT.of upd_same
        | false =>
          refine (if_neg (by decide)).mpr ?_
          walk_at "rqs"
          refine rd_tyL eL5 ?_
          walk_at "rqs"
          refine rd_tupL (SqL.of hD5) fun o ho => ?_
          have e6 := Evl.Ex.new (o := .tup ((r.filter (openIn p)).map V.int)) ho
          walk_at "rqs"
          refine rd_append (e6 _ _ eL5) (by omega) ?_
          walk_at "rqs"
          refine ⟨_, _, ys ++ [.ref o], rfl, Evl.Ex.mut (et5.trans e6) hL, upd_same, ?_, ?_⟩
          · rw [ea, List.map_append]
            refine dps_mono (fun _ _ t => tup_upd (e6 _ _ eL5) lst_not t) _ _ ?_ (dpAll_app (dpAll_ex e6 _ _ hy5) (.cons (dp_of_row (SqT.of upd_same)) .nil))
            exact noLs_all fun d h => by
              rcases List.mem_append.mp h with h | h
              · obtain ⟨r, _, rfl⟩ := List.mem_map.mp h
                exact noL_dR r
              · obtain ⟨r, _, rfl⟩ := List.mem_map.mp h
                exact noL_dR r
          · rw [ea]
            intro hm
            rcases List.mem_append.mp hm with hm | hm
            · exact hne hm
            · rw [← List.mem_singleton.mp hm] at cr
              cases cr
    · obtain ⟨x4, x5, ys, rfl, e, eL', hys, hne⟩ := hP
      rw [lx, List.take_of_length_le (Nat.le_refl _)] at hys hne
      have yl : ys.length = (askedF p rs).length := by rw [dpAll_len hys, List.length_map]
      have al := askedF_len p rs
      have hfrom := askedF_from (p := p) hrow
      have harow := askedF_row (p := p) hrow
      walk_at "rqs"
      refine rd_lenT (Evl.ex_t e hb) ?_
      rw [psz]
      walk_at "rqs"
      refine rd_if ?_
      walk_at "rqs"
      refine rd_lenS (by rw [hz.1, sizeLine_eq]; omega) ?_
      rw [hz.1]
      walk_at "rqs"
      refine rd_ite (fun cn => ?_) (fun cn => ?_)
      · have cn := V.int.inj cn
        walk_at "rqs"
        refine ⟨(by show 2 ≤ sizeLine; decide), fun o ho => ?_⟩
        have hnil : askedF p rs = [] := by
          cases hq : askedF p rs with
          | nil => rfl
          | cons r0 t0 =>
            exfalso
            have h0 := hfrom r0 (by rw [hq]; exact List.mem_cons_self)
            cases r0 with
            | nil => exact hne (by rw [hq]; exact List.mem_cons_self)
            | cons y t =>
              have := h0.2 y List.mem_cons_self
              omega
        refine q _ _ (e.trans (Evl.Ex.new ho)) ⟨o, 1, rfl, ?_, ?_⟩
        · rw [hnil, show n - p.length = 0 by omega] <;> rfl
        rw [hnil, winR_nil]
        exact SqT.of upd_same
      · have cn : p.length < n := by
          have : (p.length : Int) ≠ (n : Int) := fun z => cn (congrArg V.int z)
          omega
        walk_at "rqs"
        refine rd_if ?_
        walk_at "rqs"
        refine ⟨Nat.zero_le _, fun t ht => ?_⟩
        have e2 := Evl.Ex.new (o := .lst []) ht
        refine ⟨.list ((askedF p rs).map dR), .list [], .lst (SqL.of (e2 _ _ eL')) (dpAll_ex e2 _ _ hys), .lst (SqL.of upd_same) .nil, (Nice.lst (nice_rows (by omega : n ≤ 60) harow)).shaped (by decide), rfl, ?_⟩
        have ee : PyData.eqv (.list ((askedF p rs).map dR)) (.list []) = (askedF p rs).isEmpty := by cases askedF p rs <;> rfl
        rw [ee]
        have e2 := e.trans e2
        have eL2 := (Evl.Ex.new (o := .lst []) ht) _ _ eL'
        have hy2 := dpAll_ex (Evl.Ex.new (o := .lst []) ht) _ _ hys
        clear e eL' hys
        generalize upd H' t (.lst []) = H2 at e2 eL2 hy2 ⊢
        walk_at "rqs"
        cases ca : (askedF p rs).isEmpty with
        | true =>
          refine (if_pos rfl).mpr ?_
          have ca := List.isEmpty_iff.mp ca
          walk_at "rqs"
          refine rd_slS (by rw [hz.1, sizeLine_eq]; omega) ?_
          walk_at "rqs"
          refine ⟨_, n - p.length, rfl, own_drop hz (by omega), by omega, ?_⟩
          have hg : freeL (cutS z (some (p.length : Int)) none).cps.toList = wayR z (n - p.length) ((p.length : Int) + 1) (askedF p rs) := by
            rw [ca, free_way _ _ (by rw [show z.cps.toList.length = n from hz.1]; omega), cutS_drop]
          generalize freeL (cutS z (some (p.length : Int)) none).cps.toList = g at hg ⊢
          walk_at "rqs"
          refine ⟨(by show 2 ≤ sizeLine; decide), fun o ho => ?_⟩
          refine q _ _ (e2.trans (Evl.Ex.new ho)) ⟨o, g, rfl, hg, ?_⟩
          rw [ca, winR_nil]
          exact SqT.of upd_same
        | false =>
          refine (if_neg (by decide)).mpr ?_
          have hne0 : askedF p rs ≠ [] := fun z => by rw [z] at ca; cases ca
          walk_at "rqs"
          refine ⟨(by show 2 ≤ sizeLine; decide), fun tt htt => ?_⟩
          have e3 := Evl.Ex.new (o := .tup [V.int ((p.length : Int) + 1), V.int (-(p.length : Int) - 1)]) htt
          have eL3 := e3 _ _ eL2
          have hy3 := dpAll_ex e3 _ _ hy2
          have stt : SqT K (upd H2 tt (.tup [V.int ((p.length : Int) + 1), V.int (-(p.length : Int) - 1)])) tt [V.int ((p.length : Int) + 1), V.int (-(p.length : Int) - 1)] := SqT.of upd_same
          have e3 := e2.trans e3
          clear e2 eL2 hy2
          generalize upd H2 tt (.tup [V.int ((p.length : Int) + 1), V.int (-(p.length : Int) - 1)]) = H3 at e3 eL3 hy3 stt ⊢
          refine rd_ref stt ?_
          let lit : Nat → Int := fun i => if i = 0 then (p.length : Int) + 1 else -(p.length : Int) - 1
          have hlit : ∀ i, (lit i).natAbs = p.length + 1 := fun i => by
            show (if i = 0 then (p.length : Int) + 1 else -(p.length : Int) - 1).natAbs = _
            split <;> omega
          refine lc_exT (σx := fun x => [some (.str z), some (.ref a), some (.ref b), some (.ref L), x4, x5, some (.int (p.length : Int)), none, none, some x])
            (fun i acc H' => acc.length = i ∧ ∀ j v, acc[j]? = some v → EndT K H' n z (p ++ [lit j]) (askedF p rs) v)
            (fun i acc H1 D ys u hD h => ⟨h.1, fun j v hj => by
              obtain ⟨q1, c1, h1, h2, h3⟩ := h.2 j v hj
              exact ⟨q1, c1, h1, h2, tup_upd hD lst_not h3⟩⟩) stt (by show 2 ≤ 40000; decide) (fun _ => rfl) (fun _ => rfl) (fun H' _ => ⟨rfl, fun j v hj => by simp at hj⟩)
            (fun i x hi acc H' N e4 hP hN => ?_) fun D acc H5 e5 hDn hD hP => ?_
          · have hx : x = .int (lit i) := by
              cases i with
              | zero => exact (Option.some.inj hi).symm
              | succ i =>
                cases i with
                | zero => exact (Option.some.inj hi).symm
                | succ i => simp at hi
            subst hx
            walk_at "rqs"
            refine ⟨(by show 1 ≤ sizeLine; decide), fun u hu => ?_⟩
            have e5 := e4.trans (Evl.Ex.new (o := .tup [V.int (lit i)]) hu)
            refine rd_catT (Evl.ex_t (e3.trans e5) hb) (SqT.of upd_same) (by rw [psz, sizeLine_eq]; show _ + 1 ≤ _; omega) fun c H6 e6 s6 => ?_
            have e7 := e5.trans e6
            have s6 : SqT K H6 c ((p ++ [lit i]).map V.int) := by
              rw [List.map_append]
              exact s6
            have hlen : (p ++ [lit i]).length = p.length + 1 := by rw [List.length_append] <;> rfl
            refine ⟨z, L, c, n, ys, askedF p rs, p ++ [lit i], rfl, hz, hn, SqL.of (e7 _ _ eL3), dpAll_ex e7 _ _ hy3, harow, by omega, s6, hp.snoc (hlit i), by rw [hlen]; omega, by rw [hlen]; omega, fun v H7 e8 hv => ?_⟩
            have e9 : Evl.Ex H' H7 := ((Evl.Ex.new (o := .tup [V.int (lit i)]) hu).trans e6).trans e8
            refine hN v H7 e9 ⟨by rw [List.length_append, hP.1] <;> rfl, fun j w' hj => ?_⟩
            rw [List.getElem?_append] at hj
            split at hj
            · exact (hP.2 j w' hj).ex e9
            · next hc =>
              have hji : j = i := by
                have h1 := hP.1
                by_cases z : j - acc.length = 0
                · omega
                · rw [List.getElem?_eq_none (by show 1 ≤ j - acc.length; omega)] at hj
                  cases hj
              subst hji
              rw [hP.1, Nat.sub_self] at hj
              obtain rfl : v = w' := Option.some.inj hj
              exact hv
          · obtain ⟨v1, v2, rfl⟩ : ∃ v1 v2, acc = [v1, v2] := by
              have h1 := hP.1
              match acc, h1 with
              | [v1, v2], _ => exact ⟨v1, v2, rfl⟩
            obtain ⟨q1, c1, rfl, hc1, t1⟩ := hP.2 0 v1 rfl
            obtain ⟨q2, c2, rfl, hc2, t2⟩ := hP.2 1 v2 rfl
            have l1 : (p ++ [lit 0]).length = p.length + 1 := by rw [List.length_append] <;> rfl
            have l2 : (p ++ [lit 1]).length = p.length + 1 := by rw [List.length_append] <;> rfl
            have as1 := askedF_snoc (rs := askedF p rs) (hlit 0) hfrom hne
            have as2 := askedF_snoc (rs := askedF p rs) (hlit 1) hfrom hne
            have hl1 : lit 1 = -((p.length : Int) + 1) := by show -(p.length : Int) - 1 = _; omega
            have hl0 : lit 0 = (p.length : Int) + 1 := rfl
            rw [l1, as1, hl0] at hc1
            rw [l2, as2, hl1] at hc2
            rw [l1, as1, hl0] at t1
            rw [l2, as2, hl1] at t2
            obtain ⟨m, hm⟩ : ∃ m, n - p.length = m + 1 := ⟨n - p.length - 1, by omega⟩
            have hm2 : n - (p.length + 1) = m := by omega
            rw [hm2] at hc1 hc2 t1 t2
            have step := winR_step (z := z) (m := m) (letter := (p.length : Int) + 1) hne0 hne
            rw [show ((p.length + 1 : Nat) : Int) + 1 = (p.length : Int) + 1 + 1 by omega] at t1 t2 hc1 hc2
            have wst := wayR_step (z := z) (m := m) (letter := (p.length : Int) + 1) hne
            have hb1 : c1 < 2 ^ 2 ^ m := hc1 ▸ wayR_lt _ _ _ _
            have hb2 : c2 < 2 ^ 2 ^ m := hc2 ▸ wayR_lt _ _ _ _
            rw [← hc1, ← hc2] at wst
            clear hc1 hc2
            generalize winR z m ((p.length : Int) + 1 + 1) (beh ((p.length : Int) + 1) (askedF p rs)) = b1 at t1 step
            generalize winR z m ((p.length : Int) + 1 + 1) (beh (-((p.length : Int) + 1)) (askedF p rs)) = b2 at t2 step
            have fin : ∀ (cnt : Nat) (bw : Bool) (o : Addr) (H8 : Hp), Evl.Ex H5 H8 → H8 o = none → cnt = wayR z (m + 1) ((p.length : Int) + 1) (askedF p rs) → winR z (m + 1) ((p.length : Int) + 1) (askedF p rs) = bw → Q (.ref o) (upd H8 o (.tup [.str (whoT bw), .int (cnt : Int)])) := fun cnt bw o H8 e8 ho hc hw => by
              refine q _ _ (((e3.trans e5).trans e8).trans (Evl.Ex.new ho)) ⟨o, cnt, rfl, ?_, ?_⟩
              · rw [hm]
                exact hc
              · rw [hm, hw]
                exact SqT.of upd_same
            refine rd_unl2 (SqL.of hD) rfl (σ' := [some (.str z), some (.ref a), some (.ref b), some (.ref L), x4, x5, some (.int (p.length : Int)), some (.ref q1), some (.ref q2), none]) rfl ?_
            walk_at "rqs"
            refine rd_if ?_
            walk_at "rqs"
            have hat : atI z.cps.toList (p.length : Int) = some (sgn z ((p.length : Int) + 1)) := by
              have := at_sgn2 hz (x := (p.length : Int) + 1) (by omega) (by omega)
              rw [show (p.length : Int) + 1 - 1 = (p.length : Int) by omega] at this
              exact this
            refine rd_ixS (by rw [hz.1, sizeLine_eq]; omega) hat ?_
            walk_at "rqs"
            refine rd_iteb (b := heldBy z "s" ((p.length : Int) + 1)) (fun ch => ?_) (fun ch => ?_)
            · rw [if_pos ch] at step wst
              walk_at "rqs"
              refine rd_ixT t1 rfl ?_
              walk_at "rqs"
              refine rd_ixT t2 rfl ?_
              walk_at "rqs"
              refine ⟨(by show 2 ≤ sizeLine; decide), fun u hu => ?_⟩
              have eu := Evl.Ex.new (o := .tup [V.str (whoT b1), .str (whoT b2)]) hu
              refine ⟨u, _, rfl, .inr (SqT.of upd_same), rfl, rfl, ?_⟩
              rw [if_neg (by decide), inV_who]
              walk_at "rqs"
              refine who_lit ?_
              walk_at "rqs"
              refine rd_ixT (Evl.ex_t eu t1) rfl ?_
              walk_at "rqs"
              refine rd_ixT (Evl.ex_t eu t2) rfl ?_
              walk_at "rqs"
              refine ⟨(by show 2 ≤ sizeLine; decide), fun o ho => ?_⟩
              exact fin (c1 + c2) (b1 || b2) o _ eu ho wst.symm step
            · rw [if_neg (by rw [ch]; decide)] at step wst
              have hpow : (0 : Nat) < 2 ^ m := Nat.two_pow_pos m
              have hp13 : 2 ^ m ≤ 2 ^ 13 := Nat.pow_le_pow_right (by decide) (by omega)
              have h13 : (2 : Nat) ^ 13 = 8192 := by decide
              have last : ∀ (bw : Bool), (b1 && b2) = bw → tCons (tOp (rI CMulW fun i j => V.int (i * j)) (tOp (rIxT K) (tVar 7) (tC (.int 1))) (tOp (rIxT K) (tVar 8) (tC (.int 1)))) tNil [some (.str z), some (.ref a), some (.ref b), some (.ref L), x4, x5, some (.int (p.length : Int)), some (.ref q1), some (.ref q2), none] H5
                  (fun xs H2 => (V.str (whoT bw) :: xs).length ≤ sizeLine ∧ ∀ p, H2 p = none → Q (.ref p) (upd H2 p (.tup (V.str (whoT bw) :: xs)))) := fun bw hbw => by
                walk_at "rqs"
                refine rd_ixT t1 rfl ?_
                walk_at "rqs"
                refine rd_ixT t2 rfl ?_
                walk_at "rqs"
                refine rd_I (wide_mul (by rw [Int.natAbs_natCast]; exact hb1) (by rw [Int.natAbs_natCast]; exact hb2) hpow hpow (by omega)) ?_
                walk_at "rqs"
                refine ⟨(by show 2 ≤ sizeLine; decide), fun o ho => ?_⟩
                have := fin (c1 * c2) bw o _ (Evl.Ex.refl _) ho wst.symm (step.trans hbw)
                rw [Int.natCast_mul] at this
                exact this
              walk_at "rqs"
              refine rd_chain ?_
              walk_at "rqs"
              refine rd_ixT t1 rfl ?_
              walk_at "rqs"
              refine rd_ixT t2 rfl ?_
              walk_at "rqs"
              cases b1 with
              | true =>
                cases b2 with
                | true =>
                  refine (if_pos (decide_eq_true rfl)).mpr ?_
                  walk_at "rqs"
                  refine (if_pos (by decide)).mpr ?_
                  exact last true rfl
                | false =>
                  refine (if_neg (by decide)).mpr ?_
                  walk_at "rqs"
                  refine rd_ixT t1 rfl ?_
                  walk_at "rqs"
                  refine rd_ixT t2 rfl ?_
                  walk_at "rqs"
                  refine rd_I (wide_mul (by rw [Int.natAbs_natCast]; exact hb1) (by rw [Int.natAbs_natCast]; exact hb2) hpow hpow (by omega)) ?_
                  walk_at "rqs"
                  refine ⟨(by show 2 ≤ sizeLine; decide), fun o ho => ?_⟩
                  have := fin (c1 * c2) false o _ (Evl.Ex.refl _) ho wst.symm step
                  rw [Int.natCast_mul] at this
                  exact this
              | false =>
                cases b2 with
                | true =>
                  refine (if_neg (by decide)).mpr ?_
                  walk_at "rqs"
                  refine rd_ixT t1 rfl ?_
                  walk_at "rqs"
                  refine rd_ixT t2 rfl ?_
                  walk_at "rqs"
                  refine rd_I (wide_mul (by rw [Int.natAbs_natCast]; exact hb1) (by rw [Int.natAbs_natCast]; exact hb2) hpow hpow (by omega)) ?_
                  walk_at "rqs"
                  refine ⟨(by show 2 ≤ sizeLine; decide), fun o ho => ?_⟩
                  have := fin (c1 * c2) false o _ (Evl.Ex.refl _) ho wst.symm step
                  rw [Int.natCast_mul] at this
                  exact this
                | false =>
                  refine (if_pos (decide_eq_true rfl)).mpr ?_
                  walk_at "rqs"
                  refine (if_neg Bool.false_ne_true).mpr ?_
                  exact last false rfl
theorem ok_ends0 {f : Addr} {fd : FuncData} : FnOk P w K mg base CX0 1 f fd ["owners", "rows", "play"] (spEndsL K 0) :=
  ⟨fun vs H Q E h => by
    obtain ⟨z, a, b, n, xs, rs, p, _, _, _, _, _, _, _, _, _, _, hM, _⟩ := h
    exact absurd hM (Nat.not_lt_zero _), fun A outer s H args us vs Q E hr e0 hb r hsp => by
    obtain ⟨z, a, b, n, xs, rs, p, _, _, _, _, _, _, _, _, _, _, hM, _⟩ := hsp
    exact absurd hM (Nat.not_lt_zero _)⟩
theorem ok_ends {f fF : Addr} {fd fdF : FuncData} (F : Fun K "_law_ends" "_law_ends" s_law_ends f fd) (T : Bl mg)
    (G_law_free : FnOk P w K mg base CX0 1 fF fdF ["owners"] (spFree K)) (C_law_free : Callee K mg "_law_free" fF fdF ["owners"])
    (C_law_ends : Callee K mg "_law_ends" f fd ["owners", "rows", "play"]) : ∀ M : Nat, FnOk P w K mg base CX0 (M + 1) f fd ["owners", "rows", "play"] (spEndsL K M)
  | 0 => ok_ends0
  | M + 1 => ok_ends1 F T (Nat.succ_le_succ (Nat.zero_le M)) G_law_free C_law_free (ok_ends F T G_law_free C_law_free C_law_ends M) C_law_ends
/-- at the top -/
theorem ok_endsTop {f fF : Addr} {fd fdF : FuncData} (F : Fun K "_law_ends" "_law_ends" s_law_ends f fd) (T : Bl mg)
    (G_law_free : FnOk P w K mg base CX0 1 fF fdF ["owners"] (spFree K)) (C_law_free : Callee K mg "_law_free" fF fdF ["owners"])
    (C_law_ends : Callee K mg "_law_ends" f fd ["owners", "rows", "play"]) : FnOk P w K mg base CX0 14 f fd ["owners", "rows", "play"] (spEndsT K 13) :=
  ok_endsT F T (by decide) G_law_free C_law_free (ok_ends F T G_law_free C_law_free C_law_ends 12) C_law_ends
end
end KA
set_option Elab.async false
set_option linter.all false
set_option maxRecDepth 100000
set_option maxHeartbeats 400000
set_option pp.maxSteps 300
namespace KA
open PySem PySem.Spec PyProof.Rows L2 Ea
abbrev strees : Stmt := topS 18
theorem sctrees : FnScope ["sentence"] ["sentence"] (defScope strees) :=
  ⟨rfl, rfl, rfl, by decide +kernel, rfl, by decide +kernel, by decide +kernel⟩
abbrev swinner : Stmt := topS 15
theorem scwinner : FnScope ["sentence", "play", "wins"] ["sentence", "play"] (defScope swinner) :=
  ⟨rfl, rfl, rfl, by decide +kernel, rfl, by decide +kernel, by decide +kernel⟩
local macro_rules | `(tactic| walk_at "rd") => `(tactic| first
  | (with_reducible refine rd_seq ?_) | (with_reducible refine rd_asg ?_) | (with_reducible refine rd_if ?_) | (with_reducible refine rd_ret ?_) | (with_reducible refine rd_next ?_)
  | (with_reducible refine rd_drop ?_) | ((with_reducible refine rd_name (σ' := ?ss) ?hs ?_); (case hs => (dsimp only [List.set]; exact rfl)))
  | ((with_reducible refine rd_var (v := ?vv) ?hv ?_); (case hv => exact rfl)) | (with_reducible refine rd_c ?_) | (with_reducible refine rd_op ?_) | (with_reducible refine rd_un ?_)
  | (with_reducible refine rd_I0 ?_) | (with_reducible refine rd_U ?_) | (with_reducible refine rd_test ?_) | (with_reducible refine rd_B ?_) | (with_reducible refine rd_k ?_)
  | (with_reducible refine rd_not ?_) | (with_reducible refine rd_and ?_) | (with_reducible refine rd_or ?_) | (with_reducible refine rd_ifE ?_)
  | (with_reducible refine rd_par ?_) | ((with_reducible refine rd_par2 (σ' := ?ss) ?hs ?_); (case hs => (dsimp only [List.set]; exact rfl)))
  | (with_reducible refine rd_gsub ?_) | (with_reducible refine rd_andV ?_) | (with_reducible refine rd_orV ?_) | (with_reducible refine rd_notV ?_)
  | (with_reducible refine rd_lc ?_) | (with_reducible refine rd_iTup ?_) | (with_reducible refine rd_iList ?_) | (with_reducible refine rd_iRng1 ?_) | (with_reducible refine rd_iRng2 ?_) | (with_reducible refine rd_iEnumT ?_) | (with_reducible refine rd_iEnum ?_) | (with_reducible refine rd_iZipM ?_) | (with_reducible refine rd_iEnumS ?_) | (with_reducible refine rd_iKeys ?_) | (with_reducible refine rd_din ?_) | (with_reducible refine rd_dnotin ?_)
  | (with_reducible refine rd_yes ?_) | (with_reducible refine rd_true ?_) | (with_reducible refine rd_false ?_) | (with_reducible refine rd_m1 ?_) | (with_reducible refine rd_isS ?_)
  | ((with_reducible refine rd_eq ?hs ?_); (case hs => exact rfl)) | ((with_reducible refine rd_ne ?hs ?_); (case hs => exact rfl))
  | (with_reducible refine rd_listRg ?_) | (with_reducible refine rd_rg2 ?_) | (with_reducible refine rd_rgk ?_)
  | (with_reducible refine rd_dnew ?_) | (with_reducible refine rd_ddel ?_) | (with_reducible refine rd_kw ?_) | (with_reducible refine rd_callS ?_) | (with_reducible refine rd_dc ?_) | (with_reducible refine rd_for ?_) | (with_reducible refine rd_tru ?_) | (with_reducible refine rd_truI ?_)
  | (with_reducible refine rd_nil ?_) | (with_reducible refine rd_cons ?_) | (with_reducible refine rd_call ?_) | (with_reducible refine rd_cb ?_)
  | (with_reducible refine rd_tup ?_) | (with_reducible refine rd_lst ?_) | (with_reducible refine rd_dget ?_) | (with_reducible refine rd_dput ?_) | (with_reducible refine rd_dget2 ?_) | (with_reducible refine rd_sl ?_)
  | (with_reducible refine rd_nopart ?_) | (with_reducible refine rd_part ?_) | (with_reducible refine rd_parti ?_) | (with_reducible refine rd_bm ?_) | (with_reducible refine rd_bm0 ?_)
  | (with_reducible refine rd_int ?_) | (with_reducible refine rd_intb ?_) | (with_reducible refine rd_abs ?_) | (with_reducible refine rd_min2 ?_) | (with_reducible refine rd_max2 ?_))
local macro_rules | `(tactic| walk_at "rds") => `(tactic| repeat (walk_at "rd"))
local macro_rules | `(tactic| walk_at "rq") => `(tactic| first
  | (with_reducible refine rd_seq ?_) | (with_reducible refine rd_asg ?_) | (with_reducible refine rd_ret ?_) | (with_reducible refine rd_next ?_)
  | (with_reducible refine rd_drop ?_) | ((with_reducible refine rd_name (σ' := ?ss) ?hs ?_); (case hs => (dsimp only [List.set]; exact rfl)))
  | ((with_reducible refine rd_var (v := ?vv) ?hv ?_); (case hv => exact rfl)) | (with_reducible refine rd_c ?_) | (with_reducible refine rd_op ?_) | (with_reducible refine rd_un ?_)
  | (with_reducible refine rd_I0 ?_) | (with_reducible refine rd_U ?_) | (with_reducible refine rd_test ?_) | (with_reducible refine rd_B ?_) | (with_reducible refine rd_k ?_)
  | (with_reducible refine rd_not ?_) | (with_reducible refine rd_and ?_) | (with_reducible refine rd_or ?_) | (with_reducible refine rd_ifE ?_)
  | (with_reducible refine rd_par ?_) | ((with_reducible refine rd_par2 (σ' := ?ss) ?hs ?_); (case hs => (dsimp only [List.set]; exact rfl)))
  | (with_reducible refine rd_gsub ?_) | (with_reducible refine rd_andV ?_) | (with_reducible refine rd_orV ?_) | (with_reducible refine rd_notV ?_)
  | (with_reducible refine rd_lc ?_) | (with_reducible refine rd_iTup ?_) | (with_reducible refine rd_iList ?_) | (with_reducible refine rd_iRng1 ?_) | (with_reducible refine rd_iRng2 ?_) | (with_reducible refine rd_iEnumT ?_) | (with_reducible refine rd_iEnum ?_) | (with_reducible refine rd_iZipM ?_) | (with_reducible refine rd_iEnumS ?_) | (with_reducible refine rd_iKeys ?_) | (with_reducible refine rd_din ?_) | (with_reducible refine rd_dnotin ?_)
  | (with_reducible refine rd_yes ?_) | (with_reducible refine rd_true ?_) | (with_reducible refine rd_false ?_) | (with_reducible refine rd_m1 ?_) | (with_reducible refine rd_isS ?_)
  | ((with_reducible refine rd_eq ?hs ?_); (case hs => exact rfl)) | ((with_reducible refine rd_ne ?hs ?_); (case hs => exact rfl))
  | (with_reducible refine rd_listRg ?_) | (with_reducible refine rd_rg2 ?_) | (with_reducible refine rd_rgk ?_)
  | (with_reducible refine rd_dnew ?_) | (with_reducible refine rd_ddel ?_) | (with_reducible refine rd_kw ?_) | (with_reducible refine rd_callS ?_) | (with_reducible refine rd_dc ?_) | (with_reducible refine rd_for ?_) | (with_reducible refine rd_tru ?_) | (with_reducible refine rd_truI ?_)
  | (with_reducible refine rd_nil ?_) | (with_reducible refine rd_cons ?_) | (with_reducible refine rd_call ?_) | (with_reducible refine rd_cb ?_)
  | (with_reducible refine rd_tup ?_) | (with_reducible refine rd_lst ?_) | (with_reducible refine rd_dget ?_) | (with_reducible refine rd_dput ?_) | (with_reducible refine rd_dget2 ?_) | (with_reducible refine rd_sl ?_)
  | (with_reducible refine rd_nopart ?_) | (with_reducible refine rd_part ?_) | (with_reducible refine rd_parti ?_) | (with_reducible refine rd_bm ?_) | (with_reducible refine rd_bm0 ?_)
  | (with_reducible refine rd_int ?_) | (with_reducible refine rd_intb ?_) | (with_reducible refine rd_abs ?_) | (with_reducible refine rd_min2 ?_) | (with_reducible refine rd_max2 ?_))
local macro_rules | `(tactic| walk_at "rqs") => `(tactic| repeat (walk_at "rq"))
local macro_rules | `(tactic| walk_at "rv") => `(tactic| first
  | (with_reducible refine rd_seq ?_) | (with_reducible refine rd_asg ?_) | (with_reducible refine rd_ret ?_) | (with_reducible refine rd_next ?_)
  | (with_reducible refine rd_drop ?_) | ((with_reducible refine rd_name (σ' := ?ss) ?hs ?_); (case hs => (dsimp only [List.set]; exact rfl)))
  | ((with_reducible refine rd_var (v := ?vv) ?hv ?_); (case hv => exact rfl)) | (with_reducible refine rd_c ?_) | (with_reducible refine rd_op ?_) | (with_reducible refine rd_un ?_)
  | (with_reducible refine rd_I0 ?_) | (with_reducible refine rd_U ?_) | (with_reducible refine rd_test ?_) | (with_reducible refine rd_B ?_) | (with_reducible refine rd_k ?_)
  | (with_reducible refine rd_not ?_) | (with_reducible refine rd_and ?_) | (with_reducible refine rd_or ?_)
  | (with_reducible refine rd_par ?_) | ((with_reducible refine rd_par2 (σ' := ?ss) ?hs ?_); (case hs => (dsimp only [List.set]; exact rfl)))
  | (with_reducible refine rd_gsub ?_) | (with_reducible refine rd_andV ?_) | (with_reducible refine rd_orV ?_) | (with_reducible refine rd_notV ?_)
  | (with_reducible refine rd_lc ?_) | (with_reducible refine rd_iTup ?_) | (with_reducible refine rd_iList ?_) | (with_reducible refine rd_iRng1 ?_) | (with_reducible refine rd_iRng2 ?_) | (with_reducible refine rd_iEnumT ?_) | (with_reducible refine rd_iEnum ?_) | (with_reducible refine rd_iZipM ?_) | (with_reducible refine rd_iEnumS ?_) | (with_reducible refine rd_iKeys ?_) | (with_reducible refine rd_din ?_) | (with_reducible refine rd_dnotin ?_)
  | (with_reducible refine rd_yes ?_) | (with_reducible refine rd_true ?_) | (with_reducible refine rd_false ?_) | (with_reducible refine rd_m1 ?_) | (with_reducible refine rd_isS ?_)
  | ((with_reducible refine rd_eq ?hs ?_); (case hs => exact rfl)) | ((with_reducible refine rd_ne ?hs ?_); (case hs => exact rfl))
  | (with_reducible refine rd_listRg ?_) | (with_reducible refine rd_rg2 ?_) | (with_reducible refine rd_rgk ?_)
  | (with_reducible refine rd_dnew ?_) | (with_reducible refine rd_ddel ?_) | (with_reducible refine rd_kw ?_) | (with_reducible refine rd_callS ?_) | (with_reducible refine rd_dc ?_) | (with_reducible refine rd_for ?_) | (with_reducible refine rd_tru ?_) | (with_reducible refine rd_truI ?_)
  | (with_reducible refine rd_nil ?_) | (with_reducible refine rd_cons ?_) | (with_reducible refine rd_call ?_) | (with_reducible refine rd_cb ?_)
  | (with_reducible refine rd_tup ?_) | (with_reducible refine rd_lst ?_) | (with_reducible refine rd_dget ?_) | (with_reducible refine rd_dput ?_) | (with_reducible refine rd_dget2 ?_) | (with_reducible refine rd_sl ?_)
  | (with_reducible refine rd_nopart ?_) | (with_reducible refine rd_part ?_) | (with_reducible refine rd_parti ?_) | (with_reducible refine rd_bm ?_) | (with_reducible refine rd_bm0 ?_)
  | (with_reducible refine rd_int ?_) | (with_reducible refine rd_intb ?_) | (with_reducible refine rd_abs ?_) | (with_reducible refine rd_min2 ?_) | (with_reducible refine rd_max2 ?_))
local macro_rules | `(tactic| walk_at "rvs") => `(tactic| repeat (walk_at "rv"))

/-- by names alone: the values stand the other way round -/
abbrev KwRev (fd : FuncData) (ks : List Str) : Prop := ∀ (s : Shared) (ws : List Value), ws.length = ks.length → BindsTo s fd ⟨[], ks.reverse.zip ws⟩ (ks.zip ws.reverse)
theorem rd_byF {fld : Str} {C a : Addr} {cls : Value} {d : Option Addr} {te : TE} {σ : L2.St} {H : Hp} {Q : VK} (h : te σ H fun x H1 => x = .ref a ∧ cls = .ref C ∧ ∃ (dd : Addr) (v : V), d = some dd ∧ H1 dd = some (.xd [(fld, v)]) ∧ Q v H1) : tByF fld C a cls d te σ H Q := h
theorem row_lit {n : Nat} {r : List Int} (h : Row n r) (hn : n ≤ 60) : Lit r := ⟨fun x hx => ⟨(h.2 x hx).1, Nat.le_trans (h.2 x hx).2 hn⟩, Nat.le_trans h.length hn⟩
/-- a sentence -/
def Sen (K : PySem.W.Frag) (H : Hp) (n : Nat) (a : Addr) (z : Str) (rs : List (List Int)) : Prop :=
  ∃ (c : Addr) (xs : List V), SqT K H a [.str z, .ref c] ∧ SqT K H c xs ∧ DpAll K H xs (rs.map dR) ∧ OwnS n z ∧ n ≤ 60 ∧ (∀ r ∈ rs, Row n r) ∧ rs.length ≤ 300
theorem Sen.ex {K : PySem.W.Frag} {H H' : Hp} {n : Nat} {a : Addr} {z : Str} {rs : List (List Int)} (e : Evl.Ex H H') (h : Sen K H n a z rs) : Sen K H' n a z rs := by
  obtain ⟨c, xs, h1, h2, h3, h4⟩ := h
  exact ⟨c, xs, Evl.ex_t e h1, Evl.ex_t e h2, dpAll_ex e _ _ h3, h4⟩
/-- who wins behind a play, and in how many ways -/
def winF (n : Nat) (z : Str) (rs : List (List Int)) (p : List Int) : Bool := winR z (n - p.length) ((p.length : Int) + 1) (askedF p rs)
def wayF (n : Nat) (z : Str) (rs : List (List Int)) (p : List Int) : Nat := wayR z (n - p.length) ((p.length : Int) + 1) (askedF p rs)
theorem calm {P : Program} {w : World} {K : PySem.W.Frag} {mg : Str → Option Value} {base : Heap} {k : Nat} {f : Addr} {fd : FuncData} {ps : List Str} {sp sp0 : Sp} (F : FnOk P w K mg base (L2.CX P w) k f fd ps sp) (h : ∀ vs H Q E, sp0 vs H Q E → sp vs H Q E0) : FnOk P w K mg base CX0 k f fd ps sp0 :=
  ⟨fun vs H Q E h0 => F.len vs H Q E0 (h _ _ _ _ h0), fun A outer s H args us vs Q E hr he hb hv hs => codeAny_mono (F.run A outer s H args us vs Q E0 hr he hb hv (h _ _ _ _ hs)) fun r s' q => by
    cases r with
    | error e =>
      obtain ⟨_, _, _, _, _, _, _, _, _, _, _, _, z⟩ := q
      exact z.elim
    | ok fl => cases fl <;> exact q⟩
section
variable {P : Program} {w : World} {K : PySem.W.Frag} {mg : Str → Option Value} {base : Heap}
def spTrees (K : PySem.W.Frag) (C : Addr) : Sp := fun vs H Q E => ∃ (a : Addr) (z : Str) (n : Nat) (rs : List (List Int)), vs = [.ref a] ∧ Sen K H n a z rs ∧
  (n ≤ 12 → ∀ H', Evl.Ex H H' → Q (.int ((wayF n z rs [] : Nat) : Int)) H') ∧ (12 < n → OutM C H E)
theorem ok_trees {f C fC fA fW : Addr} {fd fdC fdA fdW : FuncData} (F : Fun K "trees" "trees" strees f fd) (T : Bl mg)
    (Gcheck_size : FnOk P w K mg base (L2.CX P w) 3 fC fdC ["sentence"] (spSize K C)) (Ccheck_size : Callee K mg "check_size" fC fdC ["sentence"])
    (Gasked_from : FnOk P w K mg base CX0 2 fA fdA ["sentence", "play"] (spFrom K)) (Casked_from : Callee K mg "asked_from" fA fdA ["sentence", "play"])
    (Gwinning_ways : FnOk P w K mg base CX0 14 fW fdW ["owners", "letter", "asked"] (spWays K 13)) (Cwinning_ways : Callee K mg "winning_ways" fW fdW ["owners", "letter", "asked"]) :
    FnOk P w K mg base (L2.CX P w) 15 f fd ["sentence"] (spTrees K C) := by
  refine F.okX sctrees (fun vs H Q E h => ?_) (fun cdv A outer s H vs Q E hr h => ?_)
  · obtain ⟨a, z, n, rs, rfl, _⟩ := h
    rfl
  · obtain ⟨a, z, n, rs, rfl, ⟨c, xs, s1, s2, dd, hz, hn, hrow, hl⟩, q1, q2⟩ := h
    refine ⟨_, (pss_cons (ps_expr (pe_callS Gcheck_size (hr.mono (by decide)) (by rfl) Ccheck_size.m Ccheck_size.k Ccheck_size.b (fun σ => passAt (takes_of rfl rfl rfl rfl) σ) (pa_cons (pv 0) pa_nil)))
 (pss_one (ps_ret (pe_call Gwinning_ways (hr.mono (by decide)) (by rfl) Cwinning_ways.m Cwinning_ways.k Cwinning_ways.b .nil pass0 (pa_cons (pe_ix (ik_tup (K := K) rfl) (pv 0) pe_int (fun _ _ => rfl)) (pa_cons pe_int (pa_cons (pe_call Gasked_from (hr.mono (by decide)) (by rfl) Casked_from.m Casked_from.k Casked_from.b .nil pass0 (pa_cons (pv 0) (pa_cons (pe_tup pa_nil) pa_nil))) pa_nil))))))), ?_⟩
    refine rd_start (σ' := [some (.ref a)]) rfl ?_
    walk_at "rqs"
    refine ⟨a, c, z, n, rfl, s1, hz, hn, fun hn12 => ?_, q2⟩
    walk_at "rqs"
    refine rd_ixT s1 rfl ?_
    walk_at "rqs"
    refine ⟨Nat.zero_le _, fun t ht => ?_⟩
    have e0 := Evl.Ex.new (o := .tup []) ht
    walk_at "rqs"
    refine ⟨a, c, t, z, xs, rs, [], rfl, Evl.ex_t e0 s1, Evl.ex_t e0 s2, dpAll_ex e0 _ _ dd, fun r hr => row_lit (hrow r hr) hn, by omega, SqT.of upd_same, by decide, fun D ys H1 e1 eD hD hys => ?_⟩
    have hal := askedF_len [] rs
    refine ⟨D, z, n, n, 1, ys, askedF [] rs, rfl, hz, hn12, by decide, by omega, by omega, SqL.of hD, hys, askedF_from (p := []) hrow, by omega, fun H2 e2 => ?_⟩
    walk_at "rds"
    exact q1 hn12 _ ((e0.trans e1).trans e2)
def spWinner (K : PySem.W.Frag) (C : Addr) : Sp := fun vs H Q E => ∃ (a b : Addr) (z : Str) (n : Nat) (rs : List (List Int)) (p : List Int), vs = [.ref a, .ref b] ∧ Sen K H n a z rs ∧ SqT K H b (p.map V.int) ∧ p.length ≤ n ∧
  (n ≤ 12 → ∀ H', Evl.Ex H H' → Q (.str (whoT (winF n z rs p))) H') ∧ (12 < n → OutM C H E)
theorem ok_winner {f C fC fA fW : Addr} {fd fdC fdA fdW : FuncData} (F : Fun K "winner" "winner" swinner f fd) (T : Bl mg)
    (Gcheck_size : FnOk P w K mg base (L2.CX P w) 3 fC fdC ["sentence"] (spSize K C)) (Ccheck_size : Callee K mg "check_size" fC fdC ["sentence"])
    (Gasked_from : FnOk P w K mg base CX0 2 fA fdA ["sentence", "play"] (spFrom K)) (Casked_from : Callee K mg "asked_from" fA fdA ["sentence", "play"])
    (Gsome_wins : FnOk P w K mg base CX0 14 fW fdW ["owners", "letter", "asked"] (spWins K 13)) (Csome_wins : Callee K mg "some_wins" fW fdW ["owners", "letter", "asked"]) :
    FnOk P w K mg base (L2.CX P w) 15 f fd ["sentence", "play"] (spWinner K C) := by
  refine F.okX scwinner (fun vs H Q E h => ?_) (fun cdv A outer s H vs Q E hr h => ?_)
  · obtain ⟨a, b, z, n, rs, p, rfl, _⟩ := h
    rfl
  · obtain ⟨a, b, z, n, rs, p, rfl, ⟨c, xs, s1, s2, dd, hz, hn, hrow, hl⟩, hb, pl, q1, q2⟩ := h
    refine ⟨_, (pss_cons (ps_expr (pe_callS Gcheck_size (hr.mono (by decide)) (by rfl) Ccheck_size.m Ccheck_size.k Ccheck_size.b (fun σ => passAt (takes_of rfl rfl rfl rfl) σ) (pa_cons (pv 0) pa_nil)))
 (pss_cons (ps_set (i := 2) scwinner.nd rfl (Or.inl rfl) (pe_call Gsome_wins (hr.mono (by decide)) (by rfl) Csome_wins.m Csome_wins.k Csome_wins.b .nil pass0 (pa_cons (pe_ix (ik_tup (K := K) rfl) (pv 0) pe_int (fun _ _ => rfl)) (pa_cons (pe_op op_add (pe_callB (c_len (K := K) rfl) (by rfl) T.len (by decide +kernel) (pa_cons (pv 1) pa_nil)) pe_int) (pa_cons (pe_call Gasked_from (hr.mono (by decide)) (by rfl) Casked_from.m Casked_from.k Casked_from.b .nil pass0 (pa_cons (pv 0) (pa_cons (pv 1) pa_nil))) pa_nil)))))
 (pss_one (ps_ret (pe_ifExp (pt_val (pv 2)) pe_str pe_str))))), ?_⟩
    refine rd_start (σ' := [some (.ref a), some (.ref b), none]) rfl ?_
    walk_at "rqs"
    refine ⟨a, c, z, n, rfl, s1, hz, hn, fun hn12 => ?_, q2⟩
    walk_at "rqs"
    refine rd_ixT s1 rfl ?_
    walk_at "rqs"
    refine rd_lenT hb ?_
    rw [List.length_map]
    walk_at "rqs"
    refine ⟨a, c, b, z, xs, rs, p, rfl, s1, s2, dd, fun r hr => row_lit (hrow r hr) hn, by omega, hb, by omega, fun D ys H1 e1 eD hD hys => ?_⟩
    have hal := askedF_len p rs
    refine ⟨D, z, n, n - p.length, (p.length : Int) + 1, ys, askedF p rs, rfl, hz, hn, by omega, by omega, by omega, SqL.of hD, hys, askedF_from hrow, by omega, fun H2 e2 => ?_⟩
    walk_at "rds"
    exact who_lit (q1 hn12 _ (e1.trans e2))
/-- where there are not too many -/
def spWinner0 (K : PySem.W.Frag) : Sp := fun vs H Q _ => ∃ (a b : Addr) (z : Str) (n : Nat) (rs : List (List Int)) (p : List Int), vs = [.ref a, .ref b] ∧ Sen K H n a z rs ∧ SqT K H b (p.map V.int) ∧ p.length ≤ n ∧ n ≤ 12 ∧
  ∀ H', Evl.Ex H H' → Q (.str (whoT (winF n z rs p))) H'
theorem ok_winner0 {f C : Addr} {fd : FuncData} (G : FnOk P w K mg base (L2.CX P w) 15 f fd ["sentence", "play"] (spWinner K C)) : FnOk P w K mg base CX0 15 f fd ["sentence", "play"] (spWinner0 K) :=
  calm G fun vs H Q E ⟨a, b, z, n, rs, p, e, hs, hb, pl, hn, q⟩ => ⟨a, b, z, n, rs, p, e, hs, hb, pl, fun _ => q, fun h => absurd h (by omega)⟩
/-- where there are not too many -/
def spTrees0 (K : PySem.W.Frag) : Sp := fun vs H Q _ => ∃ (a : Addr) (z : Str) (n : Nat) (rs : List (List Int)), vs = [.ref a] ∧ Sen K H n a z rs ∧ n ≤ 12 ∧ ∀ H', Evl.Ex H H' → Q (.int ((wayF n z rs [] : Nat) : Int)) H'
theorem ok_trees0 {f C : Addr} {fd : FuncData} (G : FnOk P w K mg base (L2.CX P w) 15 f fd ["sentence"] (spTrees K C)) : FnOk P w K mg base CX0 15 f fd ["sentence"] (spTrees0 K) :=
  calm G fun vs H Q E ⟨a, z, n, rs, e, hs, hn, q⟩ => ⟨a, z, n, rs, e, hs, fun _ => q, fun h => absurd h (by omega)⟩
end
end KA
set_option Elab.async false
set_option linter.all false
set_option maxRecDepth 100000
set_option maxHeartbeats 400000
set_option pp.maxSteps 300
namespace KA
open PySem PySem.Spec PyProof.Rows L2 Ea
theorem trueIn_app {p : List Int} {l x : Int} (h : x.natAbs ≤ p.length) (h1 : 1 ≤ x.natAbs) : trueIn (p ++ [l]) x = trueIn p x := by
  unfold trueIn
  have e : (p ++ [l]).getD (x.natAbs - 1) 0 = p.getD (x.natAbs - 1) 0 := by
    rw [List.getD_eq_getElem?_getD, List.getD_eq_getElem?_getD, List.getElem?_append_left (by omega)]
  rw [e, decide_eq_true h, decide_eq_true (by rw [List.length_append]; omega : x.natAbs ≤ (p ++ [l]).length)]
theorem askedF_cons (p r : List Int) (t : List (List Int)) : askedF p (r :: t) = if r.any (trueIn p) = true then askedF p t else r.filter (openIn p) :: askedF p t := by
  unfold askedF
  rw [List.filter_cons]
  cases r.any (trueIn p) <;> rfl
theorem askedF_trans {p : List Int} {l : Int} : ∀ {rs : List (List Int)}, (∀ r ∈ rs, ∀ x ∈ r, 1 ≤ x.natAbs) → askedF (p ++ [l]) (askedF p rs) = askedF (p ++ [l]) rs
  | [], _ => rfl
  | r :: t, h => by
    have ih := askedF_trans (p := p) (l := l) (rs := t) fun r hr => h r (List.mem_cons_of_mem _ hr)
    have h1 := h r List.mem_cons_self
    rw [askedF_cons p r t, askedF_cons (p ++ [l]) r t]
    have ln : (p ++ [l]).length = p.length + 1 := by rw [List.length_append] <;> rfl
    cases c : r.any (trueIn p) with
    | true =>
      have c2 : r.any (trueIn (p ++ [l])) = true := by
        obtain ⟨x, hx, tx⟩ := List.any_eq_true.mp c
        refine List.any_eq_true.mpr ⟨x, hx, ?_⟩
        have hl : x.natAbs ≤ p.length := by
          unfold trueIn at tx
          rw [Bool.and_eq_true] at tx
          exact of_decide_eq_true tx.1
        rw [trueIn_app hl (h1 x hx)]
        exact tx
      rw [if_pos rfl, c2, if_pos rfl]
      exact ih
    | false =>
      rw [if_neg (by decide), askedF_cons]
      have ea : (r.filter (openIn p)).any (trueIn (p ++ [l])) = r.any (trueIn (p ++ [l])) := by
        rw [Bool.eq_iff_iff, List.any_eq_true, List.any_eq_true]
        refine ⟨fun ⟨x, hx, tx⟩ => ⟨x, (List.mem_filter.mp hx).1, tx⟩, fun ⟨x, hx, tx⟩ => ⟨x, List.mem_filter.mpr ⟨hx, ?_⟩, tx⟩⟩
        refine decide_eq_true (Nat.lt_of_not_le fun hl => ?_)
        rw [trueIn_app hl (h1 x hx)] at tx
        have := List.any_eq_false.mp c x hx
        exact this tx
      have eb : (r.filter (openIn p)).filter (openIn (p ++ [l])) = r.filter (openIn (p ++ [l])) := by
        rw [List.filter_filter]
        refine List.filter_congr fun x _ => ?_
        cases q : openIn (p ++ [l]) x with
        | false => rfl
        | true =>
          have q := of_decide_eq_true q
          rw [ln] at q
          have : openIn p x = true := decide_eq_true (by omega)
          rw [this] <;> rfl
      rw [ea, eb, ih]
theorem askedF_nil {p : List Int} {rs : List (List Int)} : decide (askedF p rs = []) = rs.all fun r => r.any (trueIn p) := by
  induction rs with
  | nil => rfl
  | cons r t ih =>
    rw [askedF_cons, List.all_cons, ← ih]
    cases r.any (trueIn p) <;> simp
def resB (p : List Int) (rs : List (List Int)) : Bool := rs.all fun r => r.any (trueIn p)
theorem wayF_step {n : Nat} {z : Str} {rs : List (List Int)} {p : List Int} (hrow : ∀ r ∈ rs, Row n r) (hp : p.length < n) :
    wayF n z rs p = if heldBy z "s" ((p.length : Int) + 1) = true then wayF n z rs (p ++ [(p.length : Int) + 1]) + wayF n z rs (p ++ [-((p.length : Int) + 1)]) else wayF n z rs (p ++ [(p.length : Int) + 1]) * wayF n z rs (p ++ [-((p.length : Int) + 1)]) := by
  have h1 : ∀ r ∈ rs, ∀ x ∈ r, 1 ≤ x.natAbs := fun r hr x hx => ((hrow r hr).2 x hx).1
  obtain ⟨m, hm⟩ : ∃ m, n - p.length = m + 1 := ⟨n - p.length - 1, by omega⟩
  have ch : ∀ l : Int, wayF n z rs (p ++ [l]) = wayR z m ((p.length : Int) + 1 + 1) (askedF (p ++ [l]) (askedF p rs)) := fun l => by
    unfold wayF
    have ln : (p ++ [l]).length = p.length + 1 := by rw [List.length_append] <;> rfl
    rw [askedF_trans h1, ln]
    have e1 : n - (p.length + 1) = m := by omega
    rw [e1]
    congr 1
  rw [ch, ch]
  have hfrom := askedF_from (p := p) hrow
  unfold wayF
  rw [hm]
  by_cases hn : [] ∈ askedF p rs
  · have hc : ∀ l : Int, [] ∈ askedF (p ++ [l]) (askedF p rs) := fun l => List.mem_map.mpr ⟨[], List.mem_filter.mpr ⟨hn, rfl⟩, rfl⟩
    rw [wayR_lost hn, wayR_lost (hc _), wayR_lost (hc _)]
    split <;> rfl
  · rw [wayR_step hn, askedF_snoc (by omega) hfrom hn, askedF_snoc (by omega) hfrom hn]
theorem wayF_full {n : Nat} {z : Str} {rs : List (List Int)} {p : List Int} (hrow : ∀ r ∈ rs, Row n r) (hp : p.length = n) : wayF n z rs p = if resB p rs = true then 1 else 0 := by
  have hf := askedF_from (p := p) hrow
  have he : resB p rs = decide (askedF p rs = []) := askedF_nil.symm
  unfold wayF
  rw [he, show n - p.length = 0 by omega]
  unfold wayR
  cases h : askedF p rs with
  | nil => rfl
  | cons r t =>
    have hr := hf r (by rw [h]; exact List.mem_cons_self)
    have : r = [] := by
      cases r with
      | nil => rfl
      | cons x t =>
        have := hr.2 x List.mem_cons_self
        omega
    subst this
    rfl
theorem win_way {z : Str} {n : Nat} : ∀ (m : Nat) (letter : Int) (rs : List (List Int)), From n letter rs → 1 ≤ letter → letter + m = n + 1 → winR z m letter rs = decide (0 < wayR z m letter rs)
  | 0, letter, rs, hf, h1, hm => by
    unfold winR wayR
    by_cases h0 : rs = []
    · subst h0
      rfl
    · by_cases hn : [] ∈ rs
      · rw [if_neg h0, if_pos hn, if_pos hn] <;> rfl
      · exfalso
        obtain ⟨r, hr⟩ := List.exists_mem_of_ne_nil rs h0
        cases r with
        | nil => exact hn hr
        | cons x t =>
          have := (hf _ hr).2 x List.mem_cons_self
          omega
  | m + 1, letter, rs, hf, h1, hm => by
    by_cases hn : [] ∈ rs
    · rw [winR_lost hn, wayR_lost hn] <;> rfl
    · have hne : ∀ r ∈ rs, r ≠ [] := fun r hr e => hn (e ▸ hr)
      have i1 := win_way (z := z) m (letter + 1) (beh letter rs) (hf.beh (by omega) hne) (by omega) (by omega)
      have i2 := win_way (z := z) m (letter + 1) (beh (-letter) rs) (hf.beh (by omega) hne) (by omega) (by omega)
      rw [wayR_step hn]
      have pos : ∀ a b : Nat, decide (0 < a + b) = (decide (0 < a) || decide (0 < b)) := fun a b => by
        rw [← Bool.decide_or]
        exact decide_eq_decide.mpr (by omega)
      have pom : ∀ a b : Nat, decide (0 < a * b) = (decide (0 < a) && decide (0 < b)) := fun a b => by
        rw [← Bool.decide_and]
        exact decide_eq_decide.mpr ⟨fun h => ⟨Nat.pos_of_ne_zero fun e => by rw [e, Nat.zero_mul] at h; omega, Nat.pos_of_ne_zero fun e => by rw [e, Nat.mul_zero] at h; omega⟩, fun h => Nat.mul_pos h.1 h.2⟩
      by_cases h0 : rs = []
      · subst h0
        have en : ∀ l, beh l [] = [] := fun l => rfl
        rw [en, winR_nil] at i1
        rw [en, winR_nil] at i2
        rw [en, en, winR_nil]
        split
        · rw [pos, ← i1] <;> rfl
        · rw [pom, ← i1] <;> rfl
      · rw [winR_step h0 hn, i1, i2]
        split
        · rw [pos]
        · rw [pom]
end KA
set_option Elab.async false
set_option linter.all false
set_option maxRecDepth 100000
set_option maxHeartbeats 400000
set_option pp.maxSteps 300
/-! Sentences changed: what becomes of who wins and of how many ways ([B5]). -/
namespace KA
open PySem PySem.Spec PyProof.Rows L2 Ea
theorem winF_step {n : Nat} {z : Str} {rs : List (List Int)} {p : List Int} (hrow : ∀ r ∈ rs, Row n r) (hp : p.length < n) :
    winF n z rs p = if heldBy z "s" ((p.length : Int) + 1) = true then winF n z rs (p ++ [(p.length : Int) + 1]) || winF n z rs (p ++ [-((p.length : Int) + 1)]) else winF n z rs (p ++ [(p.length : Int) + 1]) && winF n z rs (p ++ [-((p.length : Int) + 1)]) := by
  have h1 : ∀ r ∈ rs, ∀ x ∈ r, 1 ≤ x.natAbs := fun r hr x hx => ((hrow r hr).2 x hx).1
  obtain ⟨m, hm⟩ : ∃ m, n - p.length = m + 1 := ⟨n - p.length - 1, by omega⟩
  have ch : ∀ l : Int, winF n z rs (p ++ [l]) = winR z m ((p.length : Int) + 1 + 1) (askedF (p ++ [l]) (askedF p rs)) := fun l => by
    unfold winF
    have ln : (p ++ [l]).length = p.length + 1 := by rw [List.length_append] <;> rfl
    rw [askedF_trans h1, ln]
    have e1 : n - (p.length + 1) = m := by omega
    rw [e1]
    congr 1
  rw [ch, ch]
  have hfrom := askedF_from (p := p) hrow
  unfold winF
  rw [hm]
  by_cases h0 : askedF p rs = []
  · rw [h0]
    have en : ∀ q, askedF q [] = [] := fun q => rfl
    rw [en, en, winR_nil, winR_nil]
    split <;> rfl
  · by_cases hn : [] ∈ askedF p rs
    · have hc : ∀ l : Int, [] ∈ askedF (p ++ [l]) (askedF p rs) := fun l => List.mem_map.mpr ⟨[], List.mem_filter.mpr ⟨hn, rfl⟩, rfl⟩
      rw [winR_lost hn, winR_lost (hc _), winR_lost (hc _)]
      split <;> rfl
    · rw [winR_step h0 hn, askedF_snoc (by omega) hfrom hn, askedF_snoc (by omega) hfrom hn]
theorem winF_full {n : Nat} {z : Str} {rs : List (List Int)} {p : List Int} (hp : p.length = n) : winF n z rs p = rs.all fun r => r.any (trueIn p) := by
  rw [← askedF_nil]
  unfold winF
  rw [hp, Nat.sub_self]
  unfold winR
  by_cases h : askedF p rs = []
  · rw [if_pos h, decide_eq_true h]
  · rw [if_neg h, decide_eq_false h]
    split <;> rfl
theorem snoc_len (p : List Int) (x : Int) : (p ++ [x]).length = p.length + 1 := by rw [List.length_append] <;> rfl
/-- more of the owners are SOME, fewer rows asked: SOME wins still -/
theorem win_mono {n : Nat} {z z' : Str} {rs rs' : List (List Int)} (hr : ∀ r ∈ rs, Row n r) (hr' : ∀ r ∈ rs', Row n r) (hz : ∀ x : Nat, 1 ≤ x → x ≤ n → heldBy z "s" (x : Int) = true → heldBy z' "s" (x : Int) = true)
    (h : ∀ p, PlayOk p → p.length = n → resB p rs = true → resB p rs' = true) : ∀ (m : Nat) (p : List Int), PlayOk p → p.length + m = n → winF n z rs p = true → winF n z' rs' p = true
  | 0, p, hp, hm, hw => by
    rw [winF_full (by omega)] at hw ⊢
    exact h p hp (by omega) hw
  | m + 1, p, hp, hm, hw => by
    have i1 := win_mono hr hr' hz h m (p ++ [(p.length : Int) + 1]) (hp.snoc (by omega)) (by rw [snoc_len]; omega)
    have i2 := win_mono hr hr' hz h m (p ++ [-((p.length : Int) + 1)]) (hp.snoc (by omega)) (by rw [snoc_len]; omega)
    rw [winF_step hr (by omega)] at hw
    rw [winF_step hr' (by omega)]
    have hz1 : heldBy z "s" ((p.length : Int) + 1) = true → heldBy z' "s" ((p.length : Int) + 1) = true := fun a => hz (p.length + 1) (by omega) (by omega) a
    by_cases c : heldBy z' "s" ((p.length : Int) + 1) = true
    · rw [if_pos c, Bool.or_eq_true]
      split at hw
      · exact (Bool.or_eq_true _ _ ▸ hw : _ ∨ _).imp i1 i2
      · exact .inl (i1 (Bool.and_eq_true _ _ ▸ hw : _ ∧ _).1)
    · rw [if_neg (fun a => c (hz1 a))] at hw
      rw [if_neg c, Bool.and_eq_true]
      exact ⟨i1 (Bool.and_eq_true _ _ ▸ hw : _ ∧ _).1, i2 (Bool.and_eq_true _ _ ▸ hw : _ ∧ _).2⟩
/-- the same whole plays keep the rows: as many ways, the same winner -/
theorem way_same {n : Nat} {z : Str} {rs rs' : List (List Int)} (hr : ∀ r ∈ rs, Row n r) (hr' : ∀ r ∈ rs', Row n r) (h : ∀ p, PlayOk p → p.length = n → resB p rs = resB p rs') :
    ∀ (m : Nat) (p : List Int), PlayOk p → p.length + m = n → wayF n z rs p = wayF n z rs' p ∧ winF n z rs p = winF n z rs' p
  | 0, p, hp, hm => by
    rw [wayF_full hr (by omega), wayF_full hr' (by omega), winF_full (by omega), winF_full (by omega), h p hp (by omega)]
    exact ⟨rfl, h p hp (by omega)⟩
  | m + 1, p, hp, hm => by
    have i1 := way_same (z := z) hr hr' h m (p ++ [(p.length : Int) + 1]) (hp.snoc (by omega)) (by rw [snoc_len]; omega)
    have i2 := way_same (z := z) hr hr' h m (p ++ [-((p.length : Int) + 1)]) (hp.snoc (by omega)) (by rw [snoc_len]; omega)
    rw [wayF_step hr (by omega), wayF_step hr' (by omega), winF_step hr (by omega), winF_step hr' (by omega), i1.1, i2.1, i1.2, i2.2]
    exact ⟨rfl, rfl⟩
/-- a row that has all literals of another one asks for nothing more -/
theorem wide_same {r w : List Int} {rs : List (List Int)} (hr : r ∈ rs) (hw : ∀ x ∈ r, x ∈ w) (p : List Int) : resB p (w :: rs) = resB p rs := by
  show ((w.any (trueIn p)) && resB p rs) = resB p rs
  cases c : resB p rs with
  | false => rw [Bool.and_false]
  | true =>
    have : r.any (trueIn p) = true := List.all_eq_true.mp c r hr
    obtain ⟨x, hx, tx⟩ := List.any_eq_true.mp this
    rw [List.any_eq_true.mpr ⟨x, hw x hx, tx⟩, Bool.and_true]
/-- a letter behind that stands nowhere -/
theorem long_same {n : Nat} {z z' : Str} {rs : List (List Int)} (hr : ∀ r ∈ rs, Row n r) (hz : ∀ x : Nat, 1 ≤ x → x ≤ n → heldBy z' "s" (x : Int) = heldBy z "s" (x : Int)) :
    ∀ (m : Nat) (p : List Int), p.length + m = n → winF (n + 1) z' rs p = winF n z rs p
  | 0, p, hm => by
    have hr2 : ∀ r ∈ rs, Row (n + 1) r := fun r h => ⟨(hr r h).1, fun x hx => ⟨((hr r h).2 x hx).1, Nat.le_succ_of_le ((hr r h).2 x hx).2⟩⟩
    have same : ∀ l : Int, (rs.all fun r => r.any (trueIn (p ++ [l]))) = rs.all fun r => r.any (trueIn p) := fun l => by
      have e : ∀ r ∈ rs, r.any (trueIn (p ++ [l])) = r.any (trueIn p) := fun r h => by
        rw [Bool.eq_iff_iff, List.any_eq_true, List.any_eq_true]
        constructor
        · rintro ⟨x, hx, tx⟩
          exact ⟨x, hx, by rw [← trueIn_app (l := l) (by have := ((hr r h).2 x hx).2; omega) ((hr r h).2 x hx).1]; exact tx⟩
        · rintro ⟨x, hx, tx⟩
          exact ⟨x, hx, by rw [trueIn_app (l := l) (by have := ((hr r h).2 x hx).2; omega) ((hr r h).2 x hx).1]; exact tx⟩
      rw [Bool.eq_iff_iff, List.all_eq_true, List.all_eq_true]
      exact ⟨fun a r h => by rw [← e r h]; exact a r h, fun a r h => by rw [e r h]; exact a r h⟩
    rw [winF_step hr2 (by omega), winF_full (by rw [snoc_len]; omega), winF_full (by rw [snoc_len]; omega), same, same, winF_full (n := n) (by omega), Bool.or_self, Bool.and_self]
    split <;> rfl
  | m + 1, p, hm => by
    have hr2 : ∀ r ∈ rs, Row (n + 1) r := fun r h => ⟨(hr r h).1, fun x hx => ⟨((hr r h).2 x hx).1, Nat.le_succ_of_le ((hr r h).2 x hx).2⟩⟩
    have i1 := long_same hr hz m (p ++ [(p.length : Int) + 1]) (by rw [snoc_len]; omega)
    have i2 := long_same hr hz m (p ++ [-((p.length : Int) + 1)]) (by rw [snoc_len]; omega)
    have hzz : heldBy z' "s" ((p.length : Int) + 1) = heldBy z "s" ((p.length : Int) + 1) := hz (p.length + 1) (by omega) (by omega)
    rw [winF_step hr2 (by omega), winF_step hr (by omega), i1, i2, hzz]
/-- won exactly where there is a way -/
theorem winF_way {n : Nat} {z : Str} {rs : List (List Int)} {p : List Int} (hr : ∀ r ∈ rs, Row n r) (hp : p.length ≤ n) : winF n z rs p = decide (0 < wayF n z rs p) :=
  win_way (n - p.length) ((p.length : Int) + 1) (askedF p rs) (askedF_from hr) (by omega) (by omega)
/-- one letter's literals turned -/
def turn1 (k : Nat) (x : Int) : Int := if x.natAbs = k then -x else x
theorem turn1_abs (k : Nat) (x : Int) : (turn1 k x).natAbs = x.natAbs := by
  unfold turn1
  split
  · exact Int.natAbs_neg x
  · rfl
theorem turn1_turn1 (k : Nat) (x : Int) : turn1 k (turn1 k x) = x := by
  unfold turn1
  by_cases c : x.natAbs = k
  · rw [if_pos c, if_pos (by rw [Int.natAbs_neg]; exact c), Int.neg_neg]
  · rw [if_neg c, if_neg c]
theorem turn_true {k : Nat} {p : List Int} {x : Int} (h1 : 1 ≤ x.natAbs) (hp : PlayOk p) : trueIn (p.map (turn1 k)) (turn1 k x) = trueIn p x := by
  unfold trueIn
  rw [turn1_abs, List.length_map]
  by_cases c : x.natAbs ≤ p.length
  · rw [decide_eq_true c, Bool.true_and, Bool.true_and]
    have hi : x.natAbs - 1 < p.length := by omega
    rw [List.getD_eq_getElem?_getD, List.getD_eq_getElem?_getD, List.getElem?_map, List.getElem?_eq_getElem hi]
    show decide (turn1 k p[x.natAbs - 1] = turn1 k x) = decide (p[x.natAbs - 1] = x)
    exact decide_eq_decide.mpr ⟨fun e => by rw [← turn1_turn1 k p[x.natAbs - 1], e, turn1_turn1], fun e => by rw [e]⟩
  · rw [decide_eq_false c, Bool.false_and, Bool.false_and]
theorem turn_res {n k : Nat} {p : List Int} {rs : List (List Int)} (hr : ∀ r ∈ rs, Row n r) (hp : PlayOk p) : resB (p.map (turn1 k)) (rs.map fun r => r.map (turn1 k)) = resB p rs := by
  unfold resB
  rw [List.all_map, Bool.eq_iff_iff, List.all_eq_true, List.all_eq_true]
  have e : ∀ r ∈ rs, (r.map (turn1 k)).any (trueIn (p.map (turn1 k))) = r.any (trueIn p) := fun r h => by
    rw [List.any_map, Bool.eq_iff_iff, List.any_eq_true, List.any_eq_true]
    exact ⟨fun ⟨x, hx, tx⟩ => ⟨x, hx, by rw [← turn_true (k := k) ((hr r h).2 x hx).1 hp]; exact tx⟩, fun ⟨x, hx, tx⟩ => ⟨x, hx, by show trueIn _ (turn1 k x) = true; rw [turn_true ((hr r h).2 x hx).1 hp]; exact tx⟩⟩
  exact ⟨fun a r h => by rw [← e r h]; exact a r h, fun a r h => by show (r.map (turn1 k)).any _ = true; rw [e r h]; exact a r h⟩
theorem turn_row {n k : Nat} {rs : List (List Int)} (hr : ∀ r ∈ rs, Row n r) : ∀ r ∈ rs.map (fun r => r.map (turn1 k)), Row n r := fun r h => by
  obtain ⟨s, hs, rfl⟩ := List.mem_map.mp h
  have := hr s hs
  refine ⟨?_, fun x hx => ?_⟩
  · rw [List.pairwise_map]
    exact this.1.imp fun a => by rw [turn1_abs, turn1_abs]; exact a
  · obtain ⟨y, hy, rfl⟩ := List.mem_map.mp hx
    rw [turn1_abs]
    exact this.2 y hy
theorem turn_play {k : Nat} {p : List Int} (hp : PlayOk p) : PlayOk (p.map (turn1 k)) := fun i x e => by
  rw [List.getElem?_map] at e
  obtain ⟨y, hy, rfl⟩ := Option.map_eq_some_iff.mp e
  rw [turn1_abs]
  exact hp i y hy
theorem turn_same {n k : Nat} {z : Str} {rs : List (List Int)} (hr : ∀ r ∈ rs, Row n r) : ∀ (m : Nat) (p : List Int), PlayOk p → p.length + m = n →
    wayF n z (rs.map fun r => r.map (turn1 k)) (p.map (turn1 k)) = wayF n z rs p ∧ winF n z (rs.map fun r => r.map (turn1 k)) (p.map (turn1 k)) = winF n z rs p
  | 0, p, hp, hm => by
    have hl : (p.map (turn1 k)).length = n := by rw [List.length_map]; omega
    rw [wayF_full (turn_row hr) hl, wayF_full hr (by omega), turn_res hr hp, winF_full hl, winF_full (by omega)]
    exact ⟨rfl, turn_res hr hp⟩
  | m + 1, p, hp, hm => by
    have i1 := turn_same (k := k) (z := z) hr m (p ++ [(p.length : Int) + 1]) (hp.snoc (by omega)) (by rw [snoc_len]; omega)
    have i2 := turn_same (k := k) (z := z) hr m (p ++ [-((p.length : Int) + 1)]) (hp.snoc (by omega)) (by rw [snoc_len]; omega)
    have hl : (p.map (turn1 k)).length = p.length := List.length_map ..
    rw [List.map_append, List.map_cons, List.map_nil] at i1 i2
    rw [wayF_step (turn_row hr) (by omega), winF_step (turn_row hr) (by omega), wayF_step hr (by omega), winF_step hr (by omega), hl, ← i1.1, ← i1.2, ← i2.1, ← i2.2]
    by_cases c : p.length + 1 = k
    · have t1 : turn1 k ((p.length : Int) + 1) = -((p.length : Int) + 1) := if_pos (by omega)
      have t2 : turn1 k (-((p.length : Int) + 1)) = (p.length : Int) + 1 := (if_pos (by omega)).trans (Int.neg_neg _)
      rw [t1, t2, Nat.add_comm (wayF n z _ _), Nat.mul_comm (wayF n z _ _), Bool.or_comm (winF n z _ _), Bool.and_comm (winF n z _ _)]
      exact ⟨rfl, rfl⟩
    · have t1 : turn1 k ((p.length : Int) + 1) = (p.length : Int) + 1 := if_neg (by omega)
      have t2 : turn1 k (-((p.length : Int) + 1)) = -((p.length : Int) + 1) := if_neg (by omega)
      rw [t1, t2]
      exact ⟨rfl, rfl⟩
end KA
set_option Elab.async false
set_option linter.all false
set_option maxRecDepth 100000
set_option maxHeartbeats 400000
set_option pp.maxSteps 300
/-! Two neighbours exchanged, SOME's ahead of EACH's: SOME is helped ([B5]). -/
namespace KA
open PySem PySem.Spec PyProof.Rows L2 Ea
/-- the letters k and k + 1 exchanged -/
def sw (k : Nat) (x : Int) : Int := if x.natAbs = k then (if 0 < x then (k : Int) + 1 else -((k : Int) + 1)) else if x.natAbs = k + 1 then (if 0 < x then (k : Int) else -(k : Int)) else x
theorem sw_lo {k : Nat} {x : Int} (h1 : 1 ≤ k) (h : x.natAbs = k) : (sw k x).natAbs = k + 1 ∧ (0 < sw k x ↔ 0 < x) := by
  unfold sw
  rw [if_pos h]
  split <;> omega
theorem sw_hi {k : Nat} {x : Int} (h1 : 1 ≤ k) (h : x.natAbs = k + 1) : (sw k x).natAbs = k ∧ (0 < sw k x ↔ 0 < x) := by
  unfold sw
  rw [if_neg (by omega), if_pos h]
  split <;> omega
theorem sw_off {k : Nat} {x : Int} (h : x.natAbs ≠ k) (h2 : x.natAbs ≠ k + 1) : sw k x = x := by
  unfold sw
  rw [if_neg h, if_neg h2]
theorem at_pre {pre q : List Int} {u v : Int} {i : Nat} (h : i < pre.length) : (pre ++ u :: v :: q).getD i 0 = pre.getD i 0 := by
  rw [List.getD_eq_getElem?_getD, List.getD_eq_getElem?_getD, List.getElem?_append_left h]
theorem at_u {pre q : List Int} {u v : Int} : (pre ++ u :: v :: q).getD pre.length 0 = u := by
  rw [List.getD_eq_getElem?_getD, List.getElem?_append_right (Nat.le_refl _), Nat.sub_self] <;> rfl
theorem at_v {pre q : List Int} {u v : Int} : (pre ++ u :: v :: q).getD (pre.length + 1) 0 = v := by
  rw [List.getD_eq_getElem?_getD, List.getElem?_append_right (by omega), show pre.length + 1 - pre.length = 1 by omega] <;> rfl
theorem at_q {pre q : List Int} {u v u' v' : Int} {i : Nat} (h : pre.length + 2 ≤ i) : (pre ++ u :: v :: q).getD i 0 = (pre ++ u' :: v' :: q).getD i 0 := by
  rw [List.getD_eq_getElem?_getD, List.getD_eq_getElem?_getD, List.getElem?_append_right (by omega), List.getElem?_append_right (by omega)]
  obtain ⟨j, hj⟩ : ∃ j, i - pre.length = j + 2 := ⟨i - pre.length - 2, by omega⟩
  rw [hj] <;> rfl
theorem true_sw {k : Nat} {pre q : List Int} {u v x : Int} (hk : pre.length + 1 = k) (hu : u.natAbs = k) (hv : v.natAbs = k + 1) (h1 : 1 ≤ x.natAbs) :
    trueIn (pre ++ sw k v :: sw k u :: q) (sw k x) = trueIn (pre ++ u :: v :: q) x := by
  have l1 : (pre ++ sw k v :: sw k u :: q).length = pre.length + 2 + q.length := by rw [List.length_append, List.length_cons, List.length_cons]; omega
  have l2 : (pre ++ u :: v :: q).length = pre.length + 2 + q.length := by rw [List.length_append, List.length_cons, List.length_cons]; omega
  have su := sw_lo (by omega) hu
  have sv := sw_hi (by omega) hv
  unfold trueIn
  rw [l1, l2]
  by_cases c : x.natAbs = k
  · have sx := sw_lo (by omega) c
    rw [decide_eq_true (by omega : (sw k x).natAbs ≤ pre.length + 2 + q.length), decide_eq_true (by omega : x.natAbs ≤ pre.length + 2 + q.length), Bool.true_and, Bool.true_and, show (sw k x).natAbs - 1 = pre.length + 1 by omega, show x.natAbs - 1 = pre.length by omega, at_u, at_v]
    exact decide_eq_decide.mpr (by omega)
  · by_cases c2 : x.natAbs = k + 1
    · have sx := sw_hi (by omega) c2
      rw [decide_eq_true (by omega : (sw k x).natAbs ≤ pre.length + 2 + q.length), decide_eq_true (by omega : x.natAbs ≤ pre.length + 2 + q.length), Bool.true_and, Bool.true_and, show (sw k x).natAbs - 1 = pre.length by omega, show x.natAbs - 1 = pre.length + 1 by omega, at_u, at_v]
      exact decide_eq_decide.mpr (by omega)
    · rw [sw_off c c2]
      by_cases c3 : x.natAbs ≤ pre.length
      · rw [at_pre (by omega), at_pre (by omega)]
      · rw [at_q (u := sw k v) (v := sw k u) (u' := u) (v' := v) (by omega)]
/-- rows with the letters renamed, in any order -/
def Renamed (k : Nat) (rs rs' : List (List Int)) : Prop := rs.length = rs'.length ∧ ∀ (i : Nat) (r r' : List Int), rs[i]? = some r → rs'[i]? = some r' → ∀ y, y ∈ r' ↔ ∃ x ∈ r, y = sw k x
theorem sw_res {n k : Nat} {pre q : List Int} {u v : Int} {rs rs' : List (List Int)} (hr : ∀ r ∈ rs, Row n r) (hR : Renamed k rs rs') (hk : pre.length + 1 = k) (hu : u.natAbs = k) (hv : v.natAbs = k + 1) :
    resB (pre ++ sw k v :: sw k u :: q) rs' = resB (pre ++ u :: v :: q) rs := by
  have e : ∀ (i : Nat) (r r' : List Int), rs[i]? = some r → rs'[i]? = some r' → r'.any (trueIn (pre ++ sw k v :: sw k u :: q)) = r.any (trueIn (pre ++ u :: v :: q)) := fun i r r' h h' => by
    have hm := hR.2 i r r' h h'
    have hrow := hr r (List.mem_of_getElem? h)
    rw [Bool.eq_iff_iff, List.any_eq_true, List.any_eq_true]
    constructor
    · rintro ⟨y, hy, ty⟩
      obtain ⟨x, hx, rfl⟩ := (hm y).mp hy
      exact ⟨x, hx, by rw [← true_sw hk hu hv (hrow.2 x hx).1]; exact ty⟩
    · rintro ⟨x, hx, tx⟩
      exact ⟨sw k x, (hm _).mpr ⟨x, hx, rfl⟩, by rw [true_sw hk hu hv (hrow.2 x hx).1]; exact tx⟩
  unfold resB
  rw [Bool.eq_iff_iff, List.all_eq_true, List.all_eq_true]
  constructor
  · intro a r h
    obtain ⟨i, hi⟩ := List.mem_iff_getElem?.mp h
    have hl := (List.getElem?_eq_some_iff.mp hi).1
    have hi' : rs'[i]? = some (rs'[i]'(by rw [← hR.1]; exact hl)) := List.getElem?_eq_getElem _
    rw [← e i _ _ hi hi']
    exact a _ (List.mem_of_getElem? hi')
  · intro a r' h
    obtain ⟨i, hi'⟩ := List.mem_iff_getElem?.mp h
    have hl := (List.getElem?_eq_some_iff.mp hi').1
    have hi : rs[i]? = some (rs[i]'(by rw [hR.1]; exact hl)) := List.getElem?_eq_getElem _
    rw [e i _ _ hi hi']
    exact a _ (List.mem_of_getElem? hi)
theorem sw_below {n k : Nat} {z z' : Str} {rs rs' : List (List Int)} (hr : ∀ r ∈ rs, Row n r) (hr' : ∀ r ∈ rs', Row n r) (hR : Renamed k rs rs') (hz : ∀ x : Nat, k + 2 ≤ x → x ≤ n → heldBy z' "s" (x : Int) = heldBy z "s" (x : Int))
    {pre : List Int} {u v : Int} (hk : pre.length + 1 = k) (hu : u.natAbs = k) (hv : v.natAbs = k + 1) : ∀ (m : Nat) (q : List Int), pre.length + 2 + q.length + m = n → winF n z' rs' (pre ++ sw k v :: sw k u :: q) = winF n z rs (pre ++ u :: v :: q)
  | 0, q, hm => by
    have l1 : (pre ++ sw k v :: sw k u :: q).length = n := by rw [List.length_append, List.length_cons, List.length_cons]; omega
    have l2 : (pre ++ u :: v :: q).length = n := by rw [List.length_append, List.length_cons, List.length_cons]; omega
    rw [winF_full l1, winF_full l2]
    exact sw_res hr hR hk hu hv
  | m + 1, q, hm => by
    have l1 : (pre ++ sw k v :: sw k u :: q).length = pre.length + 2 + q.length := by rw [List.length_append, List.length_cons, List.length_cons]; omega
    have l2 : (pre ++ u :: v :: q).length = pre.length + 2 + q.length := by rw [List.length_append, List.length_cons, List.length_cons]; omega
    have a1 : ∀ (a b x : Int), (pre ++ a :: b :: q) ++ [x] = pre ++ a :: b :: (q ++ [x]) := fun a b x => by simp
    have hz1 : heldBy z' "s" (((pre.length + 2 + q.length : Nat) : Int) + 1) = heldBy z "s" (((pre.length + 2 + q.length : Nat) : Int) + 1) := hz (pre.length + 2 + q.length + 1) (by omega) (by omega)
    have i := fun x => sw_below hr hr' hR hz hk hu hv m (q ++ [x]) (by rw [List.length_append]; show pre.length + 2 + (q.length + 1) + m = n; omega)
    rw [winF_step hr' (by omega), winF_step hr (by omega), l1, l2, a1, a1, a1, a1, i, i, hz1]
theorem swap_at {n k : Nat} {z z' : Str} {rs rs' : List (List Int)} (hr : ∀ r ∈ rs, Row n r) (hr' : ∀ r ∈ rs', Row n r) (hR : Renamed k rs rs') (h1 : 1 ≤ k) (hkn : k + 1 ≤ n)
    (hz : ∀ x : Nat, 1 ≤ x → x ≤ n → x ≠ k → x ≠ k + 1 → heldBy z' "s" (x : Int) = heldBy z "s" (x : Int)) (s1 : heldBy z "s" (k : Int) = true) (s2 : heldBy z "s" ((k + 1 : Nat) : Int) = false) (t1 : heldBy z' "s" (k : Int) = false) (t2 : heldBy z' "s" ((k + 1 : Nat) : Int) = true)
    {pre : List Int} (hp : pre.length + 1 = k) (hw : winF n z rs pre = true) : winF n z' rs' pre = true := by
  have hpk : (pre.length : Int) + 1 = (k : Int) := by omega
  have two : ∀ (zz : Str) (rr : List (List Int)) (a : Int), (∀ r ∈ rr, Row n r) → winF n zz rr (pre ++ [a]) = if heldBy zz "s" ((k + 1 : Nat) : Int) = true then winF n zz rr (pre ++ [a, (k : Int) + 1]) || winF n zz rr (pre ++ [a, -((k : Int) + 1)]) else winF n zz rr (pre ++ [a, (k : Int) + 1]) && winF n zz rr (pre ++ [a, -((k : Int) + 1)]) := fun zz rr a hrr => by
    have hl : ((pre ++ [a]).length : Int) + 1 = (k : Int) + 1 := by rw [snoc_len]; omega
    have hl2 : (k : Int) + 1 = ((k + 1 : Nat) : Int) := by omega
    rw [winF_step hrr (by rw [snoc_len]; omega), hl, List.append_assoc, List.append_assoc, ← hl2] <;> rfl
  rw [winF_step hr (by omega), hpk, if_pos s1, two _ _ _ hr, two _ _ _ hr, if_neg (by rw [s2]; decide), if_neg (by rw [s2]; decide)] at hw
  rw [winF_step hr' (by omega), hpk, if_neg (by rw [t1]; decide), two _ _ _ hr', two _ _ _ hr', if_pos t2, if_pos t2]
  have bl := fun u v hu hv => sw_below (z := z) (z' := z') (n := n) hr hr' hR (fun x a b => hz x (by omega) b (by omega) (by omega)) (pre := pre) (u := u) (v := v) hp hu hv (n - (pre.length + 2)) [] (by show pre.length + 2 + 0 + _ = n; omega)
  have e1 := bl (k : Int) ((k : Int) + 1) (by omega) (by omega)
  have e2 := bl (k : Int) (-((k : Int) + 1)) (by omega) (by omega)
  have e3 := bl (-(k : Int)) ((k : Int) + 1) (by omega) (by omega)
  have e4 := bl (-(k : Int)) (-((k : Int) + 1)) (by omega) (by omega)
  have v1 : sw k (k : Int) = (k : Int) + 1 := by have := sw_lo h1 (x := (k : Int)) (by omega); omega
  have v2 : sw k (-(k : Int)) = -((k : Int) + 1) := by have := sw_lo h1 (x := -(k : Int)) (by omega); omega
  have v3 : sw k ((k : Int) + 1) = (k : Int) := by have := sw_hi h1 (x := (k : Int) + 1) (by omega); omega
  have v4 : sw k (-((k : Int) + 1)) = -(k : Int) := by have := sw_hi h1 (x := -((k : Int) + 1)) (by omega); omega
  rw [v1, v3] at e1
  rw [v1, v4] at e2
  rw [v2, v3] at e3
  rw [v2, v4] at e4
  rw [e1, e2, e3, e4]
  revert hw
  cases winF n z rs (pre ++ [(k : Int), (k : Int) + 1]) <;> cases winF n z rs (pre ++ [(k : Int), -((k : Int) + 1)]) <;> cases winF n z rs (pre ++ [-(k : Int), (k : Int) + 1]) <;> cases winF n z rs (pre ++ [-(k : Int), -((k : Int) + 1)]) <;> decide
/-- SOME's letter told later, EACH's ahead of it: SOME wins still -/
theorem swap_win {n k : Nat} {z z' : Str} {rs rs' : List (List Int)} (hr : ∀ r ∈ rs, Row n r) (hr' : ∀ r ∈ rs', Row n r) (hR : Renamed k rs rs') (h1 : 1 ≤ k) (hkn : k + 1 ≤ n)
    (hz : ∀ x : Nat, 1 ≤ x → x ≤ n → x ≠ k → x ≠ k + 1 → heldBy z' "s" (x : Int) = heldBy z "s" (x : Int)) (s1 : heldBy z "s" (k : Int) = true) (s2 : heldBy z "s" ((k + 1 : Nat) : Int) = false) (t1 : heldBy z' "s" (k : Int) = false) (t2 : heldBy z' "s" ((k + 1 : Nat) : Int) = true) :
    ∀ (m : Nat) (p : List Int), p.length + 1 + m = k → winF n z rs p = true → winF n z' rs' p = true
  | 0, p, hp, hw => swap_at hr hr' hR h1 hkn hz s1 s2 t1 t2 hp hw
  | m + 1, p, hp, hw => by
    have i := fun x => swap_win hr hr' hR h1 hkn hz s1 s2 t1 t2 m (p ++ [x]) (by rw [snoc_len]; omega)
    have hz1 : heldBy z' "s" ((p.length : Int) + 1) = heldBy z "s" ((p.length : Int) + 1) := hz (p.length + 1) (by omega) (by omega) (by omega) (by omega)
    rw [winF_step hr (by omega)] at hw
    rw [winF_step hr' (by omega), hz1]
    split at hw
    · next c =>
      rw [if_pos c, Bool.or_eq_true]
      exact (Bool.or_eq_true _ _ ▸ hw : _ ∨ _).imp (i _) (i _)
    · next c =>
      rw [if_neg c, Bool.and_eq_true]
      exact ⟨i _ (Bool.and_eq_true _ _ ▸ hw : _ ∧ _).1, i _ (Bool.and_eq_true _ _ ▸ hw : _ ∧ _).2⟩
end KA
set_option Elab.async false
set_option linter.all false
set_option maxRecDepth 100000
set_option maxHeartbeats 400000
set_option pp.maxSteps 300
namespace KA
open PySem PySem.Spec PyProof.Rows L2 Ea
abbrev sowner_of : Stmt := topS 5
theorem scowner_of : FnScope ["sentence", "letter"] ["sentence", "letter"] (defScope sowner_of) :=
  ⟨rfl, rfl, rfl, by decide +kernel, rfl, by decide +kernel, by decide +kernel⟩
abbrev sgood_moves : Stmt := topS 16
theorem scgood_moves : FnScope ["sentence", "play", "letter", "party", "move"] ["sentence", "play"] (defScope sgood_moves) :=
  ⟨rfl, rfl, rfl, by decide +kernel, rfl, by decide +kernel, by decide +kernel⟩
abbrev s_law_good : Stmt := topS 30
theorem sc_law_good : FnScope ["own", "play", "letter", "goal", "x"] ["own", "play"] (defScope s_law_good) :=
  ⟨rfl, rfl, rfl, by decide +kernel, rfl, by decide +kernel, by decide +kernel⟩
local macro_rules | `(tactic| walk_at "rd") => `(tactic| first
  | (with_reducible refine rd_seq ?_) | (with_reducible refine rd_asg ?_) | (with_reducible refine rd_if ?_) | (with_reducible refine rd_ret ?_) | (with_reducible refine rd_next ?_)
  | (with_reducible refine rd_drop ?_) | ((with_reducible refine rd_name (σ' := ?ss) ?hs ?_); (case hs => (dsimp only [List.set]; exact rfl)))
  | ((with_reducible refine rd_var (v := ?vv) ?hv ?_); (case hv => exact rfl)) | (with_reducible refine rd_c ?_) | (with_reducible refine rd_op ?_) | (with_reducible refine rd_un ?_)
  | (with_reducible refine rd_I0 ?_) | (with_reducible refine rd_U ?_) | (with_reducible refine rd_test ?_) | (with_reducible refine rd_B ?_) | (with_reducible refine rd_k ?_)
  | (with_reducible refine rd_not ?_) | (with_reducible refine rd_and ?_) | (with_reducible refine rd_or ?_) | (with_reducible refine rd_ifE ?_)
  | (with_reducible refine rd_par ?_) | ((with_reducible refine rd_par2 (σ' := ?ss) ?hs ?_); (case hs => (dsimp only [List.set]; exact rfl)))
  | (with_reducible refine rd_gsub ?_) | (with_reducible refine rd_andV ?_) | (with_reducible refine rd_orV ?_) | (with_reducible refine rd_notV ?_)
  | (with_reducible refine rd_lc ?_) | (with_reducible refine rd_iTup ?_) | (with_reducible refine rd_iList ?_) | (with_reducible refine rd_iRng1 ?_) | (with_reducible refine rd_iRng2 ?_) | (with_reducible refine rd_iEnumT ?_) | (with_reducible refine rd_iEnum ?_) | (with_reducible refine rd_iZipM ?_) | (with_reducible refine rd_iEnumS ?_) | (with_reducible refine rd_iKeys ?_) | (with_reducible refine rd_din ?_) | (with_reducible refine rd_dnotin ?_)
  | (with_reducible refine rd_yes ?_) | (with_reducible refine rd_true ?_) | (with_reducible refine rd_false ?_) | (with_reducible refine rd_m1 ?_) | (with_reducible refine rd_isS ?_)
  | ((with_reducible refine rd_eq ?hs ?_); (case hs => exact rfl)) | ((with_reducible refine rd_ne ?hs ?_); (case hs => exact rfl))
  | (with_reducible refine rd_listRg ?_) | (with_reducible refine rd_rg2 ?_) | (with_reducible refine rd_rgk ?_)
  | (with_reducible refine rd_dnew ?_) | (with_reducible refine rd_ddel ?_) | (with_reducible refine rd_kw ?_) | (with_reducible refine rd_callS ?_) | (with_reducible refine rd_dc ?_) | (with_reducible refine rd_for ?_) | (with_reducible refine rd_tru ?_) | (with_reducible refine rd_truI ?_)
  | (with_reducible refine rd_nil ?_) | (with_reducible refine rd_cons ?_) | (with_reducible refine rd_call ?_) | (with_reducible refine rd_cb ?_)
  | (with_reducible refine rd_tup ?_) | (with_reducible refine rd_lst ?_) | (with_reducible refine rd_dget ?_) | (with_reducible refine rd_dput ?_) | (with_reducible refine rd_dget2 ?_) | (with_reducible refine rd_sl ?_)
  | (with_reducible refine rd_nopart ?_) | (with_reducible refine rd_part ?_) | (with_reducible refine rd_parti ?_) | (with_reducible refine rd_bm ?_) | (with_reducible refine rd_bm0 ?_)
  | (with_reducible refine rd_int ?_) | (with_reducible refine rd_intb ?_) | (with_reducible refine rd_abs ?_) | (with_reducible refine rd_min2 ?_) | (with_reducible refine rd_max2 ?_))
local macro_rules | `(tactic| walk_at "rds") => `(tactic| repeat (walk_at "rd"))
local macro_rules | `(tactic| walk_at "rq") => `(tactic| first
  | (with_reducible refine rd_seq ?_) | (with_reducible refine rd_asg ?_) | (with_reducible refine rd_ret ?_) | (with_reducible refine rd_next ?_)
  | (with_reducible refine rd_drop ?_) | ((with_reducible refine rd_name (σ' := ?ss) ?hs ?_); (case hs => (dsimp only [List.set]; exact rfl)))
  | ((with_reducible refine rd_var (v := ?vv) ?hv ?_); (case hv => exact rfl)) | (with_reducible refine rd_c ?_) | (with_reducible refine rd_op ?_) | (with_reducible refine rd_un ?_)
  | (with_reducible refine rd_I0 ?_) | (with_reducible refine rd_U ?_) | (with_reducible refine rd_test ?_) | (with_reducible refine rd_B ?_) | (with_reducible refine rd_k ?_)
  | (with_reducible refine rd_not ?_) | (with_reducible refine rd_and ?_) | (with_reducible refine rd_or ?_) | (with_reducible refine rd_ifE ?_)
  | (with_reducible refine rd_par ?_) | ((with_reducible refine rd_par2 (σ' := ?ss) ?hs ?_); (case hs => (dsimp only [List.set]; exact rfl)))
  | (with_reducible refine rd_gsub ?_) | (with_reducible refine rd_andV ?_) | (with_reducible refine rd_orV ?_) | (with_reducible refine rd_notV ?_)
  | (with_reducible refine rd_lc ?_) | (with_reducible refine rd_iTup ?_) | (with_reducible refine rd_iList ?_) | (with_reducible refine rd_iRng1 ?_) | (with_reducible refine rd_iRng2 ?_) | (with_reducible refine rd_iEnumT ?_) | (with_reducible refine rd_iEnum ?_) | (with_reducible refine rd_iZipM ?_) | (with_reducible refine rd_iEnumS ?_) | (with_reducible refine rd_iKeys ?_) | (with_reducible refine rd_din ?_) | (with_reducible refine rd_dnotin ?_)
  | (with_reducible refine rd_yes ?_) | (with_reducible refine rd_true ?_) | (with_reducible refine rd_false ?_) | (with_reducible refine rd_m1 ?_) | (with_reducible refine rd_isS ?_)
  | ((with_reducible refine rd_eq ?hs ?_); (case hs => exact rfl)) | ((with_reducible refine rd_ne ?hs ?_); (case hs => exact rfl))
  | (with_reducible refine rd_listRg ?_) | (with_reducible refine rd_rg2 ?_) | (with_reducible refine rd_rgk ?_)
  | (with_reducible refine rd_dnew ?_) | (with_reducible refine rd_ddel ?_) | (with_reducible refine rd_kw ?_) | (with_reducible refine rd_callS ?_) | (with_reducible refine rd_dc ?_) | (with_reducible refine rd_for ?_) | (with_reducible refine rd_tru ?_) | (with_reducible refine rd_truI ?_)
  | (with_reducible refine rd_nil ?_) | (with_reducible refine rd_cons ?_) | (with_reducible refine rd_call ?_) | (with_reducible refine rd_cb ?_)
  | (with_reducible refine rd_tup ?_) | (with_reducible refine rd_lst ?_) | (with_reducible refine rd_dget ?_) | (with_reducible refine rd_dput ?_) | (with_reducible refine rd_dget2 ?_) | (with_reducible refine rd_sl ?_)
  | (with_reducible refine rd_nopart ?_) | (with_reducible refine rd_part ?_) | (with_reducible refine rd_parti ?_) | (with_reducible refine rd_bm ?_) | (with_reducible refine rd_bm0 ?_)
  | (with_reducible refine rd_int ?_) | (with_reducible refine rd_intb ?_) | (with_reducible refine rd_abs ?_) | (with_reducible refine rd_min2 ?_) | (with_reducible refine rd_max2 ?_))
local macro_rules | `(tactic| walk_at "rqs") => `(tactic| repeat (walk_at "rq"))
local macro_rules | `(tactic| walk_at "rv") => `(tactic| first
  | (with_reducible refine rd_seq ?_) | (with_reducible refine rd_asg ?_) | (with_reducible refine rd_ret ?_) | (with_reducible refine rd_next ?_)
  | (with_reducible refine rd_drop ?_) | ((with_reducible refine rd_name (σ' := ?ss) ?hs ?_); (case hs => (dsimp only [List.set]; exact rfl)))
  | ((with_reducible refine rd_var (v := ?vv) ?hv ?_); (case hv => exact rfl)) | (with_reducible refine rd_c ?_) | (with_reducible refine rd_op ?_) | (with_reducible refine rd_un ?_)
  | (with_reducible refine rd_I0 ?_) | (with_reducible refine rd_U ?_) | (with_reducible refine rd_test ?_) | (with_reducible refine rd_B ?_) | (with_reducible refine rd_k ?_)
  | (with_reducible refine rd_not ?_) | (with_reducible refine rd_and ?_) | (with_reducible refine rd_or ?_)
  | (with_reducible refine rd_par ?_) | ((with_reducible refine rd_par2 (σ' := ?ss) ?hs ?_); (case hs => (dsimp only [List.set]; exact rfl)))
  | (with_reducible refine rd_gsub ?_) | (with_reducible refine rd_andV ?_) | (with_reducible refine rd_orV ?_) | (with_reducible refine rd_notV ?_)
  | (with_reducible refine rd_lc ?_) | (with_reducible refine rd_iTup ?_) | (with_reducible refine rd_iList ?_) | (with_reducible refine rd_iRng1 ?_) | (with_reducible refine rd_iRng2 ?_) | (with_reducible refine rd_iEnumT ?_) | (with_reducible refine rd_iEnum ?_) | (with_reducible refine rd_iZipM ?_) | (with_reducible refine rd_iEnumS ?_) | (with_reducible refine rd_iKeys ?_) | (with_reducible refine rd_din ?_) | (with_reducible refine rd_dnotin ?_)
  | (with_reducible refine rd_yes ?_) | (with_reducible refine rd_true ?_) | (with_reducible refine rd_false ?_) | (with_reducible refine rd_m1 ?_) | (with_reducible refine rd_isS ?_)
  | ((with_reducible refine rd_eq ?hs ?_); (case hs => exact rfl)) | ((with_reducible refine rd_ne ?hs ?_); (case hs => exact rfl))
  | (with_reducible refine rd_listRg ?_) | (with_reducible refine rd_rg2 ?_) | (with_reducible refine rd_rgk ?_)
  | (with_reducible refine rd_dnew ?_) | (with_reducible refine rd_ddel ?_) | (with_reducible refine rd_kw ?_) | (with_reducible refine rd_callS ?_) | (with_reducible refine rd_dc ?_) | (with_reducible refine rd_for ?_) | (with_reducible refine rd_tru ?_) | (with_reducible refine rd_truI ?_)
  | (with_reducible refine rd_nil ?_) | (with_reducible refine rd_cons ?_) | (with_reducible refine rd_call ?_) | (with_reducible refine rd_cb ?_)
  | (with_reducible refine rd_tup ?_) | (with_reducible refine rd_lst ?_) | (with_reducible refine rd_dget ?_) | (with_reducible refine rd_dput ?_) | (with_reducible refine rd_dget2 ?_) | (with_reducible refine rd_sl ?_)
  | (with_reducible refine rd_nopart ?_) | (with_reducible refine rd_part ?_) | (with_reducible refine rd_parti ?_) | (with_reducible refine rd_bm ?_) | (with_reducible refine rd_bm0 ?_)
  | (with_reducible refine rd_int ?_) | (with_reducible refine rd_intb ?_) | (with_reducible refine rd_abs ?_) | (with_reducible refine rd_min2 ?_) | (with_reducible refine rd_max2 ?_))
local macro_rules | `(tactic| walk_at "rvs") => `(tactic| repeat (walk_at "rv"))

theorem who_eq {a b : Bool} : (V.str (whoT a) = V.str (whoT b)) ↔ a = b := by cases a <;> cases b <;> decide
theorem who_dec {a b : Bool} : decide (V.str (whoT a) = V.str (whoT b)) = decide (a = b) := by cases a <;> cases b <;> decide
/-- whose move it is -/
def nextS (z : Str) (p : List Int) : Bool := heldBy z "s" ((p.length : Int) + 1)
/-- the moves behind which the one whose move it is wins -/
def goodF (n : Nat) (z : Str) (rs : List (List Int)) (p : List Int) : List Int := [-((p.length : Int) + 1), (p.length : Int) + 1].filter fun x => decide (winF n z rs (p ++ [x]) = nextS z p)
section
variable {P : Program} {w : World} {K : PySem.W.Frag} {mg : Str → Option Value} {base : Heap}
def spOwner (K : PySem.W.Frag) : Sp := fun vs H Q _ => ∃ (a c : Addr) (z : Str) (n : Nat) (x : Int), vs = [.ref a, .int x] ∧ SqT K H a [.str z, .ref c] ∧ OwnS n z ∧ n ≤ 60 ∧ 1 ≤ x ∧ x ≤ (n : Int) ∧ Q (.str ⟨#[sgn z x]⟩) H
theorem ok_owner {f : Addr} {fd : FuncData} (F : Fun K "owner_of" "owner_of" sowner_of f fd) (T : Bl mg) : FnOk P w K mg base CX0 1 f fd ["sentence", "letter"] (spOwner K) := by
  refine F.ok scowner_of (fun vs H Q E h => ?_) (fun cdv A outer s H vs Q E hr h => ?_)
  · obtain ⟨a, c, z, n, x, rfl, _⟩ := h
    rfl
  · obtain ⟨a, c, z, n, x, rfl, ha, hz, hn, x0, x1, q⟩ := h
    refine ⟨_, (pss_one (ps_ret (pe_ix ix_str (pe_ix (ik_tup (K := K) rfl) (pv 0) pe_int (fun _ _ => rfl)) (pe_op op_sub (pv 1) pe_int) (fun _ _ => rfl)))), ?_⟩
    refine rd_start (σ' := [some (.ref a), some (.int x)]) rfl ?_
    walk_at "rqs"
    refine rd_ixT ha rfl ?_
    walk_at "rqs"
    exact rd_ixS (by rw [hz.1, sizeLine_eq]; omega) (at_sgn2 hz (by omega) (by omega)) q
def spGood (K : PySem.W.Frag) (C : Addr) : Sp := fun vs H Q E => ∃ (a b : Addr) (z : Str) (n : Nat) (rs : List (List Int)) (p : List Int), vs = [.ref a, .ref b] ∧ Sen K H n a z rs ∧ SqT K H b (p.map V.int) ∧ p.length < n ∧
  (n ≤ 12 → ∀ (q : Addr) (H' : Hp), Evl.Ex H H' → SqT K H' q ((goodF n z rs p).map V.int) → Q (.ref q) H') ∧ (12 < n → OutM C H E)
theorem ok_good {f C fC fO fW : Addr} {fd fdC fdO fdW : FuncData} (F : Fun K "good_moves" "good_moves" sgood_moves f fd) (T : Bl mg)
    (Gcheck_size : FnOk P w K mg base (L2.CX P w) 3 fC fdC ["sentence"] (spSize K C)) (Ccheck_size : Callee K mg "check_size" fC fdC ["sentence"])
    (Gowner_of : FnOk P w K mg base CX0 1 fO fdO ["sentence", "letter"] (spOwner K)) (Cowner_of : Callee K mg "owner_of" fO fdO ["sentence", "letter"])
    (Gwinner : FnOk P w K mg base CX0 15 fW fdW ["sentence", "play"] (spWinner0 K)) (Cwinner : Callee K mg "winner" fW fdW ["sentence", "play"]) :
    FnOk P w K mg base (L2.CX P w) 16 f fd ["sentence", "play"] (spGood K C) := by
  refine F.okX scgood_moves (fun vs H Q E h => ?_) (fun cdv A outer s H vs Q E hr h => ?_)
  · obtain ⟨a, b, z, n, rs, p, rfl, _⟩ := h
    rfl
  · obtain ⟨a, b, z, n, rs, p, rfl, ⟨c, xs, s1, s2, dd, hz, hn, hrow, hl⟩, hb, pl, q1, q2⟩ := h
    refine ⟨_, (pss_cons (ps_expr (pe_callS Gcheck_size (hr.mono (by decide)) (by rfl) Ccheck_size.m Ccheck_size.k Ccheck_size.b (fun σ => passAt (takes_of rfl rfl rfl rfl) σ) (pa_cons (pv 0) pa_nil)))
 (pss_cons (ps_set (i := 2) scgood_moves.nd rfl (Or.inl rfl) (pe_op op_add (pe_callB (c_len (K := K) rfl) (by rfl) T.len (by decide +kernel) (pa_cons (pv 1) pa_nil)) pe_int))
 (pss_cons (ps_set (i := 3) scgood_moves.nd rfl (Or.inr rfl) (pe_ifExp (pt_cmpR op_eq (pe_call Gowner_of (hr.mono (by decide)) (by rfl) Cowner_of.m Cowner_of.k Cowner_of.b .nil pass0 (pa_cons (pv 0) (pa_cons (pv 2) pa_nil))) pe_str (nomark _)) pe_str pe_str))
 (pss_one (ps_ret (pe_callTy (c_tuple (K := K) rfl) (by rfl) T.tuple (by decide +kernel) (pa_cons (pe_lc (own := [("move", 4)]) (g := gName 4) rfl scgood_moves.nd (ik_tupI (K := K) rfl (pe_tup (pa_cons (pe_un un_neg (pv 2)) (pa_cons (pv 2) pa_nil)))) (blkOk_by (own := [("move", 4)]) (N := ["sentence", "play", "letter", "party", "move"]) (sc := defScope sgood_moves) (by decide +kernel)) (fun _ _ _ _ _ => (pg_name (i := 4) scgood_moves.nd rfl (Or.inl rfl))) (fun _ _ _ _ _ => (pts_one (pt_cmpR op_eq (pe_call Gwinner (hr.mono (by decide)) (by rfl) Cwinner.m Cwinner.k Cwinner.b .nil pass0 (pa_cons (pv 0) (pa_cons (pe_op (ok_catT (K := K) rfl) (pv 1) (pe_tup (pa_cons (pv 4) pa_nil))) pa_nil))) (pv 3) (nomark _)))) (fun _ _ _ _ _ => (pv 4))) pa_nil))))))), ?_⟩
    refine rd_start (σ' := [some (.ref a), some (.ref b), none, none, none]) rfl ?_
    walk_at "rqs"
    refine ⟨a, c, z, n, rfl, s1, hz, hn, fun hn12 => ?_, q2⟩
    walk_at "rqs"
    refine rd_lenT hb ?_
    rw [List.length_map]
    walk_at "rqs"
    refine ⟨a, c, z, n, (p.length : Int) + 1, rfl, s1, hz, hn, by omega, by omega, ?_⟩
    walk_at "rqs"
    refine who_lit (b := nextS z p) ?_
    walk_at "rqs"
    refine ⟨(by show 2 ≤ sizeLine; decide), fun tt htt => ?_⟩
    have e1 := Evl.Ex.new (o := .tup [V.int (-((p.length : Int) + 1)), V.int ((p.length : Int) + 1)]) htt
    have stt : SqT K (upd H tt (.tup [V.int (-((p.length : Int) + 1)), V.int ((p.length : Int) + 1)])) tt ([-((p.length : Int) + 1), (p.length : Int) + 1].map V.int) := SqT.of upd_same
    generalize upd H tt (.tup [V.int (-((p.length : Int) + 1)), V.int ((p.length : Int) + 1)]) = H1 at e1 stt ⊢
    refine rd_ref stt ?_
    refine lc_fmT (fun x => decide (winF n z rs (p ++ [x]) = nextS z p)) V.int (σx := fun x => [some (.ref a), some (.ref b), some (.int ((p.length : Int) + 1)), some (.str (whoT (nextS z p))), some x]) stt (by show 2 ≤ 40000; decide) (fun _ => rfl) (fun _ => rfl)
      (fun x hx H' N S e2 kN kS => ?_) fun D H2 e2 eD hD => ?_
    · walk_at "rqs"
      refine ⟨(by show 1 ≤ sizeLine; decide), fun u hu => ?_⟩
      have e3 := Evl.Ex.new (o := .tup [V.int x]) hu
      refine rd_catT (Evl.ex_t ((e1.trans e2).trans e3) hb) (SqT.of upd_same) (by rw [List.length_map, sizeLine_eq]; show _ + 1 ≤ _; omega) fun c2 H6 e6 s6 => ?_
      have e7 := (e1.trans e2).trans (e3.trans e6)
      have s6 : SqT K H6 c2 ((p ++ [x]).map V.int) := by
        rw [List.map_append]
        exact s6
      refine ⟨a, c2, z, n, rs, p ++ [x], rfl, ⟨c, xs, Evl.ex_t e7 s1, Evl.ex_t e7 s2, dpAll_ex e7 _ _ dd, hz, hn, hrow, hl⟩, s6, by rw [List.length_append]; show _ + 1 ≤ _; omega, hn12, fun H8 e8 => ?_⟩
      walk_at "rqs"
      rw [who_dec]
      cases cc : decide (winF n z rs (p ++ [x]) = nextS z p) with
      | true =>
        rw [if_pos rfl]
        walk_at "rqs"
        exact kN cc _ ((e3.trans e6).trans e8)
      | false =>
        rw [if_neg (by decide)]
        exact kS cc _ ((e3.trans e6).trans e8)
    · walk_at "rqs"
      refine rd_tupL (SqL.of hD) fun o ho => ?_
      walk_at "rqs"
      exact q1 hn12 o _ ((e1.trans e2).trans (Evl.Ex.new ho)) (SqT.of upd_same)
/-- where there are not too many -/
def spGood0 (K : PySem.W.Frag) : Sp := fun vs H Q _ => ∃ (a b : Addr) (z : Str) (n : Nat) (rs : List (List Int)) (p : List Int), vs = [.ref a, .ref b] ∧ Sen K H n a z rs ∧ SqT K H b (p.map V.int) ∧ p.length < n ∧ n ≤ 12 ∧
  ∀ (q : Addr) (H' : Hp), Evl.Ex H H' → SqT K H' q ((goodF n z rs p).map V.int) → Q (.ref q) H'
theorem ok_good0 {f C : Addr} {fd : FuncData} (G : FnOk P w K mg base (L2.CX P w) 16 f fd ["sentence", "play"] (spGood K C)) : FnOk P w K mg base CX0 16 f fd ["sentence", "play"] (spGood0 K) :=
  calm G fun vs H Q E ⟨a, b, z, n, rs, p, e, hs, hb, pl, hn, q⟩ => ⟨a, b, z, n, rs, p, e, hs, hb, pl, fun _ => q, fun h => absurd h (by omega)⟩
def spLGood (K : PySem.W.Frag) : Sp := fun vs H Q _ => ∃ (a b : Addr) (z : Str) (n : Nat) (rs : List (List Int)) (p : List Int), vs = [.ref a, .ref b] ∧ Sen K H n a z rs ∧ SqT K H b (p.map V.int) ∧ PlayOk p ∧ p.length < n ∧ n ≤ 12 ∧
  ∀ (q : Addr) (H' : Hp), Evl.Ex H H' → SqT K H' q ((goodF n z rs p).map V.int) → Q (.ref q) H'
theorem ok_lgood {f fE : Addr} {fd fdE : FuncData} (F : Fun K "_law_good" "_law_good" s_law_good f fd) (T : Bl mg)
    (G_law_ends : FnOk P w K mg base CX0 14 fE fdE ["owners", "rows", "play"] (spEndsT K 13)) (C_law_ends : Callee K mg "_law_ends" fE fdE ["owners", "rows", "play"]) :
    FnOk P w K mg base CX0 15 f fd ["own", "play"] (spLGood K) := by
  refine F.ok sc_law_good (fun vs H Q E h => ?_) (fun cdv A outer s H vs Q E hr h => ?_)
  · obtain ⟨a, b, z, n, rs, p, rfl, _⟩ := h
    rfl
  · obtain ⟨a, b, z, n, rs, p, rfl, ⟨c, xs, s1, s2, dd, hz, hn, hrow, hl⟩, hb, okp, pl, hn12, q⟩ := h
    refine ⟨_, (pss_cons (ps_asg (pe_tup (pa_cons (pe_op op_add (pe_callB (c_len (K := K) rfl) (by rfl) T.len (by decide +kernel) (pa_cons (pv 1) pa_nil)) pe_int) (pa_cons (pe_ifExp (pt_cmpR op_eq (pe_ix ix_str (pe_ix (ik_tup (K := K) rfl) (pv 0) pe_int (fun _ _ => rfl)) (pe_callB (c_len (K := K) rfl) (by rfl) T.len (by decide +kernel) (pa_cons (pv 1) pa_nil)) (fun _ _ => rfl)) pe_str (nomark _)) pe_str pe_str) pa_nil))) (pgk_tup (K := K) rfl rfl (pgs_cons (pg_name (i := 2) sc_law_good.nd rfl (Or.inl rfl)) (pgs_cons (pg_name (i := 3) sc_law_good.nd rfl (Or.inr rfl)) pgs_nil))))
 (pss_one (ps_ret (pe_callTy (c_tuple (K := K) rfl) (by rfl) T.tuple (by decide +kernel) (pa_cons (pe_lc (own := [("x", 4)]) (g := gName 4) rfl sc_law_good.nd (ik_tupI (K := K) rfl (pe_tup (pa_cons (pe_un un_neg (pv 2)) (pa_cons (pv 2) pa_nil)))) (blkOk_by (own := [("x", 4)]) (N := ["own", "play", "letter", "goal", "x"]) (sc := defScope s_law_good) (by decide +kernel)) (fun _ _ _ _ _ => (pg_name (i := 4) sc_law_good.nd rfl (Or.inl rfl))) (fun _ _ _ _ _ => (pts_one (pt_cmpR op_eq (pe_ix (ik_tup (K := K) rfl) (pe_call G_law_ends (hr.mono (by decide)) (by rfl) C_law_ends.m C_law_ends.k C_law_ends.b .nil pass0 (pa_cons (pe_ix (ik_tup (K := K) rfl) (pv 0) pe_int (fun _ _ => rfl)) (pa_cons (pe_ix (ik_tup (K := K) rfl) (pv 0) pe_int (fun _ _ => rfl)) (pa_cons (pe_op (ok_catT (K := K) rfl) (pv 1) (pe_tup (pa_cons (pv 4) pa_nil))) pa_nil)))) pe_int (fun _ _ => rfl)) (pv 3) (nomark _)))) (fun _ _ _ _ _ => (pv 4))) pa_nil))))), ?_⟩
    refine rd_start (σ' := [some (.ref a), some (.ref b), none, none, none]) rfl ?_
    walk_at "rqs"
    refine rd_lenT hb ?_
    rw [List.length_map]
    walk_at "rqs"
    refine rd_ixT s1 rfl ?_
    walk_at "rqs"
    refine rd_lenT hb ?_
    rw [List.length_map]
    walk_at "rqs"
    have hat : atI z.cps.toList (p.length : Int) = some (sgn z ((p.length : Int) + 1)) := by
      have := at_sgn2 hz (x := (p.length : Int) + 1) (by omega) (by omega)
      rwa [Int.add_sub_cancel] at this
    refine rd_ixS (by rw [hz.1, sizeLine_eq]; omega) hat ?_
    walk_at "rqs"
    refine who_lit (b := nextS z p) ?_
    walk_at "rqs"
    refine ⟨(by show 2 ≤ sizeLine; decide), fun tp htp => ?_⟩
    have e0 := Evl.Ex.new (o := .tup [V.int ((p.length : Int) + 1), .str (whoT (nextS z p))]) htp
    have stp : SqT K (upd H tp (.tup [V.int ((p.length : Int) + 1), .str (whoT (nextS z p))])) tp [V.int ((p.length : Int) + 1), .str (whoT (nextS z p))] := SqT.of upd_same
    have s1 := Evl.ex_t e0 s1
    have s2 := Evl.ex_t e0 s2
    have dd := dpAll_ex e0 _ _ dd
    have hb := Evl.ex_t e0 hb
    replace q := fun q' H' (e : Evl.Ex (upd H tp (.tup [V.int ((p.length : Int) + 1), .str (whoT (nextS z p))])) H') => q q' H' (e0.trans e)
    generalize upd H tp (.tup [V.int ((p.length : Int) + 1), .str (whoT (nextS z p))]) = H at stp s1 s2 dd hb q ⊢
    refine rd_gtup2 stp rfl (σ' := [some (.ref a), some (.ref b), some (.int ((p.length : Int) + 1)), some (.str (whoT (nextS z p))), none]) rfl ?_
    walk_at "rqs"
    refine ⟨(by show 2 ≤ sizeLine; decide), fun tt htt => ?_⟩
    have e1 := Evl.Ex.new (o := .tup [V.int (-((p.length : Int) + 1)), V.int ((p.length : Int) + 1)]) htt
    have stt : SqT K (upd H tt (.tup [V.int (-((p.length : Int) + 1)), V.int ((p.length : Int) + 1)])) tt ([-((p.length : Int) + 1), (p.length : Int) + 1].map V.int) := SqT.of upd_same
    generalize upd H tt (.tup [V.int (-((p.length : Int) + 1)), V.int ((p.length : Int) + 1)]) = H1 at e1 stt ⊢
    refine rd_ref stt ?_
    refine lc_fmT (fun x => decide (winF n z rs (p ++ [x]) = nextS z p)) V.int (σx := fun x => [some (.ref a), some (.ref b), some (.int ((p.length : Int) + 1)), some (.str (whoT (nextS z p))), some x]) stt (by show 2 ≤ 40000; decide) (fun _ => rfl) (fun _ => rfl)
      (fun x hx H' N S e2 kN kS => ?_) fun D H2 e2 eD hD => ?_
    · walk_at "rqs"
      refine rd_ixT (Evl.ex_t (e1.trans e2) s1) rfl ?_
      walk_at "rqs"
      refine rd_ixT (Evl.ex_t (e1.trans e2) s1) rfl ?_
      walk_at "rqs"
      refine ⟨(by show 1 ≤ sizeLine; decide), fun u hu => ?_⟩
      have e3 := Evl.Ex.new (o := .tup [V.int x]) hu
      refine rd_catT (Evl.ex_t ((e1.trans e2).trans e3) hb) (SqT.of upd_same) (by rw [List.length_map, sizeLine_eq]; show _ + 1 ≤ _; omega) fun c2 H6 e6 s6 => ?_
      have e7 := (e1.trans e2).trans (e3.trans e6)
      have s6 : SqT K H6 c2 ((p ++ [x]).map V.int) := by
        rw [List.map_append]
        exact s6
      have hxa : x.natAbs = p.length + 1 := by
        simp only [List.mem_cons, List.not_mem_nil, or_false] at hx
        rcases hx with rfl | rfl <;> omega
      have hlen : (p ++ [x]).length = p.length + 1 := by rw [List.length_append] <;> rfl
      refine ⟨z, c, c2, n, xs, rs, p ++ [x], rfl, hz, hn12, Evl.ex_t e7 s2, dpAll_ex e7 _ _ dd, hrow, by omega, s6, okp.snoc hxa, by omega, by omega, fun v H8 e8 hv => ?_⟩
      obtain ⟨qa, cnt, rfl, hc, sq⟩ := hv
      walk_at "rqs"
      refine rd_ixT sq rfl ?_
      walk_at "rqs"
      have hw : winR z (n - (p ++ [x]).length) (((p ++ [x]).length : Int) + 1) (askedF (p ++ [x]) rs) = winF n z rs (p ++ [x]) := rfl
      rw [hw, who_dec]
      cases cc : decide (winF n z rs (p ++ [x]) = nextS z p) with
      | true =>
        rw [if_pos rfl]
        walk_at "rqs"
        exact kN cc _ ((e3.trans e6).trans e8)
      | false =>
        rw [if_neg (by decide)]
        exact kS cc _ ((e3.trans e6).trans e8)
    · walk_at "rqs"
      refine rd_tupL (SqL.of hD) fun o ho => ?_
      walk_at "rqs"
      exact q o _ ((e1.trans e2).trans (Evl.Ex.new ho)) (SqT.of upd_same)
end
end KA
set_option Elab.async false
set_option linter.all false
set_option maxRecDepth 100000
set_option maxHeartbeats 400000
set_option pp.maxSteps 300
namespace KA
open PySem PySem.Spec PyProof.Rows L2 Ea
abbrev s_law_is_told : Stmt := topS 31
theorem sc_law_is_told : FnScope ["deck", "own", "due", "play", "x"] ["deck", "own"] (defScope s_law_is_told) :=
  ⟨rfl, rfl, rfl, by decide +kernel, rfl, by decide +kernel, by decide +kernel⟩
abbrev s_law_wins : Stmt := topS 32
theorem sc_law_wins : FnScope ["own"] ["own"] (defScope s_law_wins) :=
  ⟨rfl, rfl, rfl, by decide +kernel, rfl, by decide +kernel, by decide +kernel⟩
local macro_rules | `(tactic| walk_at "rd") => `(tactic| first
  | (with_reducible refine rd_seq ?_) | (with_reducible refine rd_asg ?_) | (with_reducible refine rd_if ?_) | (with_reducible refine rd_ret ?_) | (with_reducible refine rd_next ?_)
  | (with_reducible refine rd_drop ?_) | ((with_reducible refine rd_name (σ' := ?ss) ?hs ?_); (case hs => (dsimp only [List.set]; exact rfl)))
  | ((with_reducible refine rd_var (v := ?vv) ?hv ?_); (case hv => exact rfl)) | (with_reducible refine rd_c ?_) | (with_reducible refine rd_op ?_) | (with_reducible refine rd_un ?_)
  | (with_reducible refine rd_I0 ?_) | (with_reducible refine rd_U ?_) | (with_reducible refine rd_test ?_) | (with_reducible refine rd_B ?_) | (with_reducible refine rd_k ?_)
  | (with_reducible refine rd_not ?_) | (with_reducible refine rd_and ?_) | (with_reducible refine rd_or ?_) | (with_reducible refine rd_ifE ?_)
  | (with_reducible refine rd_par ?_) | ((with_reducible refine rd_par2 (σ' := ?ss) ?hs ?_); (case hs => (dsimp only [List.set]; exact rfl)))
  | (with_reducible refine rd_gsub ?_) | (with_reducible refine rd_andV ?_) | (with_reducible refine rd_orV ?_) | (with_reducible refine rd_notV ?_)
  | (with_reducible refine rd_lc ?_) | (with_reducible refine rd_iTup ?_) | (with_reducible refine rd_iList ?_) | (with_reducible refine rd_iRng1 ?_) | (with_reducible refine rd_iRng2 ?_) | (with_reducible refine rd_iEnumT ?_) | (with_reducible refine rd_iEnum ?_) | (with_reducible refine rd_iZipM ?_) | (with_reducible refine rd_iEnumS ?_) | (with_reducible refine rd_iKeys ?_) | (with_reducible refine rd_din ?_) | (with_reducible refine rd_dnotin ?_)
  | (with_reducible refine rd_yes ?_) | (with_reducible refine rd_true ?_) | (with_reducible refine rd_false ?_) | (with_reducible refine rd_m1 ?_) | (with_reducible refine rd_isS ?_)
  | ((with_reducible refine rd_eq ?hs ?_); (case hs => exact rfl)) | ((with_reducible refine rd_ne ?hs ?_); (case hs => exact rfl))
  | (with_reducible refine rd_listRg ?_) | (with_reducible refine rd_rg2 ?_) | (with_reducible refine rd_rgk ?_)
  | (with_reducible refine rd_dnew ?_) | (with_reducible refine rd_ddel ?_) | (with_reducible refine rd_kw ?_) | (with_reducible refine rd_callS ?_) | (with_reducible refine rd_dc ?_) | (with_reducible refine rd_for ?_) | (with_reducible refine rd_tru ?_) | (with_reducible refine rd_truI ?_)
  | (with_reducible refine rd_nil ?_) | (with_reducible refine rd_cons ?_) | (with_reducible refine rd_call ?_) | (with_reducible refine rd_cb ?_)
  | (with_reducible refine rd_tup ?_) | (with_reducible refine rd_lst ?_) | (with_reducible refine rd_dget ?_) | (with_reducible refine rd_dput ?_) | (with_reducible refine rd_dget2 ?_) | (with_reducible refine rd_sl ?_)
  | (with_reducible refine rd_nopart ?_) | (with_reducible refine rd_part ?_) | (with_reducible refine rd_parti ?_) | (with_reducible refine rd_bm ?_) | (with_reducible refine rd_bm0 ?_)
  | (with_reducible refine rd_int ?_) | (with_reducible refine rd_intb ?_) | (with_reducible refine rd_abs ?_) | (with_reducible refine rd_min2 ?_) | (with_reducible refine rd_max2 ?_))
local macro_rules | `(tactic| walk_at "rds") => `(tactic| repeat (walk_at "rd"))
local macro_rules | `(tactic| walk_at "rq") => `(tactic| first
  | (with_reducible refine rd_seq ?_) | (with_reducible refine rd_asg ?_) | (with_reducible refine rd_ret ?_) | (with_reducible refine rd_next ?_)
  | (with_reducible refine rd_drop ?_) | ((with_reducible refine rd_name (σ' := ?ss) ?hs ?_); (case hs => (dsimp only [List.set]; exact rfl)))
  | ((with_reducible refine rd_var (v := ?vv) ?hv ?_); (case hv => exact rfl)) | (with_reducible refine rd_c ?_) | (with_reducible refine rd_op ?_) | (with_reducible refine rd_un ?_)
  | (with_reducible refine rd_I0 ?_) | (with_reducible refine rd_U ?_) | (with_reducible refine rd_test ?_) | (with_reducible refine rd_B ?_) | (with_reducible refine rd_k ?_)
  | (with_reducible refine rd_not ?_) | (with_reducible refine rd_and ?_) | (with_reducible refine rd_or ?_) | (with_reducible refine rd_ifE ?_)
  | (with_reducible refine rd_par ?_) | ((with_reducible refine rd_par2 (σ' := ?ss) ?hs ?_); (case hs => (dsimp only [List.set]; exact rfl)))
  | (with_reducible refine rd_gsub ?_) | (with_reducible refine rd_andV ?_) | (with_reducible refine rd_orV ?_) | (with_reducible refine rd_notV ?_)
  | (with_reducible refine rd_lc ?_) | (with_reducible refine rd_iTup ?_) | (with_reducible refine rd_iList ?_) | (with_reducible refine rd_iRng1 ?_) | (with_reducible refine rd_iRng2 ?_) | (with_reducible refine rd_iEnumT ?_) | (with_reducible refine rd_iEnum ?_) | (with_reducible refine rd_iZipM ?_) | (with_reducible refine rd_iEnumS ?_) | (with_reducible refine rd_iKeys ?_) | (with_reducible refine rd_din ?_) | (with_reducible refine rd_dnotin ?_)
  | (with_reducible refine rd_yes ?_) | (with_reducible refine rd_true ?_) | (with_reducible refine rd_false ?_) | (with_reducible refine rd_m1 ?_) | (with_reducible refine rd_isS ?_)
  | ((with_reducible refine rd_eq ?hs ?_); (case hs => exact rfl)) | ((with_reducible refine rd_ne ?hs ?_); (case hs => exact rfl))
  | (with_reducible refine rd_listRg ?_) | (with_reducible refine rd_rg2 ?_) | (with_reducible refine rd_rgk ?_)
  | (with_reducible refine rd_dnew ?_) | (with_reducible refine rd_ddel ?_) | (with_reducible refine rd_kw ?_) | (with_reducible refine rd_callS ?_) | (with_reducible refine rd_dc ?_) | (with_reducible refine rd_for ?_) | (with_reducible refine rd_tru ?_) | (with_reducible refine rd_truI ?_)
  | (with_reducible refine rd_nil ?_) | (with_reducible refine rd_cons ?_) | (with_reducible refine rd_call ?_) | (with_reducible refine rd_cb ?_)
  | (with_reducible refine rd_tup ?_) | (with_reducible refine rd_lst ?_) | (with_reducible refine rd_dget ?_) | (with_reducible refine rd_dput ?_) | (with_reducible refine rd_dget2 ?_) | (with_reducible refine rd_sl ?_)
  | (with_reducible refine rd_nopart ?_) | (with_reducible refine rd_part ?_) | (with_reducible refine rd_parti ?_) | (with_reducible refine rd_bm ?_) | (with_reducible refine rd_bm0 ?_)
  | (with_reducible refine rd_int ?_) | (with_reducible refine rd_intb ?_) | (with_reducible refine rd_abs ?_) | (with_reducible refine rd_min2 ?_) | (with_reducible refine rd_max2 ?_))
local macro_rules | `(tactic| walk_at "rqs") => `(tactic| repeat (walk_at "rq"))
local macro_rules | `(tactic| walk_at "rv") => `(tactic| first
  | (with_reducible refine rd_seq ?_) | (with_reducible refine rd_asg ?_) | (with_reducible refine rd_ret ?_) | (with_reducible refine rd_next ?_)
  | (with_reducible refine rd_drop ?_) | ((with_reducible refine rd_name (σ' := ?ss) ?hs ?_); (case hs => (dsimp only [List.set]; exact rfl)))
  | ((with_reducible refine rd_var (v := ?vv) ?hv ?_); (case hv => exact rfl)) | (with_reducible refine rd_c ?_) | (with_reducible refine rd_op ?_) | (with_reducible refine rd_un ?_)
  | (with_reducible refine rd_I0 ?_) | (with_reducible refine rd_U ?_) | (with_reducible refine rd_test ?_) | (with_reducible refine rd_B ?_) | (with_reducible refine rd_k ?_)
  | (with_reducible refine rd_not ?_) | (with_reducible refine rd_and ?_) | (with_reducible refine rd_or ?_)
  | (with_reducible refine rd_par ?_) | ((with_reducible refine rd_par2 (σ' := ?ss) ?hs ?_); (case hs => (dsimp only [List.set]; exact rfl)))
  | (with_reducible refine rd_gsub ?_) | (with_reducible refine rd_andV ?_) | (with_reducible refine rd_orV ?_) | (with_reducible refine rd_notV ?_)
  | (with_reducible refine rd_lc ?_) | (with_reducible refine rd_iTup ?_) | (with_reducible refine rd_iList ?_) | (with_reducible refine rd_iRng1 ?_) | (with_reducible refine rd_iRng2 ?_) | (with_reducible refine rd_iEnumT ?_) | (with_reducible refine rd_iEnum ?_) | (with_reducible refine rd_iZipM ?_) | (with_reducible refine rd_iEnumS ?_) | (with_reducible refine rd_iKeys ?_) | (with_reducible refine rd_din ?_) | (with_reducible refine rd_dnotin ?_)
  | (with_reducible refine rd_yes ?_) | (with_reducible refine rd_true ?_) | (with_reducible refine rd_false ?_) | (with_reducible refine rd_m1 ?_) | (with_reducible refine rd_isS ?_)
  | ((with_reducible refine rd_eq ?hs ?_); (case hs => exact rfl)) | ((with_reducible refine rd_ne ?hs ?_); (case hs => exact rfl))
  | (with_reducible refine rd_listRg ?_) | (with_reducible refine rd_rg2 ?_) | (with_reducible refine rd_rgk ?_)
  | (with_reducible refine rd_dnew ?_) | (with_reducible refine rd_ddel ?_) | (with_reducible refine rd_kw ?_) | (with_reducible refine rd_callS ?_) | (with_reducible refine rd_dc ?_) | (with_reducible refine rd_for ?_) | (with_reducible refine rd_tru ?_) | (with_reducible refine rd_truI ?_)
  | (with_reducible refine rd_nil ?_) | (with_reducible refine rd_cons ?_) | (with_reducible refine rd_call ?_) | (with_reducible refine rd_cb ?_)
  | (with_reducible refine rd_tup ?_) | (with_reducible refine rd_lst ?_) | (with_reducible refine rd_dget ?_) | (with_reducible refine rd_dput ?_) | (with_reducible refine rd_dget2 ?_) | (with_reducible refine rd_sl ?_)
  | (with_reducible refine rd_nopart ?_) | (with_reducible refine rd_part ?_) | (with_reducible refine rd_parti ?_) | (with_reducible refine rd_bm ?_) | (with_reducible refine rd_bm0 ?_)
  | (with_reducible refine rd_int ?_) | (with_reducible refine rd_intb ?_) | (with_reducible refine rd_abs ?_) | (with_reducible refine rd_min2 ?_) | (with_reducible refine rd_max2 ?_))
local macro_rules | `(tactic| walk_at "rvs") => `(tactic| repeat (walk_at "rv"))

theorem Sen.gl {K : PySem.W.Frag} {H H' : Hp} {n : Nat} {a : Addr} {z : Str} {rs : List (List Int)} {d l : Addr} (g : Gl d l H H') (hD : DeckL d l H) (h : Sen K H n a z rs) : Sen K H' n a z rs := by
  obtain ⟨c, xs, h1, h2, h3, h4⟩ := h
  exact ⟨c, xs, g.tup hD h1, g.tup hD h2, Gl.rows g hD h3, h4⟩
theorem nice_ints {p : List Int} (h : ∀ x ∈ p, x.natAbs ≤ 60) (hl : p.length ≤ 60) : Nice 60 1 (dR p) := (Nice.tup (NiceAll.ints fun x hx => Nat.lt_of_le_of_lt (h x hx) (by decide))).mono hl (Nat.le_refl _)
theorem good_mem {n : Nat} {z : Str} {rs : List (List Int)} {p : List Int} {x : Int} (h : x ∈ goodF n z rs p) : x.natAbs = p.length + 1 := by
  have := (List.mem_filter.mp h).1
  simp only [List.mem_cons, List.not_mem_nil, or_false] at this
  rcases this with rfl | rfl <;> omega
theorem good_len {n : Nat} {z : Str} {rs : List (List Int)} {p : List Int} : (goodF n z rs p).length ≤ 2 := List.length_filter_le _ _
theorem nice_good {n : Nat} {z : Str} {rs : List (List Int)} {p : List Int} (hp : p.length < 60) : Nice 60 1 (dR (goodF n z rs p)) := nice_ints (fun x hx => by have := good_mem hx; omega) (Nat.le_trans good_len (by decide))
theorem eqv_row : ∀ r : List Int, PyData.eqv (dR r) (dR r) = true := fun r => by
  have : ∀ r : List Int, PyData.eqvAll (dI r) (dI r) = true := fun r => by
    induction r with
    | nil => rfl
    | cons x t ih =>
      show (PyData.eqv (.int x) (.int x) && PyData.eqvAll (dI t) (dI t)) = true
      rw [ih]
      simp [PyData.eqv]
  exact this r
section
variable {P : Program} {w : World} {K : PySem.W.Frag} {mg : Str → Option Value} {base : Heap}
def spTold (K : PySem.W.Frag) : Sp := fun vs H Q _ => ∃ (d l a : Addr) (z : Str) (n : Nat) (rs : List (List Int)), vs = [.ref d, .ref a] ∧ DeckL d l H ∧ Sen K H n a z rs ∧ 1 ≤ n ∧ n ≤ 12 ∧
  ∀ H', Gl d l H H' → Q (.bl true) H'
theorem ok_told {f fD fP fW fT fG fL fE : Addr} {fd fdD fdP fdW fdT fdG fdL fdE : FuncData} (F : Fun K "_law_is_told" "_law_is_told" s_law_is_told f fd) (T : Bl mg)
    (G_law_draw : FnOk P w K mg base CX0 1 fD fdD ["deck", "many"] spDraw) (C_law_draw : Callee K mg "_law_draw" fD fdD ["deck", "many"])
    (G_law_pick : FnOk P w K mg base CX0 2 fP fdP ["deck", "items"] spPick) (C_law_pick : Callee K mg "_law_pick" fP fdP ["deck", "items"])
    (Gwinner : FnOk P w K mg base CX0 15 fW fdW ["sentence", "play"] (spWinner0 K)) (Cwinner : Callee K mg "winner" fW fdW ["sentence", "play"])
    (Gtrees : FnOk P w K mg base CX0 15 fT fdT ["sentence"] (spTrees0 K)) (Ctrees : Callee K mg "trees" fT fdT ["sentence"])
    (Ggood_moves : FnOk P w K mg base CX0 16 fG fdG ["sentence", "play"] (spGood0 K)) (Cgood_moves : Callee K mg "good_moves" fG fdG ["sentence", "play"])
    (G_law_good : FnOk P w K mg base CX0 15 fL fdL ["own", "play"] (spLGood K)) (C_law_good : Callee K mg "_law_good" fL fdL ["own", "play"])
    (G_law_ends : FnOk P w K mg base CX0 14 fE fdE ["owners", "rows", "play"] (spEndsT K 13)) (C_law_ends : Callee K mg "_law_ends" fE fdE ["owners", "rows", "play"]) :
    FnOk P w K mg base CX0 17 f fd ["deck", "own"] (spTold K) := by
  refine F.ok sc_law_is_told (fun vs H Q E h => ?_) (fun cdv A outer s H vs Q E hr h => ?_)
  · obtain ⟨d, l, a, z, n, rs, rfl, _⟩ := h
    rfl
  · obtain ⟨d, l, a, z, n, rs, rfl, hD, sen, hn1, hn12, q⟩ := h
    obtain ⟨c, xs, s1, s2, dd, hz, hn, hrow, hl⟩ := id sen
    refine ⟨_, (pss_cons (ps_set (i := 2) sc_law_is_told.nd rfl (Or.inl rfl) (pe_call G_law_ends (hr.mono (by decide)) (by rfl) C_law_ends.m C_law_ends.k C_law_ends.b .nil pass0 (pa_cons (pe_ix (ik_tup (K := K) rfl) (pv 1) pe_int (fun _ _ => rfl)) (pa_cons (pe_ix (ik_tup (K := K) rfl) (pv 1) pe_int (fun _ _ => rfl)) (pa_cons (pe_tup pa_nil) pa_nil)))))
 (pss_cons (ps_if (PW.pt (pw_or (pt_cmpR op_ne (pe_call Gwinner (hr.mono (by decide)) (by rfl) Cwinner.m Cwinner.k Cwinner.b .nil pass0 (pa_cons (pv 1) (pa_cons (pe_tup pa_nil) pa_nil))) (pe_ix (ik_tup (K := K) rfl) (pv 2) pe_int (fun _ _ => rfl)) (nomark _)) (pw_or1 (pt_cmpR op_ne (pe_call Gtrees (hr.mono (by decide)) (by rfl) Ctrees.m Ctrees.k Ctrees.b .nil pass0 (pa_cons (pv 1) pa_nil)) (pe_ix (ik_tup (K := K) rfl) (pv 2) pe_int (fun _ _ => rfl)) (nomark _))))) (pss_one (ps_ret pe_bl)) pss_nil)
 (pss_cons (ps_set (i := 3) sc_law_is_told.nd rfl (Or.inl rfl) (pe_callTy (c_tuple (K := K) rfl) (by rfl) T.tuple (by decide +kernel) (pa_cons (pe_lc (own := [("x", 4)]) (g := gName 4) rfl sc_law_is_told.nd (pi_range2 (by rfl) T.range (pa_cons pe_int (pa_cons (pe_op op_add (pe_call G_law_draw (hr.mono (by decide)) (by rfl) C_law_draw.m C_law_draw.k C_law_draw.b .nil pass0 (pa_cons (pv 0) (pa_cons (pe_callB c_lenS (by rfl) T.len (by decide +kernel) (pa_cons (pe_ix (ik_tup (K := K) rfl) (pv 1) pe_int (fun _ _ => rfl)) pa_nil)) pa_nil))) pe_int) pa_nil))) (blkOk_by (own := [("x", 4)]) (N := ["deck", "own", "due", "play", "x"]) (sc := defScope s_law_is_told) (by decide +kernel)) (fun _ _ _ _ _ => (pg_name (i := 4) sc_law_is_told.nd rfl (Or.inl rfl))) (fun _ _ _ _ _ => pts_nil) (fun _ _ _ _ _ => (pe_call G_law_pick (hr.mono (by decide)) (by rfl) C_law_pick.m C_law_pick.k C_law_pick.b .nil pass0 (pa_cons (pv 0) (pa_cons (pe_lst (pa_cons (pv 4) (pa_cons (pe_un un_neg (pv 4)) pa_nil))) pa_nil))))) pa_nil)))
 (pss_one (ps_ret (pe_and (pe_cmpR (ok_eqD (K := K) rfl hr.units) (pe_call Ggood_moves (hr.mono (by decide)) (by rfl) Cgood_moves.m Cgood_moves.k Cgood_moves.b .nil pass0 (pa_cons (pv 1) (pa_cons (pv 3) pa_nil))) (pe_call G_law_good (hr.mono (by decide)) (by rfl) C_law_good.m C_law_good.k C_law_good.b .nil pass0 (pa_cons (pv 1) (pa_cons (pv 3) pa_nil))) (nomark _)) (pe_one (pe_cmpR op_eq (pe_call Gwinner (hr.mono (by decide)) (by rfl) Cwinner.m Cwinner.k Cwinner.b .nil pass0 (pa_cons (pv 1) (pa_cons (pv 3) pa_nil))) (pe_ix (ik_tup (K := K) rfl) (pe_call G_law_ends (hr.mono (by decide)) (by rfl) C_law_ends.m C_law_ends.k C_law_ends.b .nil pass0 (pa_cons (pe_ix (ik_tup (K := K) rfl) (pv 1) pe_int (fun _ _ => rfl)) (pa_cons (pe_ix (ik_tup (K := K) rfl) (pv 1) pe_int (fun _ _ => rfl)) (pa_cons (pv 3) pa_nil)))) pe_int (fun _ _ => rfl)) (nomark _))))))))), ?_⟩
    refine rd_start (σ' := [some (.ref d), some (.ref a), none, none, none]) rfl ?_
    walk_at "rvs"
    refine rd_ixT s1 rfl ?_
    walk_at "rvs"
    refine rd_ixT s1 rfl ?_
    walk_at "rvs"
    refine ⟨Nat.zero_le _, fun t4 h4 => ?_⟩
    have e1 := Evl.Ex.new (o := .tup []) h4
    walk_at "rvs"
    refine ⟨z, c, t4, n, xs, rs, [], rfl, hz, hn12, Evl.ex_t e1 s2, dpAll_ex e1 _ _ dd, hrow, by omega, SqT.of upd_same, fun i x e => by simp at e, Nat.zero_le _, by show n - 0 < 13; omega, fun v H2 e2 hv => ?_⟩
    obtain ⟨qa, cnt, rfl, hc, sq⟩ := hv
    have hcw : cnt = wayF n z rs [] := hc
    have hww : winR z (n - ([] : List Int).length) ((([] : List Int).length : Int) + 1) (askedF [] rs) = winF n z rs [] := rfl
    rw [hww, hcw] at sq
    walk_at "rvs"
    dsimp only
    refine rd_if ?_
    walk_at "rvs"
    refine ⟨Nat.zero_le _, fun t5 h5 => ?_⟩
    have e3 := Evl.Ex.new (o := .tup []) h5
    walk_at "rvs"
    refine ⟨a, t5, z, n, rs, [], rfl, sen.ex ((e1.trans e2).trans e3), SqT.of upd_same, Nat.zero_le _, hn12, fun H4 e4 => ?_⟩
    walk_at "rvs"
    refine rd_ixT (Evl.ex_t (e3.trans e4) sq) rfl ?_
    walk_at "rvs"
    refine rd_iten (fun c => absurd rfl c) (fun _ => ?_)
    walk_at "rvs"
    have e14 := ((e1.trans e2).trans e3).trans e4
    refine ⟨a, z, n, rs, rfl, sen.ex e14, hn12, fun H5 e5 => ?_⟩
    walk_at "rvs"
    refine rd_ixT (Evl.ex_t ((e3.trans e4).trans e5) sq) rfl ?_
    walk_at "rvs"
    refine rd_iten (fun c => absurd rfl c) (fun _ => ?_)
    have e15 := e14.trans e5
    have hD5 := (Gl.ex e15 hD).dk
    have g15 := Gl.ex e15 hD
    have sen5 := sen.ex e15
    obtain ⟨c, xs, s1, s2, dd, _⟩ := id sen5
    clear e1 e2 e3 e4 e5 e14 h4 h5 sq hc hcw hww
    walk_at "rvs"
    refine rd_ixT s1 rfl ?_
    walk_at "rvs"
    refine rd_lenS (by rw [hz.1, sizeLine_eq]; omega) ?_
    rw [hz.1]
    walk_at "rvs"
    refine ⟨d, l, (n : Int), rfl, hD5, by omega, by omega, fun r H6 g6 r0 r1 => ?_⟩
    have hD6 := g6.dk
    have sen6 := sen5.gl g6 hD5
    have g16 := g15.trans g6
    obtain ⟨m, hm, hmn⟩ : ∃ m : Nat, r = (m : Int) ∧ m < n := ⟨r.toNat, by omega, by omega⟩
    subst hm
    clear s1 s2 dd sen5 hD5 g6 g15 r0 r1
    walk_at "rvs"
    refine ⟨1, (m : Int) + 1, rfl, ⟨by omega, by omega, by omega, by omega⟩, ?_⟩
    rw [show (m : Int) + 1 - 1 = (m : Int) by omega, Int.toNat_natCast]
    refine lc_glR (lo := 1) (fun i acc => ∃ ys : List Int, acc = ys.map V.int ∧ ys.length = i ∧ PlayOk ys) (σx := fun x => [some (.ref d), some (.ref a), some (.ref qa), none, some x])
      hD6 (by omega) (fun _ => rfl) (fun _ => rfl) ⟨[], rfl, rfl, fun i x e => by simp at e⟩ (fun i hi acc H7 N S g7 hP kN kS => ?_) fun D acc H7 g7 eD hacc hP => ?_
    · obtain ⟨ys, rfl, rfl, hy⟩ := hP
      walk_at "rvs"
      refine ⟨(by show 2 ≤ sizeLine; decide), fun b hb => ?_⟩
      have g8 := Gl.new (o := .lst [V.int (1 + (ys.length : Int)), .int (-(1 + (ys.length : Int)))]) g7.dk hb
      have ob := g7.dk.off hb
      walk_at "rvs"
      refine ⟨d, l, b, _, rfl, g8.dk, upd_same, ob.1, ob.2, by show 1 ≤ 2; decide, by show 2 ≤ 1000; decide, fun y H9 g9 hy9 => ?_⟩
      obtain ⟨u, rfl, hu⟩ : ∃ u : Int, y = .int u ∧ u.natAbs = ys.length + 1 := by
        simp only [List.mem_cons, List.not_mem_nil, or_false] at hy9
        rcases hy9 with rfl | rfl
        · exact ⟨_, rfl, by omega⟩
        · exact ⟨_, rfl, by omega⟩
      exact kN _ _ (g8.trans g9) ⟨ys ++ [u], by rw [List.map_append] <;> rfl, snoc_len _ _, hy.snoc hu⟩
    obtain ⟨p, rfl, lp, okp⟩ := hP
    have sen7 := sen6.gl g7 hD6
    have g17 := g16.trans g7
    clear sen6 g16
    walk_at "rvs"
    refine rd_tupL (SqL.of hacc) fun b hb => ?_
    have e8 := Evl.Ex.new (o := .tup (p.map V.int)) hb
    have sb : SqT K (upd H7 b (.tup (p.map V.int))) b (p.map V.int) := SqT.of upd_same
    have sen8 := sen7.ex e8
    have g18 := g17.trans (Gl.ex e8 g7.dk)
    generalize upd H7 b (.tup (p.map V.int)) = H8 at sb sen8 g18 ⊢
    clear e8 hb sen7 g17 g7 hacc eD
    walk_at "rvs"
    refine ⟨a, b, z, n, rs, p, rfl, sen8, sb, by omega, hn12, fun q1 H9 e9 t1 => ?_⟩
    walk_at "rvs"
    refine ⟨a, b, z, n, rs, p, rfl, sen8.ex e9, Evl.ex_t e9 sb, okp, by omega, hn12, fun q2 HA eA t2 => ?_⟩
    walk_at "rvs"
    refine rd_eqD (dp_of_row (Evl.ex_t eA t1)) (dp_of_row t2) (nice_good (by omega)) (nice_good (by omega)) (by decide) (by decide) ?_
    rw [eqv_row]
    walk_at "rvs"
    have e8A := e9.trans eA
    refine ⟨a, b, z, n, rs, p, rfl, sen8.ex e8A, Evl.ex_t e8A sb, by omega, hn12, fun HB eB => ?_⟩
    have e8B := e8A.trans eB
    obtain ⟨c, xs, s1, s2, dd, _⟩ := sen8.ex e8B
    walk_at "rvs"
    refine rd_ixT s1 rfl ?_
    walk_at "rvs"
    refine rd_ixT s1 rfl ?_
    walk_at "rvs"
    refine ⟨z, c, b, n, xs, rs, p, rfl, hz, hn12, s2, dd, hrow, by omega, Evl.ex_t e8B sb, okp, by omega, by omega, fun v HC eC hv => ?_⟩
    obtain ⟨qb, cnt2, rfl, hc2, sq2⟩ := hv
    have hw2 : winR z (n - p.length) ((p.length : Int) + 1) (askedF p rs) = winF n z rs p := rfl
    rw [hw2] at sq2
    walk_at "rvs"
    refine rd_ixT sq2 rfl ?_
    walk_at "rvs"
    rw [decide_eq_true rfl]
    exact q _ (g18.trans (Gl.ex (e8B.trans eC) g18.dk))
def spWinsB (K : PySem.W.Frag) : Sp := fun vs H Q _ => ∃ (a : Addr) (z : Str) (n : Nat) (rs : List (List Int)), vs = [.ref a] ∧ Sen K H n a z rs ∧ n ≤ 12 ∧
  ∀ H', Evl.Ex H H' → Q (.bl (winF n z rs [])) H'
end
end KA
set_option Elab.async false
set_option linter.all false
set_option maxRecDepth 100000
set_option maxHeartbeats 400000
set_option pp.maxSteps 300
namespace KA
open PySem PySem.Spec PyProof.Rows L2 Ea
abbrev sless : Stmt := topS 6
theorem scless : FnScope ["sentence", "places", "owners", "clauses", "place", "clause"] ["sentence", "places"] (defScope sless) :=
  ⟨rfl, rfl, rfl, by decide +kernel, rfl, by decide +kernel, by decide +kernel⟩
local macro_rules | `(tactic| walk_at "rd") => `(tactic| first
  | (with_reducible refine rd_seq ?_) | (with_reducible refine rd_asg ?_) | (with_reducible refine rd_if ?_) | (with_reducible refine rd_ret ?_) | (with_reducible refine rd_next ?_)
  | (with_reducible refine rd_drop ?_) | ((with_reducible refine rd_name (σ' := ?ss) ?hs ?_); (case hs => (dsimp only [List.set]; exact rfl)))
  | ((with_reducible refine rd_var (v := ?vv) ?hv ?_); (case hv => exact rfl)) | (with_reducible refine rd_c ?_) | (with_reducible refine rd_op ?_) | (with_reducible refine rd_un ?_)
  | (with_reducible refine rd_I0 ?_) | (with_reducible refine rd_U ?_) | (with_reducible refine rd_test ?_) | (with_reducible refine rd_B ?_) | (with_reducible refine rd_k ?_)
  | (with_reducible refine rd_not ?_) | (with_reducible refine rd_and ?_) | (with_reducible refine rd_or ?_) | (with_reducible refine rd_ifE ?_)
  | (with_reducible refine rd_par ?_) | ((with_reducible refine rd_par2 (σ' := ?ss) ?hs ?_); (case hs => (dsimp only [List.set]; exact rfl)))
  | (with_reducible refine rd_gsub ?_) | (with_reducible refine rd_andV ?_) | (with_reducible refine rd_orV ?_) | (with_reducible refine rd_notV ?_)
  | (with_reducible refine rd_lc ?_) | (with_reducible refine rd_iTup ?_) | (with_reducible refine rd_iList ?_) | (with_reducible refine rd_iRng1 ?_) | (with_reducible refine rd_iRng2 ?_) | (with_reducible refine rd_iEnumT ?_) | (with_reducible refine rd_iEnum ?_) | (with_reducible refine rd_iZipM ?_) | (with_reducible refine rd_iEnumS ?_) | (with_reducible refine rd_iKeys ?_) | (with_reducible refine rd_din ?_) | (with_reducible refine rd_dnotin ?_)
  | (with_reducible refine rd_yes ?_) | (with_reducible refine rd_true ?_) | (with_reducible refine rd_false ?_) | (with_reducible refine rd_m1 ?_) | (with_reducible refine rd_isS ?_)
  | ((with_reducible refine rd_eq ?hs ?_); (case hs => exact rfl)) | ((with_reducible refine rd_ne ?hs ?_); (case hs => exact rfl))
  | (with_reducible refine rd_listRg ?_) | (with_reducible refine rd_rg2 ?_) | (with_reducible refine rd_rgk ?_)
  | (with_reducible refine rd_dnew ?_) | (with_reducible refine rd_ddel ?_) | (with_reducible refine rd_kw ?_) | (with_reducible refine rd_callS ?_) | (with_reducible refine rd_dc ?_) | (with_reducible refine rd_for ?_) | (with_reducible refine rd_tru ?_) | (with_reducible refine rd_truI ?_)
  | (with_reducible refine rd_nil ?_) | (with_reducible refine rd_cons ?_) | (with_reducible refine rd_call ?_) | (with_reducible refine rd_cb ?_)
  | (with_reducible refine rd_tup ?_) | (with_reducible refine rd_lst ?_) | (with_reducible refine rd_dget ?_) | (with_reducible refine rd_dput ?_) | (with_reducible refine rd_dget2 ?_) | (with_reducible refine rd_sl ?_)
  | (with_reducible refine rd_nopart ?_) | (with_reducible refine rd_part ?_) | (with_reducible refine rd_parti ?_) | (with_reducible refine rd_bm ?_) | (with_reducible refine rd_bm0 ?_)
  | (with_reducible refine rd_int ?_) | (with_reducible refine rd_intb ?_) | (with_reducible refine rd_abs ?_) | (with_reducible refine rd_min2 ?_) | (with_reducible refine rd_max2 ?_))
local macro_rules | `(tactic| walk_at "rds") => `(tactic| repeat (walk_at "rd"))
local macro_rules | `(tactic| walk_at "rq") => `(tactic| first
  | (with_reducible refine rd_seq ?_) | (with_reducible refine rd_asg ?_) | (with_reducible refine rd_ret ?_) | (with_reducible refine rd_next ?_)
  | (with_reducible refine rd_drop ?_) | ((with_reducible refine rd_name (σ' := ?ss) ?hs ?_); (case hs => (dsimp only [List.set]; exact rfl)))
  | ((with_reducible refine rd_var (v := ?vv) ?hv ?_); (case hv => exact rfl)) | (with_reducible refine rd_c ?_) | (with_reducible refine rd_op ?_) | (with_reducible refine rd_un ?_)
  | (with_reducible refine rd_I0 ?_) | (with_reducible refine rd_U ?_) | (with_reducible refine rd_test ?_) | (with_reducible refine rd_B ?_) | (with_reducible refine rd_k ?_)
  | (with_reducible refine rd_not ?_) | (with_reducible refine rd_and ?_) | (with_reducible refine rd_or ?_) | (with_reducible refine rd_ifE ?_)
  | (with_reducible refine rd_par ?_) | ((with_reducible refine rd_par2 (σ' := ?ss) ?hs ?_); (case hs => (dsimp only [List.set]; exact rfl)))
  | (with_reducible refine rd_gsub ?_) | (with_reducible refine rd_andV ?_) | (with_reducible refine rd_orV ?_) | (with_reducible refine rd_notV ?_)
  | (with_reducible refine rd_lc ?_) | (with_reducible refine rd_iTup ?_) | (with_reducible refine rd_iList ?_) | (with_reducible refine rd_iRng1 ?_) | (with_reducible refine rd_iRng2 ?_) | (with_reducible refine rd_iEnumT ?_) | (with_reducible refine rd_iEnum ?_) | (with_reducible refine rd_iZipM ?_) | (with_reducible refine rd_iEnumS ?_) | (with_reducible refine rd_iKeys ?_) | (with_reducible refine rd_din ?_) | (with_reducible refine rd_dnotin ?_)
  | (with_reducible refine rd_yes ?_) | (with_reducible refine rd_true ?_) | (with_reducible refine rd_false ?_) | (with_reducible refine rd_m1 ?_) | (with_reducible refine rd_isS ?_)
  | ((with_reducible refine rd_eq ?hs ?_); (case hs => exact rfl)) | ((with_reducible refine rd_ne ?hs ?_); (case hs => exact rfl))
  | (with_reducible refine rd_listRg ?_) | (with_reducible refine rd_rg2 ?_) | (with_reducible refine rd_rgk ?_)
  | (with_reducible refine rd_dnew ?_) | (with_reducible refine rd_ddel ?_) | (with_reducible refine rd_kw ?_) | (with_reducible refine rd_callS ?_) | (with_reducible refine rd_dc ?_) | (with_reducible refine rd_for ?_) | (with_reducible refine rd_tru ?_) | (with_reducible refine rd_truI ?_)
  | (with_reducible refine rd_nil ?_) | (with_reducible refine rd_cons ?_) | (with_reducible refine rd_call ?_) | (with_reducible refine rd_cb ?_)
  | (with_reducible refine rd_tup ?_) | (with_reducible refine rd_lst ?_) | (with_reducible refine rd_dget ?_) | (with_reducible refine rd_dput ?_) | (with_reducible refine rd_dget2 ?_) | (with_reducible refine rd_sl ?_)
  | (with_reducible refine rd_nopart ?_) | (with_reducible refine rd_part ?_) | (with_reducible refine rd_parti ?_) | (with_reducible refine rd_bm ?_) | (with_reducible refine rd_bm0 ?_)
  | (with_reducible refine rd_int ?_) | (with_reducible refine rd_intb ?_) | (with_reducible refine rd_abs ?_) | (with_reducible refine rd_min2 ?_) | (with_reducible refine rd_max2 ?_))
local macro_rules | `(tactic| walk_at "rqs") => `(tactic| repeat (walk_at "rq"))
local macro_rules | `(tactic| walk_at "rv") => `(tactic| first
  | (with_reducible refine rd_seq ?_) | (with_reducible refine rd_asg ?_) | (with_reducible refine rd_ret ?_) | (with_reducible refine rd_next ?_)
  | (with_reducible refine rd_drop ?_) | ((with_reducible refine rd_name (σ' := ?ss) ?hs ?_); (case hs => (dsimp only [List.set]; exact rfl)))
  | ((with_reducible refine rd_var (v := ?vv) ?hv ?_); (case hv => exact rfl)) | (with_reducible refine rd_c ?_) | (with_reducible refine rd_op ?_) | (with_reducible refine rd_un ?_)
  | (with_reducible refine rd_I0 ?_) | (with_reducible refine rd_U ?_) | (with_reducible refine rd_test ?_) | (with_reducible refine rd_B ?_) | (with_reducible refine rd_k ?_)
  | (with_reducible refine rd_not ?_) | (with_reducible refine rd_and ?_) | (with_reducible refine rd_or ?_)
  | (with_reducible refine rd_par ?_) | ((with_reducible refine rd_par2 (σ' := ?ss) ?hs ?_); (case hs => (dsimp only [List.set]; exact rfl)))
  | (with_reducible refine rd_gsub ?_) | (with_reducible refine rd_andV ?_) | (with_reducible refine rd_orV ?_) | (with_reducible refine rd_notV ?_)
  | (with_reducible refine rd_lc ?_) | (with_reducible refine rd_iTup ?_) | (with_reducible refine rd_iList ?_) | (with_reducible refine rd_iRng1 ?_) | (with_reducible refine rd_iRng2 ?_) | (with_reducible refine rd_iEnumT ?_) | (with_reducible refine rd_iEnum ?_) | (with_reducible refine rd_iZipM ?_) | (with_reducible refine rd_iEnumS ?_) | (with_reducible refine rd_iKeys ?_) | (with_reducible refine rd_din ?_) | (with_reducible refine rd_dnotin ?_)
  | (with_reducible refine rd_yes ?_) | (with_reducible refine rd_true ?_) | (with_reducible refine rd_false ?_) | (with_reducible refine rd_m1 ?_) | (with_reducible refine rd_isS ?_)
  | ((with_reducible refine rd_eq ?hs ?_); (case hs => exact rfl)) | ((with_reducible refine rd_ne ?hs ?_); (case hs => exact rfl))
  | (with_reducible refine rd_listRg ?_) | (with_reducible refine rd_rg2 ?_) | (with_reducible refine rd_rgk ?_)
  | (with_reducible refine rd_dnew ?_) | (with_reducible refine rd_ddel ?_) | (with_reducible refine rd_kw ?_) | (with_reducible refine rd_callS ?_) | (with_reducible refine rd_dc ?_) | (with_reducible refine rd_for ?_) | (with_reducible refine rd_tru ?_) | (with_reducible refine rd_truI ?_)
  | (with_reducible refine rd_nil ?_) | (with_reducible refine rd_cons ?_) | (with_reducible refine rd_call ?_) | (with_reducible refine rd_cb ?_)
  | (with_reducible refine rd_tup ?_) | (with_reducible refine rd_lst ?_) | (with_reducible refine rd_dget ?_) | (with_reducible refine rd_dput ?_) | (with_reducible refine rd_dget2 ?_) | (with_reducible refine rd_sl ?_)
  | (with_reducible refine rd_nopart ?_) | (with_reducible refine rd_part ?_) | (with_reducible refine rd_parti ?_) | (with_reducible refine rd_bm ?_) | (with_reducible refine rd_bm0 ?_)
  | (with_reducible refine rd_int ?_) | (with_reducible refine rd_intb ?_) | (with_reducible refine rd_abs ?_) | (with_reducible refine rd_min2 ?_) | (with_reducible refine rd_max2 ?_))
local macro_rules | `(tactic| walk_at "rvs") => `(tactic| repeat (walk_at "rv"))

def sentD (z : Str) (rs : List (List Int)) : PyData := .tuple [.str z, .tuple (rs.map dR)]
section
variable {P : Program} {w : World} {K : PySem.W.Frag} {mg : Str → Option Value} {base : Heap}
theorem ok_wins10 {f fE : Addr} {fd fdE : FuncData} (F : Fun K "_law_wins" "_law_wins" s_law_wins f fd) (T : Bl mg)
    (G_law_ends : FnOk P w K mg base CX0 14 fE fdE ["owners", "rows", "play"] (spEndsT K 13)) (C_law_ends : Callee K mg "_law_ends" fE fdE ["owners", "rows", "play"]) :
    FnOk P w K mg base CX0 15 f fd ["own"] (spWinsB K) := by
  refine F.ok sc_law_wins (fun vs H Q E h => ?_) (fun cdv A outer s H vs Q E hr h => ?_)
  · obtain ⟨a, z, n, rs, rfl, _⟩ := h
    rfl
  · obtain ⟨a, z, n, rs, rfl, ⟨c, xs, s1, s2, dd, hz, hn, hrow, hl⟩, hn12, q⟩ := h
    refine ⟨_, (pss_one (ps_ret (pe_cmpR op_eq (pe_ix (ik_tup (K := K) rfl) (pe_call G_law_ends (hr.mono (by decide)) (by rfl) C_law_ends.m C_law_ends.k C_law_ends.b .nil pass0 (pa_cons (pe_ix (ik_tup (K := K) rfl) (pv 0) pe_int (fun _ _ => rfl)) (pa_cons (pe_ix (ik_tup (K := K) rfl) (pv 0) pe_int (fun _ _ => rfl)) (pa_cons (pe_tup pa_nil) pa_nil)))) pe_int (fun _ _ => rfl)) pe_str (nomark _)))), ?_⟩
    refine rd_start (σ' := [some (.ref a)]) rfl ?_
    walk_at "rqs"
    refine rd_ixT s1 rfl ?_
    walk_at "rqs"
    refine rd_ixT s1 rfl ?_
    walk_at "rqs"
    refine ⟨Nat.zero_le _, fun t4 h4 => ?_⟩
    have e1 := Evl.Ex.new (o := .tup []) h4
    walk_at "rqs"
    refine ⟨z, c, t4, n, xs, rs, [], rfl, hz, hn12, Evl.ex_t e1 s2, dpAll_ex e1 _ _ dd, hrow, by omega, SqT.of upd_same, fun i x e => by simp at e, Nat.zero_le _, by show n - 0 < 13; omega, fun v H2 e2 hv => ?_⟩
    obtain ⟨qa, cnt, rfl, hc, sq⟩ := hv
    walk_at "rqs"
    refine rd_ixT sq rfl ?_
    walk_at "rqs"
    have hww : winR z (n - ([] : List Int).length) ((([] : List Int).length : Int) + 1) (askedF [] rs) = winF n z rs [] := rfl
    have hd : decide (V.str (whoT (winF n z rs [])) = V.str (Str.ofString "some")) = winF n z rs [] := by cases winF n z rs [] <;> decide
    rw [hww, hd]
    exact q _ (e1.trans e2)
def spLess (K : PySem.W.Frag) : Sp := fun vs H Q _ => ∃ (a b : Addr) (z : Str) (n : Nat) (rs : List (List Int)) (row : List Int), vs = [.ref a, .ref b] ∧ Sen K H n a z (rs ++ [row]) ∧ SqT K H b [.int (rs.length : Int)] ∧
  ∀ (q : Addr) (H' : Hp), Evl.Ex H H' → Dp K H' (.ref q) (sentD z rs) → Q (.ref q) H'
theorem ok_less {f : Addr} {fd : FuncData} (F : Fun K "less" "less" sless f fd) (T : Bl mg) : FnOk P w K mg base CX0 1 f fd ["sentence", "places"] (spLess K) := by
  refine F.ok scless (fun vs H Q E h => ?_) (fun cdv A outer s H vs Q E hr h => ?_)
  · obtain ⟨a, b, z, n, rs, row, rfl, _⟩ := h
    rfl
  · obtain ⟨a, b, z, n, rs, row, rfl, ⟨c, xs, s1, s2, dd, hz, hn, hrow, hl⟩, hb, q⟩ := h
    refine ⟨_, (pss_cons (ps_asg (pv 0) (pgk_tup (K := K) rfl rfl (pgs_cons (pg_name (i := 2) scless.nd rfl (Or.inl rfl)) (pgs_cons (pg_name (i := 3) scless.nd rfl (Or.inl rfl)) pgs_nil))))
 (pss_one (ps_ret (pe_tup (pa_cons (pv 2) (pa_cons (pe_callTy (c_tuple (K := K) rfl) (by rfl) T.tuple (by decide +kernel) (pa_cons (pe_lc (own := [("place", 4), ("clause", 5)]) (g := gTup K 2 (gCons (gName 4) (gCons (gName 5) gNil))) rfl scless.nd (pi_enumT (K := K) rfl (by rfl) T.enumerate (pa_cons (pv 3) pa_nil)) (blkOk_by (own := [("place", 4), ("clause", 5)]) (N := ["sentence", "places", "owners", "clauses", "place", "clause"]) (sc := defScope sless) (by decide +kernel)) (fun _ _ _ _ _ => (pgk_tup (K := K) rfl rfl (pgs_cons (pg_name (i := 4) scless.nd rfl (Or.inl rfl)) (pgs_cons (pg_name (i := 5) scless.nd rfl (Or.inl rfl)) pgs_nil)))) (fun _ _ _ _ _ => (pts_one (pt_cmpR (ok_notIn (K := K) rfl) (pv 4) (pv 1) (by rfl)))) (fun _ _ _ _ _ => (pv 5))) pa_nil)) pa_nil)))))), ?_⟩
    refine rd_start (σ' := [some (.ref a), some (.ref b), none, none, none, none]) rfl ?_
    walk_at "rqs"
    refine rd_gtup2 (x := .str z) (y := .ref c) s1 rfl (σ' := [some (.ref a), some (.ref b), some (.str z), some (.ref c), none, none]) rfl ?_
    walk_at "rqs"
    have hl2 : rs.length + 1 ≤ 300 := by
      have := hl
      rw [List.length_append] at this
      exact this
    have lx : xs.length = rs.length + 1 := by
      have := dpAll_len dd
      rw [List.length_map, List.length_append] at this
      exact this
    refine ⟨c, xs, rfl, s2, ?_⟩
    refine lc_enumT (xs := xs) rfl s2 (by omega) (σx := fun x y => [some (.ref a), some (.ref b), some (.str z), some (.ref c), some x, some y]) (fun _ _ => rfl) (fun _ _ => rfl)
      (fun i => !decide (i = rs.length)) (fun i => xs.getD i .non) (fun i hi H' N S e kN kS => ?_) fun D H2 e2 eD hD => ?_
    · walk_at "rqs"
      refine rd_notInT (ns := [(rs.length : Int)]) (Evl.ex_t e hb) ?_
      have e1 : (!decide (((i : Nat) : Int) ∈ [(rs.length : Int)])) = !decide (i = rs.length) := by
        congr 1
        rw [decide_eq_decide, List.mem_singleton]
        omega
      rw [e1]
      walk_at "rqs"
      cases cc : (!decide (i = rs.length)) with
      | true =>
        refine (if_pos rfl).mpr ?_
        walk_at "rqs"
        exact kN cc _ (Evl.Ex.refl _)
      | false =>
        refine (if_neg Bool.false_ne_true).mpr ?_
        exact kS cc _ (Evl.Ex.refl _)
    · have hcut : ((List.range xs.length).filter fun i => !decide (i = rs.length)).map (fun i => xs.getD i .non) = xs.take rs.length := by
        rw [lx, List.range_succ, List.filter_append, List.map_append]
        have h1 : (List.range rs.length).filter (fun i => !decide (i = rs.length)) = List.range rs.length := List.filter_eq_self.mpr fun i hi => by
          rw [decide_eq_false (by have := List.mem_range.mp hi; omega)] <;> rfl
        have h2 : [rs.length].filter (fun i => !decide (i = rs.length)) = [] := by simp
        rw [h1, h2, List.map_nil, List.append_nil]
        refine List.ext_getElem (by rw [List.length_map, List.length_range, List.length_take]; omega) fun i a1 a2 => ?_
        rw [List.getElem_map, List.getElem_range, List.getElem_take, List.getD_eq_getElem?_getD, List.getElem?_eq_getElem] <;> rfl
      rw [hcut] at hD
      have dtk : DpAll K H (xs.take rs.length) (rs.map dR) := by
        have := dpAll_take (k := rs.length) dd
        rw [← List.map_take, List.take_left'] at this
        · exact this
        · rfl
      walk_at "rqs"
      refine rd_tupL (SqL.of hD) fun o ho => ?_
      have e3 := e2.trans (Evl.Ex.new (o := .tup (xs.take rs.length)) ho)
      walk_at "rqs"
      refine ⟨(by show 2 ≤ sizeLine; decide), fun w1 hw1 => ?_⟩
      have e4 := e3.trans (Evl.Ex.new (o := .tup [V.str z, .ref o]) hw1)
      exact q w1 _ e4 (.tup (SqT.of upd_same) (.cons (.str z) (.cons (.tup (Evl.ex_t (Evl.Ex.new hw1) (SqT.of upd_same)) (dpAll_ex e4 _ _ dtk)) .nil)))
end
end KA
set_option Elab.async false
set_option linter.all false
set_option maxRecDepth 100000
set_option maxHeartbeats 400000
set_option pp.maxSteps 300
namespace KA
open PySem PySem.Spec PyProof.Rows L2 Ea
abbrev s_law_is_grown : Stmt := topS 33
theorem sc_law_is_grown : FnScope ["deck", "own", "owners", "rows", "row", "more", "letters", "wide", "both", "x", "y"] ["deck", "own"] (defScope s_law_is_grown) :=
  ⟨rfl, rfl, rfl, by decide +kernel, rfl, by decide +kernel, by decide +kernel⟩
local macro_rules | `(tactic| walk_at "rd") => `(tactic| first
  | (with_reducible refine rd_seq ?_) | (with_reducible refine rd_asg ?_) | (with_reducible refine rd_if ?_) | (with_reducible refine rd_ret ?_) | (with_reducible refine rd_next ?_)
  | (with_reducible refine rd_drop ?_) | ((with_reducible refine rd_name (σ' := ?ss) ?hs ?_); (case hs => (dsimp only [List.set]; exact rfl)))
  | ((with_reducible refine rd_var (v := ?vv) ?hv ?_); (case hv => exact rfl)) | (with_reducible refine rd_c ?_) | (with_reducible refine rd_op ?_) | (with_reducible refine rd_un ?_)
  | (with_reducible refine rd_I0 ?_) | (with_reducible refine rd_U ?_) | (with_reducible refine rd_test ?_) | (with_reducible refine rd_B ?_) | (with_reducible refine rd_k ?_)
  | (with_reducible refine rd_not ?_) | (with_reducible refine rd_and ?_) | (with_reducible refine rd_or ?_) | (with_reducible refine rd_ifE ?_)
  | (with_reducible refine rd_par ?_) | ((with_reducible refine rd_par2 (σ' := ?ss) ?hs ?_); (case hs => (dsimp only [List.set]; exact rfl)))
  | (with_reducible refine rd_gsub ?_) | (with_reducible refine rd_andV ?_) | (with_reducible refine rd_orV ?_) | (with_reducible refine rd_notV ?_)
  | (with_reducible refine rd_lc ?_) | (with_reducible refine rd_iTup ?_) | (with_reducible refine rd_iList ?_) | (with_reducible refine rd_iRng1 ?_) | (with_reducible refine rd_iRng2 ?_) | (with_reducible refine rd_iEnumT ?_) | (with_reducible refine rd_iEnum ?_) | (with_reducible refine rd_iZipM ?_) | (with_reducible refine rd_iEnumS ?_) | (with_reducible refine rd_iKeys ?_) | (with_reducible refine rd_din ?_) | (with_reducible refine rd_dnotin ?_)
  | (with_reducible refine rd_yes ?_) | (with_reducible refine rd_true ?_) | (with_reducible refine rd_false ?_) | (with_reducible refine rd_m1 ?_) | (with_reducible refine rd_isS ?_)
  | ((with_reducible refine rd_eq ?hs ?_); (case hs => exact rfl)) | ((with_reducible refine rd_ne ?hs ?_); (case hs => exact rfl))
  | (with_reducible refine rd_listRg ?_) | (with_reducible refine rd_rg2 ?_) | (with_reducible refine rd_rgk ?_)
  | (with_reducible refine rd_dnew ?_) | (with_reducible refine rd_ddel ?_) | (with_reducible refine rd_kw ?_) | (with_reducible refine rd_callS ?_) | (with_reducible refine rd_dc ?_) | (with_reducible refine rd_for ?_) | (with_reducible refine rd_tru ?_) | (with_reducible refine rd_truI ?_)
  | (with_reducible refine rd_nil ?_) | (with_reducible refine rd_cons ?_) | (with_reducible refine rd_call ?_) | (with_reducible refine rd_cb ?_)
  | (with_reducible refine rd_tup ?_) | (with_reducible refine rd_lst ?_) | (with_reducible refine rd_dget ?_) | (with_reducible refine rd_dput ?_) | (with_reducible refine rd_dget2 ?_) | (with_reducible refine rd_sl ?_)
  | (with_reducible refine rd_nopart ?_) | (with_reducible refine rd_part ?_) | (with_reducible refine rd_parti ?_) | (with_reducible refine rd_bm ?_) | (with_reducible refine rd_bm0 ?_)
  | (with_reducible refine rd_int ?_) | (with_reducible refine rd_intb ?_) | (with_reducible refine rd_abs ?_) | (with_reducible refine rd_min2 ?_) | (with_reducible refine rd_max2 ?_))
local macro_rules | `(tactic| walk_at "rds") => `(tactic| repeat (walk_at "rd"))
local macro_rules | `(tactic| walk_at "rq") => `(tactic| first
  | (with_reducible refine rd_seq ?_) | (with_reducible refine rd_asg ?_) | (with_reducible refine rd_ret ?_) | (with_reducible refine rd_next ?_)
  | (with_reducible refine rd_drop ?_) | ((with_reducible refine rd_name (σ' := ?ss) ?hs ?_); (case hs => (dsimp only [List.set]; exact rfl)))
  | ((with_reducible refine rd_var (v := ?vv) ?hv ?_); (case hv => exact rfl)) | (with_reducible refine rd_c ?_) | (with_reducible refine rd_op ?_) | (with_reducible refine rd_un ?_)
  | (with_reducible refine rd_I0 ?_) | (with_reducible refine rd_U ?_) | (with_reducible refine rd_test ?_) | (with_reducible refine rd_B ?_) | (with_reducible refine rd_k ?_)
  | (with_reducible refine rd_not ?_) | (with_reducible refine rd_and ?_) | (with_reducible refine rd_or ?_) | (with_reducible refine rd_ifE ?_)
  | (with_reducible refine rd_par ?_) | ((with_reducible refine rd_par2 (σ' := ?ss) ?hs ?_); (case hs => (dsimp only [List.set]; exact rfl)))
  | (with_reducible refine rd_gsub ?_) | (with_reducible refine rd_andV ?_) | (with_reducible refine rd_orV ?_) | (with_reducible refine rd_notV ?_)
  | (with_reducible refine rd_lc ?_) | (with_reducible refine rd_iTup ?_) | (with_reducible refine rd_iList ?_) | (with_reducible refine rd_iRng1 ?_) | (with_reducible refine rd_iRng2 ?_) | (with_reducible refine rd_iEnumT ?_) | (with_reducible refine rd_iEnum ?_) | (with_reducible refine rd_iZipM ?_) | (with_reducible refine rd_iEnumS ?_) | (with_reducible refine rd_iKeys ?_) | (with_reducible refine rd_din ?_) | (with_reducible refine rd_dnotin ?_)
  | (with_reducible refine rd_yes ?_) | (with_reducible refine rd_true ?_) | (with_reducible refine rd_false ?_) | (with_reducible refine rd_m1 ?_) | (with_reducible refine rd_isS ?_)
  | ((with_reducible refine rd_eq ?hs ?_); (case hs => exact rfl)) | ((with_reducible refine rd_ne ?hs ?_); (case hs => exact rfl))
  | (with_reducible refine rd_listRg ?_) | (with_reducible refine rd_rg2 ?_) | (with_reducible refine rd_rgk ?_)
  | (with_reducible refine rd_dnew ?_) | (with_reducible refine rd_ddel ?_) | (with_reducible refine rd_kw ?_) | (with_reducible refine rd_callS ?_) | (with_reducible refine rd_dc ?_) | (with_reducible refine rd_for ?_) | (with_reducible refine rd_tru ?_) | (with_reducible refine rd_truI ?_)
  | (with_reducible refine rd_nil ?_) | (with_reducible refine rd_cons ?_) | (with_reducible refine rd_call ?_) | (with_reducible refine rd_cb ?_)
  | (with_reducible refine rd_tup ?_) | (with_reducible refine rd_lst ?_) | (with_reducible refine rd_dget ?_) | (with_reducible refine rd_dput ?_) | (with_reducible refine rd_dget2 ?_) | (with_reducible refine rd_sl ?_)
  | (with_reducible refine rd_nopart ?_) | (with_reducible refine rd_part ?_) | (with_reducible refine rd_parti ?_) | (with_reducible refine rd_bm ?_) | (with_reducible refine rd_bm0 ?_)
  | (with_reducible refine rd_int ?_) | (with_reducible refine rd_intb ?_) | (with_reducible refine rd_abs ?_) | (with_reducible refine rd_min2 ?_) | (with_reducible refine rd_max2 ?_))
local macro_rules | `(tactic| walk_at "rqs") => `(tactic| repeat (walk_at "rq"))
local macro_rules | `(tactic| walk_at "rv") => `(tactic| first
  | (with_reducible refine rd_seq ?_) | (with_reducible refine rd_asg ?_) | (with_reducible refine rd_ret ?_) | (with_reducible refine rd_next ?_)
  | (with_reducible refine rd_drop ?_) | ((with_reducible refine rd_name (σ' := ?ss) ?hs ?_); (case hs => (dsimp only [List.set]; exact rfl)))
  | ((with_reducible refine rd_var (v := ?vv) ?hv ?_); (case hv => exact rfl)) | (with_reducible refine rd_c ?_) | (with_reducible refine rd_op ?_) | (with_reducible refine rd_un ?_)
  | (with_reducible refine rd_I0 ?_) | (with_reducible refine rd_U ?_) | (with_reducible refine rd_test ?_) | (with_reducible refine rd_B ?_) | (with_reducible refine rd_k ?_)
  | (with_reducible refine rd_not ?_) | (with_reducible refine rd_and ?_) | (with_reducible refine rd_or ?_)
  | (with_reducible refine rd_par ?_) | ((with_reducible refine rd_par2 (σ' := ?ss) ?hs ?_); (case hs => (dsimp only [List.set]; exact rfl)))
  | (with_reducible refine rd_gsub ?_) | (with_reducible refine rd_andV ?_) | (with_reducible refine rd_orV ?_) | (with_reducible refine rd_notV ?_)
  | (with_reducible refine rd_lc ?_) | (with_reducible refine rd_iTup ?_) | (with_reducible refine rd_iList ?_) | (with_reducible refine rd_iRng1 ?_) | (with_reducible refine rd_iRng2 ?_) | (with_reducible refine rd_iEnumT ?_) | (with_reducible refine rd_iEnum ?_) | (with_reducible refine rd_iZipM ?_) | (with_reducible refine rd_iEnumS ?_) | (with_reducible refine rd_iKeys ?_) | (with_reducible refine rd_din ?_) | (with_reducible refine rd_dnotin ?_)
  | (with_reducible refine rd_yes ?_) | (with_reducible refine rd_true ?_) | (with_reducible refine rd_false ?_) | (with_reducible refine rd_m1 ?_) | (with_reducible refine rd_isS ?_)
  | ((with_reducible refine rd_eq ?hs ?_); (case hs => exact rfl)) | ((with_reducible refine rd_ne ?hs ?_); (case hs => exact rfl))
  | (with_reducible refine rd_listRg ?_) | (with_reducible refine rd_rg2 ?_) | (with_reducible refine rd_rgk ?_)
  | (with_reducible refine rd_dnew ?_) | (with_reducible refine rd_ddel ?_) | (with_reducible refine rd_kw ?_) | (with_reducible refine rd_callS ?_) | (with_reducible refine rd_dc ?_) | (with_reducible refine rd_for ?_) | (with_reducible refine rd_tru ?_) | (with_reducible refine rd_truI ?_)
  | (with_reducible refine rd_nil ?_) | (with_reducible refine rd_cons ?_) | (with_reducible refine rd_call ?_) | (with_reducible refine rd_cb ?_)
  | (with_reducible refine rd_tup ?_) | (with_reducible refine rd_lst ?_) | (with_reducible refine rd_dget ?_) | (with_reducible refine rd_dput ?_) | (with_reducible refine rd_dget2 ?_) | (with_reducible refine rd_sl ?_)
  | (with_reducible refine rd_nopart ?_) | (with_reducible refine rd_part ?_) | (with_reducible refine rd_parti ?_) | (with_reducible refine rd_bm ?_) | (with_reducible refine rd_bm0 ?_)
  | (with_reducible refine rd_int ?_) | (with_reducible refine rd_intb ?_) | (with_reducible refine rd_abs ?_) | (with_reducible refine rd_min2 ?_) | (with_reducible refine rd_max2 ?_))
local macro_rules | `(tactic| walk_at "rvs") => `(tactic| repeat (walk_at "rv"))

theorem nice_own {n : Nat} {z : Str} (h : OwnS n z) (hn : n ≤ 60) : Nice 60 0 (.str z) := by
  refine Nice.str (Nat.le_trans (Nat.le_of_eq h.1) hn) (fun c hc => ?_) ?_
  · rcases h.2 c hc with rfl | rfl <;> decide
  · show z.cps.all (fun c => decide (c < 0x110000)) = true
    rw [Array.all_eq_true_iff_forall_mem]
    intro c hc
    have hc' : c ∈ z.cps.toList := Array.mem_toList_iff.mpr hc
    rcases h.2 c hc' with rfl | rfl <;> decide
theorem fair_sent {n : Nat} {z : Str} {rs : List (List Int)} (hz : OwnS n z) (hn : n ≤ 60) (hr : ∀ r ∈ rs, Row n r) (hl : rs.length ≤ 300) : Fair 20000 3 (sentD z rs) :=
  ((Nice.tup (((nice_own hz hn).mono (Nat.le_refl _) (Nat.zero_le 2)).cons2 (Nice.tup (nice_rows hn hr)))).mono (by omega) (by decide)).fair
/-- the datum of an int or a bool -/
def datI : V → PyData
  | .int i => .int i
  | .bl b => .bool b
  | _ => .none
theorem row_wide {n : Nat} {r ts : List Int} {u : Int} (hr : Row n r) (u1 : 1 ≤ u) (un : u ≤ (n : Int)) (h1 : u ∉ r) (h2 : -u ∉ r) (pm : ts.Perm (r ++ [u])) (so : ts.Pairwise fun x y => x.natAbs ≤ y.natAbs) : Row n ts := by
  have nd : (r.map Int.natAbs).Nodup := by
    show List.Pairwise (· ≠ ·) _
    rw [List.pairwise_map]
    exact hr.1.imp fun h => Nat.ne_of_lt h
  have nd2 : ((r ++ [u]).map Int.natAbs).Nodup := by
    rw [List.map_append, List.nodup_append]
    refine ⟨nd, by simp, fun a ha b hb => ?_⟩
    obtain ⟨x, hx, rfl⟩ := List.mem_map.mp ha
    have hb : b = u.natAbs := by simpa using hb
    rintro rfl
    by_cases c : x = u
    · exact h1 (c ▸ hx)
    · have : x = -u := by omega
      exact h2 (this ▸ hx)
  have nd3 : (ts.map Int.natAbs).Nodup := ((pm.map Int.natAbs).nodup_iff).mpr nd2
  have nd4 : ts.Pairwise fun x y => x.natAbs ≠ y.natAbs := List.pairwise_map.mp nd3
  refine ⟨(so.and nd4).imp fun h => Nat.lt_of_le_of_ne h.1 h.2, fun x hx => ?_⟩
  rcases List.mem_append.mp (pm.mem_iff.mp hx) with h | h
  · exact hr.2 x h
  · rw [List.mem_singleton.mp h]
    omega
section
variable {P : Program} {w : World} {K : PySem.W.Frag} {mg : Str → Option Value} {base : Heap}
theorem sen_dp {H : Hp} {n : Nat} {a : Addr} {z : Str} {rs : List (List Int)} (h : Sen K H n a z rs) : Dp K H (.ref a) (sentD z rs) := by
  obtain ⟨c, xs, h1, h2, h3, _⟩ := h
  exact .tup h1 (.cons (.str z) (.cons (.tup h2 h3) .nil))
def spGrown (K : PySem.W.Frag) : Sp := fun vs H Q _ => ∃ (d l a : Addr) (z : Str) (n : Nat) (rs : List (List Int)), vs = [.ref d, .ref a] ∧ DeckL d l H ∧ Sen K H n a z rs ∧ 1 ≤ n ∧ n ≤ 11 ∧ rs.length ≤ 200 ∧
  ∀ H', Gl d l H H' → Q (.bl true) H'
theorem ok_grown {f fP fC fS fT fE fI fW : Addr} {fd fdP fdC fdS fdT fdE fdI fdW : FuncData} (F : Fun K "_law_is_grown" "_law_is_grown" s_law_is_grown f fd) (T : Bl mg)
    (G_law_pick : FnOk P w K mg base CX0 2 fP fdP ["deck", "items"] spPick) (C_law_pick : Callee K mg "_law_pick" fP fdP ["deck", "items"])
    (G_law_clause : FnOk P w K mg base CX0 3 fC fdC ["deck", "n", "most"] (spClause K)) (C_law_clause : Callee K mg "_law_clause" fC fdC ["deck", "n", "most"])
    (Gless : FnOk P w K mg base CX0 1 fS fdS ["sentence", "places"] (spLess K)) (Cless : Callee K mg "less" fS fdS ["sentence", "places"])
    (Gtrees : FnOk P w K mg base CX0 15 fT fdT ["sentence"] (spTrees0 K)) (Ctrees : Callee K mg "trees" fT fdT ["sentence"])
    (G_law_ends : FnOk P w K mg base CX0 14 fE fdE ["owners", "rows", "play"] (spEndsT K 13)) (C_law_ends : Callee K mg "_law_ends" fE fdE ["owners", "rows", "play"])
    (G_law_is_told : FnOk P w K mg base CX0 17 fI fdI ["deck", "own"] (spTold K)) (C_law_is_told : Callee K mg "_law_is_told" fI fdI ["deck", "own"])
    (G_law_wins : FnOk P w K mg base CX0 15 fW fdW ["own"] (spWinsB K)) (C_law_wins : Callee K mg "_law_wins" fW fdW ["own"]) :
    FnG P w K mg base 18 f fd ["deck", "own"] (spGrown K) := by
  refine okG F sc_law_is_grown (fun vs H Q E h => ?_) (fun cdv A outer s H vs Q E hr hg h => ?_)
  · obtain ⟨d, l, a, z, n, rs, rfl, _⟩ := h
    rfl
  · obtain ⟨d, l, a, z, n, rs, rfl, hD, sen, hn1, hn11, hl2, q⟩ := h
    obtain ⟨c, xs, s1, s2, dd, hz, hn, hrow, hl⟩ := id sen
    refine ⟨_, (pss_cons (ps_asg (pv 1) (pgk_tup (K := K) rfl rfl (pgs_cons (pg_name (i := 2) sc_law_is_grown.nd rfl (Or.inl rfl)) (pgs_cons (pg_name (i := 3) sc_law_is_grown.nd rfl (Or.inl rfl)) pgs_nil))))
 (pss_cons (ps_set (i := 4) sc_law_is_grown.nd rfl (Or.inr rfl) (pe_call G_law_clause (hr.mono (by decide)) (by rfl) C_law_clause.m C_law_clause.k C_law_clause.b .nil pass0 (pa_cons (pv 0) (pa_cons (pe_callB c_lenS (by rfl) T.len (by decide +kernel) (pa_cons (pv 2) pa_nil)) (pa_cons pe_int pa_nil)))))
 (pss_cons (ps_if (pt_cmpR (op_notInDT (K := K) rfl (hu65 hr)) (pv 4) (pv 3) (by rfl)) (pss_cons (ps_set (i := 5) sc_law_is_grown.nd rfl (Or.inl rfl) (pe_tup (pa_cons (pv 2) (pa_cons (pe_op (ok_catT (K := K) rfl) (pv 3) (pe_tup (pa_cons (pv 4) pa_nil))) pa_nil))))
 (pss_cons (ps_if (PW.pt (pw_or (pt_not (pt_val (pe_call G_law_is_told (hr.mono (by decide)) (by rfl) C_law_is_told.m C_law_is_told.k C_law_is_told.b .nil pass0 (pa_cons (pv 0) (pa_cons (pv 5) pa_nil))))) (pw_or1 (PW.pt (pw_and (pt_val (pe_call G_law_wins (hr.mono (by decide)) (by rfl) C_law_wins.m C_law_wins.k C_law_wins.b .nil pass0 (pa_cons (pv 5) pa_nil))) (pw_and1 (pt_not (pt_val (pe_call G_law_wins (hr.mono (by decide)) (by rfl) C_law_wins.m C_law_wins.k C_law_wins.b .nil pass0 (pa_cons (pv 1) pa_nil)))))))))) (pss_one (ps_ret pe_bl)) pss_nil)
 (pss_one (ps_if (pt_cmpR op_ne (pe_callB (c_reprV (K := K) rfl hg hr.units) (by rfl) T.repr (by decide +kernel) (pa_cons (pe_call Gless (hr.mono (by decide)) (by rfl) Cless.m Cless.k Cless.b .nil pass0 (pa_cons (pv 5) (pa_cons (pe_tup (pa_cons (pe_callB (c_len (K := K) rfl) (by rfl) T.len (by decide +kernel) (pa_cons (pv 3) pa_nil)) pa_nil)) pa_nil))) pa_nil)) (pe_callB (c_reprV (K := K) rfl hg hr.units) (by rfl) T.repr (by decide +kernel) (pa_cons (pv 1) pa_nil)) (nomark _)) (pss_one (ps_ret pe_bl)) pss_nil)))) pss_nil)
 (pss_cons (ps_for PassesOwn.never rfl (ik_tupI (K := K) rfl (pe_slice (sk_tup (K := K) rfl) (pv 3) po_none (po_some pe_int))) (pg_name (i := 4) sc_law_is_grown.nd rfl (Or.inr rfl)) (pss_cons (ps_setLc (i := 6) (own := [("x", 9)]) (g := gName 9) rfl sc_law_is_grown.nd rfl rfl (sw_true rfl rfl rfl (by decide +kernel)) (pi_range2 (by rfl) T.range (pa_cons pe_int (pa_cons (pe_op op_add (pe_callB c_lenS (by rfl) T.len (by decide +kernel) (pa_cons (pv 2) pa_nil)) pe_int) pa_nil))) (blkOk_by (own := [("x", 9)]) (N := ["deck", "own", "owners", "rows", "row", "more", "letters", "wide", "both", "x", "y"]) (sc := defScope s_law_is_grown) (by decide +kernel)) (fun _ _ _ _ _ => (pg_name (i := 9) sc_law_is_grown.nd rfl (Or.inl rfl))) (fun _ _ _ _ _ => (pts_one (PW.pt (pw_and (pt_cmpR (ok_notIn (K := K) rfl) (pv 9) (pv 4) (by rfl)) (pw_and1 (pt_cmpR (ok_notIn (K := K) rfl) (pe_un un_neg (pv 9)) (pv 4) (by rfl))))))) (fun _ _ _ _ _ => (pv 9)))
 (pss_one (ps_if (pt_cmpR (op_ne0 (K := K) rfl hr.units) (pv 6) (pe_lst pa_nil) (nomark _)) (pss_cons (ps_set (i := 7) sc_law_is_grown.nd rfl (Or.inl rfl) (pe_callTy (c_tuple (K := K) rfl) (by rfl) T.tuple (by decide +kernel) (pa_cons (pe_lc (own := [("y", 10), ("x", 9)]) (g := gTup K 2 (gCons (gName 10) (gCons (gName 9) gNil))) rfl sc_law_is_grown.nd (ik_listI (K := K) rfl (pe_callB (cr_sortDt (K := K) rfl hr.units) (by rfl) T.sorted (by decide +kernel) (pa_cons (pe_lc (own := [("x", 9)]) (g := gName 9) rfl sc_law_is_grown.nd (ik_tupI (K := K) rfl (pe_op (ok_catT (K := K) rfl) (pv 4) (pe_tup (pa_cons (pe_call G_law_pick (hr.mono (by decide)) (by rfl) C_law_pick.m C_law_pick.k C_law_pick.b .nil pass0 (pa_cons (pv 0) (pa_cons (pv 6) pa_nil))) pa_nil)))) (blkOk_by (own := [("x", 9)]) (N := ["deck", "own", "owners", "rows", "row", "more", "letters", "wide", "both", "x", "y"]) (sc := defScope s_law_is_grown) (by decide +kernel)) (fun _ _ _ _ _ => (pg_name (i := 9) sc_law_is_grown.nd rfl (Or.inl rfl))) (fun _ _ _ _ _ => pts_nil) (fun _ _ _ _ _ => (pe_tup (pa_cons (pe_callB c_abs (by rfl) T.abs (by decide +kernel) (pa_cons (pv 9) pa_nil)) (pa_cons (pv 9) pa_nil))))) pa_nil))) (blkOk_by (own := [("y", 10), ("x", 9)]) (N := ["deck", "own", "owners", "rows", "row", "more", "letters", "wide", "both", "x", "y"]) (sc := defScope s_law_is_grown) (by decide +kernel)) (fun _ _ _ _ _ => (pgk_tup (K := K) rfl rfl (pgs_cons (pg_name (i := 10) sc_law_is_grown.nd rfl (Or.inl rfl)) (pgs_cons (pg_name (i := 9) sc_law_is_grown.nd rfl (Or.inl rfl)) pgs_nil)))) (fun _ _ _ _ _ => pts_nil) (fun _ _ _ _ _ => (pv 9))) pa_nil)))
 (pss_one (ps_if (pt_cmpR (op_notInDT (K := K) rfl (hu65 hr)) (pv 7) (pv 3) (by rfl)) (pss_cons (ps_set (i := 8) sc_law_is_grown.nd rfl (Or.inl rfl) (pe_tup (pa_cons (pv 2) (pa_cons (pe_op (ok_catT (K := K) rfl) (pe_tup (pa_cons (pv 7) pa_nil)) (pv 3)) pa_nil))))
 (pss_one (ps_if (PW.pt (pw_or (pt_not (pt_val (pe_call G_law_is_told (hr.mono (by decide)) (by rfl) C_law_is_told.m C_law_is_told.k C_law_is_told.b .nil pass0 (pa_cons (pv 0) (pa_cons (pv 8) pa_nil))))) (pw_or1 (pt_cmpR op_ne (pe_call Gtrees (hr.mono (by decide)) (by rfl) Ctrees.m Ctrees.k Ctrees.b .nil pass0 (pa_cons (pv 8) pa_nil)) (pe_ix (ik_tup (K := K) rfl) (pe_call G_law_ends (hr.mono (by decide)) (by rfl) C_law_ends.m C_law_ends.k C_law_ends.b .nil pass0 (pa_cons (pv 2) (pa_cons (pv 3) (pa_cons (pe_tup pa_nil) pa_nil)))) pe_int (fun _ _ => rfl)) (nomark _))))) (pss_one (ps_ret pe_bl)) pss_nil))) pss_nil))) pss_nil))))
 (pss_one (ps_ret pe_bl)))))), ?_⟩
    refine rd_start (σ' := [some (.ref d), some (.ref a), none, none, none, none, none, none, none, none, none]) rfl ?_
    walk_at "rvs"
    refine rd_gtup2 (x := .str z) (y := .ref c) s1 rfl (σ' := [some (.ref d), some (.ref a), some (.str z), some (.ref c), none, none, none, none, none, none, none]) rfl ?_
    walk_at "rvs"
    refine rd_lenS (by rw [hz.1, sizeLine_eq]; omega) ?_
    rw [hz.1]
    walk_at "rvs"
    refine ⟨d, l, (n : Int), 4, rfl, hD, by omega, by omega, by decide, by decide, fun b row H2 g2 hrw sb => ?_⟩
    rw [Int.toNat_natCast] at hrw
    have hD2 := g2.dk
    have sen2 := sen.gl g2 hD
    have s1 := g2.tup hD s1
    have s2 := g2.tup hD s2
    have dd := Gl.rows g2 hD dd
    walk_at "rvs"
    refine rd_ifI (fun σ' H4 => ∃ x5 : Option V, σ' = [some (.ref d), some (.ref a), some (.str z), some (.ref c), some (.ref b), x5, none, none, none, none, none] ∧ Gl d l H2 H4) (fun N kN => ?_) fun σ' H4 hI => ?_
    · refine rd_if ?_
      walk_at "rvs"
      refine ⟨dR row, rs.map dR, dp_of_row sb, .tup s2 dd, (nice_row hrw (by omega)).shaped (by decide), (Nice.tup (nice_rows (by omega) hrow)).shaped (by decide), ?_⟩
      walk_at "rvs"
      refine rd_iteb (fun c1 => ?_) (fun c1 => ?_)
      · walk_at "rvs"
        refine ⟨(by show 1 ≤ sizeLine; decide), fun t1 h1 => ?_⟩
        have e1 := Evl.Ex.new (o := .tup [V.ref b]) h1
        have lx : xs.length = rs.length := by rw [dpAll_len dd, List.length_map]
        refine rd_catT (Evl.ex_t e1 s2) (SqT.of upd_same) (by rw [sizeLine_eq]; show _ + 1 ≤ _; omega) fun c2 H3 e3 s3 => ?_
        have e13 := e1.trans e3
        walk_at "rvs"
        refine ⟨(by show 2 ≤ sizeLine; decide), fun o ho => ?_⟩
        have e4 := e13.trans (Evl.Ex.new (o := .tup [V.str z, .ref c2]) ho)
        have hrow3 : ∀ r ∈ rs ++ [row], Row n r := fun r h => (List.mem_append.mp h).elim (hrow r) fun h => by rw [List.mem_singleton.mp h]; exact hrw
        have sen4 : Sen K (upd H3 o (.tup [V.str z, .ref c2])) n o z (rs ++ [row]) := by
          refine ⟨c2, xs ++ [.ref b], SqT.of upd_same, Evl.ex_t (Evl.Ex.new ho) s3, ?_, hz, hn, hrow3, by rw [List.length_append]; show _ + 1 ≤ _; omega⟩
          rw [List.map_append]
          exact dpAll_app (dpAll_ex e4 _ _ dd) (.cons (dp_of_row (Evl.ex_t e4 sb)) .nil)
        have hD4 := (Gl.ex e4 hD2).dk
        have g4 := Gl.ex e4 hD2
        have sen5 := sen2.ex e4
        generalize upd H3 o (.tup [V.str z, .ref c2]) = H4 at sen4 hD4 g4 sen5 ⊢
        clear e4 ho e13 e3 s3 e1 h1
        walk_at "rvs"
        refine rd_ifI (fun σ' H6 => σ' = [some (.ref d), some (.ref a), some (.str z), some (.ref c), some (.ref b), some (.ref o), none, none, none, none, none] ∧ Gl d l H4 H6) (fun N2 kN2 => ?_) fun σ' H6 hI => ?_
        · refine rd_if ?_
          walk_at "rvs"
          refine ⟨d, l, o, z, n, _, rfl, hD4, sen4, hn1, by omega, fun H5 g5 => ?_⟩
          have sen4' := sen4.gl g5 hD4
          have sen5' := sen5.gl g5 hD4
          walk_at "rvs"
          refine (if_neg Bool.false_ne_true).mpr ?_
          walk_at "rvs"
          refine ⟨o, z, n, _, rfl, sen4', by omega, fun H6 e6 => ?_⟩
          have g6 := g5.trans (Gl.ex e6 g5.dk)
          walk_at "rvs"
          cases hw : winF n z (rs ++ [row]) [] with
          | false =>
            refine (if_neg Bool.false_ne_true).mpr ?_
            refine (if_neg Bool.false_ne_true).mpr ?_
            walk_at "rvs"
            exact kN2 _ _ ⟨rfl, g6⟩
          | true =>
            refine (if_pos rfl).mpr ?_
            walk_at "rvs"
            refine ⟨a, z, n, rs, rfl, sen5'.ex e6, by omega, fun H7 e7 => ?_⟩
            have hw2 : winF n z rs [] = true := win_mono hrow3 hrow (fun x _ _ h => h) (fun p _ _ h => by
              unfold resB at h ⊢
              rw [List.all_append, Bool.and_eq_true] at h
              exact h.1) n [] (fun i x e => by simp at e) (by simp) hw
            rw [hw2]
            walk_at "rvs"
            refine (if_neg Bool.false_ne_true).mpr ?_
            walk_at "rvs"
            exact kN2 _ _ ⟨rfl, g6.trans (Gl.ex e7 g6.dk)⟩
        obtain ⟨rfl, g6⟩ := hI
        have hD6 := g6.dk
        have sen6 := sen5.gl g6 hD4
        have more6 := sen4.gl g6 hD4
        have g26 := g4.trans g6
        walk_at "rvs"
        dsimp only
        refine rd_if ?_
        walk_at "rvs"
        refine rd_lenT (g26.tup hD2 s2) ?_
        rw [lx]
        walk_at "rvs"
        refine ⟨(by show 1 ≤ sizeLine; decide), fun t2 h2 => ?_⟩
        have e2 := Evl.Ex.new (o := .tup [V.int (rs.length : Int)]) h2
        walk_at "rvs"
        refine ⟨o, t2, z, n, rs, row, rfl, more6.ex e2, SqT.of upd_same, fun q3 H7 e7 hdp => ?_⟩
        have fs := fair_sent hz hn hrow (by omega)
        walk_at "rvs"
        refine rd_reprV (.inl hdp) fs (by decide) (by decide) ?_
        walk_at "rvs"
        refine rd_reprV (.inl (sen_dp (sen6.ex (e2.trans e7)))) fs (by decide) (by decide) ?_
        walk_at "rvs"
        refine rd_iten (fun c => absurd rfl c) (fun _ => ?_)
        walk_at "rvs"
        exact kN _ _ ⟨_, rfl, g26.trans (Gl.ex (e2.trans e7) hD6)⟩
      · walk_at "rvs"
        exact kN _ _ ⟨_, rfl, Gl.refl hD2⟩
    · obtain ⟨x5, rfl, g4⟩ := hI
      have hD4 := g4.dk
      have s24 := g4.tup hD2 s2
      have dd4 := Gl.rows g4 hD2 dd
      have sen4 := sen2.gl g4 hD2
      have g24 := g2.trans g4
      clear s1 s2 dd sen2 g4 hrw sb sen
      walk_at "rvs"
      refine rd_slT s24 fun q5 H5 e5 sq5 => ?_
      have s5 : SqT K H5 q5 (xs.take 2) := by
        rw [cut_take (by decide)] at sq5
        exact sq5
      have g5 := Gl.ex e5 hD4
      have hD5 := g5.dk
      have s25 := Evl.ex_t e5 s24
      have dd5 := dpAll_ex e5 _ _ dd4
      have sen5 := sen4.ex e5
      have g05 := g24.trans g5
      clear s24 dd4 sen4 g24 sq5 g5
      walk_at "rvs"
      refine rd_ref s5 ?_
      refine fr_tup (xs := xs.take 2) (fun i σ' H' => ∃ x4 x5 x6 x7 x8 : Option V, σ' = [some (.ref d), some (.ref a), some (.str z), some (.ref c), x4, x5, x6, x7, x8, none, none] ∧ Gl d l H5 H')
        ⟨_, _, _, _, _, rfl, Gl.refl hD5⟩ (fun i σ' H' _ ⟨_, _, _, _, _, _, g⟩ => g.tup hD5 s5) (fun i x σ' H6 hi hP => ?_) fun σ' H6 hP => ?_
      · obtain ⟨x4, x5, x6, x7, x8, rfl, g6⟩ := hP
        have hi2 : xs[i]? = some x := by
          rw [List.getElem?_take] at hi
          split at hi
          · exact hi
          · cases hi
        obtain ⟨dx, hdx, hDp⟩ := dpAll_get dd5 hi2
        rw [List.getElem?_map] at hdx
        obtain ⟨r, hrr, rfl⟩ := Option.map_eq_some_iff.mp hdx
        obtain ⟨b1, rfl, sb1⟩ := dp_row hDp
        have hD6 := g6.dk
        have sb6 := g6.tup hD5 sb1
        have s26 := g6.tup hD5 s25
        have dd6 := Gl.rows g6 hD5 dd5
        have sen6 := sen5.gl g6 hD5
        have rrow : Row n r := hrow r (List.mem_of_getElem? hrr)
        have rl : r.length ≤ n := rrow.length
        clear sb1 hDp hdx hi hi2
        refine rd_start (σ' := [some (.ref d), some (.ref a), some (.str z), some (.ref c), some (.ref b1), x5, x6, x7, x8, none, none]) rfl ?_
        walk_at "rvs"
        refine rd_lenS (by rw [hz.1, sizeLine_eq]; omega) ?_
        rw [hz.1]
        walk_at "rvs"
        refine ⟨1, (n : Int) + 1, rfl, ⟨by omega, by omega, by omega, by omega⟩, ?_⟩
        rw [show (n : Int) + 1 - 1 = (n : Int) by omega, Int.toNat_natCast]
        refine lc_fmR (lo := 1) (fun i => !decide ((1 : Int) + (i : Int) ∈ r) && !decide (-((1 : Int) + (i : Int)) ∈ r)) (fun i => .int (1 + (i : Int))) (σx := fun x => [some (.ref d), some (.ref a), some (.str z), some (.ref c), some (.ref b1), x5, x6, x7, x8, some x, none]) (by omega) (fun _ => rfl) (fun _ => rfl) (fun i hi H' N S e kN kS => ?_) fun D H7 e7 eD hD7 => ?_
        · walk_at "rvs"
          refine rd_notInT (Evl.ex_t e sb6) ?_
          walk_at "rvs"
          cases c1 : (!decide ((1 : Int) + (i : Int) ∈ r)) with
          | false =>
            refine (if_neg Bool.false_ne_true).mpr ?_
            refine (if_neg Bool.false_ne_true).mpr ?_
            exact kS (by rw [c1]; rfl) _ (Evl.Ex.refl _)
          | true =>
            refine (if_pos rfl).mpr ?_
            walk_at "rvs"
            refine rd_notInT (Evl.ex_t e sb6) ?_
            walk_at "rvs"
            cases c2 : (!decide (-((1 : Int) + (i : Int)) ∈ r)) with
            | false =>
              refine (if_neg Bool.false_ne_true).mpr ?_
              exact kS (by rw [c1, c2]; rfl) _ (Evl.Ex.refl _)
            | true =>
              refine (if_pos rfl).mpr ?_
              walk_at "rvs"
              exact kN (by rw [c1, c2]; rfl) _ (Evl.Ex.refl _)
        have ll : (((List.range n).filter fun i : Nat => !decide ((1 : Int) + (i : Int) ∈ r) && !decide (-((1 : Int) + (i : Int)) ∈ r)).map fun i : Nat => V.int (1 + (i : Int))).length ≤ 60 := by
          rw [List.length_map]
          refine Nat.le_trans (List.length_filter_le _ _) ?_
          rw [List.length_range]
          omega
        have lm : ∀ y ∈ (((List.range n).filter fun i : Nat => !decide ((1 : Int) + (i : Int) ∈ r) && !decide (-((1 : Int) + (i : Int)) ∈ r)).map fun i : Nat => V.int (1 + (i : Int))), ∃ u : Int, y = .int u ∧ 1 ≤ u ∧ u ≤ (n : Int) ∧ u ∉ r ∧ -u ∉ r := fun y hy => by
          obtain ⟨i, hi, rfl⟩ := List.mem_map.mp hy
          obtain ⟨h1, h2⟩ := List.mem_filter.mp hi
          have h1 := List.mem_range.mp h1
          rw [Bool.and_eq_true, Bool.not_eq_true', Bool.not_eq_true', decide_eq_false_iff_not, decide_eq_false_iff_not] at h2
          exact ⟨_, rfl, by omega, by omega, h2.1, h2.2⟩
        generalize (((List.range n).filter fun i : Nat => !decide ((1 : Int) + (i : Int) ∈ r) && !decide (-((1 : Int) + (i : Int)) ∈ r)).map fun i : Nat => V.int (1 + (i : Int))) = ls at hD7 ll lm
        have g7 := Gl.ex e7 hD6
        have hDd := hD6.off eD
        walk_at "rvs"
        dsimp only
        refine rd_ifI (fun σ' H8 => ∃ x7 x8 : Option V, σ' = [some (.ref d), some (.ref a), some (.str z), some (.ref c), some (.ref b1), x5, some (.ref D), x7, x8, none, none] ∧ Gl d l H7 H8) (fun N kN => ?_) fun σ' H8 hI => ?_
        · refine rd_if ?_
          walk_at "rvs"
          refine ⟨Nat.zero_le _, fun t0 h0 => ?_⟩
          have e8 := Evl.Ex.new (o := .lst []) h0
          walk_at "rvs"
          refine rd_ne0 (SqL.of (e8 _ _ hD7)) (SqL.of upd_same) ?_
          walk_at "rvs"
          refine rd_iteb (fun c1 => ?_) (fun c1 => ?_)
          · have g8 := Gl.ex e8 g7.dk
            have hD8 := g8.dk
            have h8 := e8 _ _ hD7
            have sb8 := Evl.ex_t (e7.trans e8) sb6
            have s28 := Evl.ex_t (e7.trans e8) s26
            have dd8 := dpAll_ex (e7.trans e8) _ _ dd6
            have sen8 := sen6.ex (e7.trans e8)
            have l1 : 1 ≤ ls.length := by
              cases ls with
              | nil => cases c1
              | cons => exact Nat.succ_le_succ (Nat.zero_le _)
            generalize upd H7 t0 (.lst []) = H8 at g8 hD8 h8 sb8 s28 dd8 sen8 ⊢
            clear e8 h0 e7 sb6 s26 dd6 sen6
            walk_at "rvs"
            refine ⟨d, l, D, ls, rfl, hD8, h8, hDd.1, hDd.2, l1, by omega, fun y H9 g9 hy => ?_⟩
            obtain ⟨u, rfl, u1, un, ur1, ur2⟩ := lm y hy
            have hD9 := g9.dk
            have sb9 := g9.tup hD8 sb8
            have s29 := g9.tup hD8 s28
            have dd9 := Gl.rows g9 hD8 dd8
            have sen9 := sen8.gl g9 hD8
            have g79 := g8.trans g9
            clear sb8 s28 dd8 sen8 g8 h8
            walk_at "rvs"
            refine ⟨(by show 1 ≤ sizeLine; decide), fun t1 h1 => ?_⟩
            have e10 := Evl.Ex.new (o := .tup [V.int u]) h1
            walk_at "rvs"
            refine rd_catT (ys := [V.int u]) (Evl.ex_t e10 sb9) (SqT.of upd_same) (by rw [List.length_map, sizeLine_eq]; show _ + 1 ≤ _; omega) fun c2 H11 e11 s11 => ?_
            have e9 := e10.trans e11
            have s11 : SqT K H11 c2 ((r ++ [u]).map V.int) := by rw [List.map_append]; exact s11
            walk_at "rvs"
            refine rd_ref s11 ?_
            refine lc_exT (fun i acc H => Prs H acc (((r ++ [u]).take i).map fun x => ((x.natAbs : Int), V.int x))) (fun i acc H1 D ys u e h => h.mut e) (σx := fun x => [some (.ref d), some (.ref a), some (.str z), some (.ref c), some (.ref b1), x5, some (.ref D), x7, x8, some x, none])
              s11 (by rw [List.length_map, List.length_append]; show _ + 1 ≤ _; omega) (fun _ => rfl) (fun _ => rfl) (fun H' _ => Prs.nil) (fun i x hi acc H' N e hP kN => ?_) fun D2 acc H12 e12 _ hacc hP => ?_
            · rw [List.getElem?_map] at hi
              obtain ⟨t, ht, rfl⟩ := Option.map_eq_some_iff.mp hi
              walk_at "rvs"
              refine ⟨(by show 2 ≤ sizeLine; decide), fun b hb => ?_⟩
              have htk : ((r ++ [u]).take (i + 1)).map (fun x => ((x.natAbs : Int), V.int x)) = ((r ++ [u]).take i).map (fun x => ((x.natAbs : Int), V.int x)) ++ [((t.natAbs : Int), V.int t)] := by
                rw [List.take_add_one, ht, List.map_append] <;> rfl
              refine kN _ _ (Evl.Ex.new hb) ?_
              rw [htk]
              exact (hP.ex (Evl.Ex.new hb)).snoc upd_same
            rw [List.length_map, List.take_length] at hP
            walk_at "rvs"
            refine rd_sortPrs datI (SqL.of hacc) hP (fun p hp => ?_) (fun p hp q hq => ?_) (fun p hp => ?_) fun us qs b pm so hu hb => ?_
            · obtain ⟨x, _, rfl⟩ := List.mem_map.mp hp
              exact .int x
            · obtain ⟨x, _, rfl⟩ := List.mem_map.mp hp
              obtain ⟨y, _, rfl⟩ := List.mem_map.mp hq
              rfl
            · obtain ⟨x, _, rfl⟩ := List.mem_map.mp hp
              exact Nat.zero_le _
            obtain ⟨ts, pts, rfl⟩ := perm_map_back _ pm
            have so2 : ts.Pairwise fun x y => x.natAbs ≤ y.natAbs := by
              rw [List.pairwise_map] at so
              exact so.imp fun {x y} h => by
                have h : (x.natAbs : Int) ≤ (y.natAbs : Int) := h
                omega
            have trow : Row n ts := row_wide rrow u1 un ur1 ur2 pts so2
            have e13 := (e9.trans e12).trans (Evl.Ex.new (o := .lst us) hb)
            have hu13 := hu.ex (Evl.Ex.new (o := .lst us) hb)
            have hb13 : (upd H12 b (.lst us)) b = some (.lst us) := upd_same
            have lu : us.length = ts.length := by rw [hu.1, List.length_map]
            have tl : ts.length ≤ n := trow.length
            have s2d := Evl.ex_t e13 s29
            have ddd := dpAll_ex e13 _ _ dd9
            have send := sen9.ex e13
            have gd := g79.trans (Gl.ex e13 hD9)
            generalize upd H12 b (.lst us) = H13 at hb13 hu13 s2d ddd send gd ⊢
            clear e13 hu hb hacc hP e12 s11 e9 e11 e10 h1 s29 dd9 sen9 g79 hD9 sb9 so pm
            have hD13 := gd.dk
            walk_at "rvs"
            refine rd_refL (SqL.of hb13) ?_
            refine lc_prL (px := fun i => .int ((ts.getD i 0).natAbs : Int)) (py := fun i => .int (ts.getD i 0)) rfl (SqL.of hb13) (by omega) (fun i hi => ?_) (σx := fun y x => [some (.ref d), some (.ref a), some (.str z), some (.ref c), some (.ref b1), x5, some (.ref D), x7, x8, some x, some y]) (fun _ _ => rfl) (fun _ _ => rfl)
              (f := fun _ => true) (g := fun i => .int (ts.getD i 0)) (fun i hi H' N S e kN kS => ?_) fun D3 H14 e14 eD3 hD3 => ?_
            · have hit : ts[i]? = some (ts[i]'(by omega)) := List.getElem?_eq_getElem _
              obtain ⟨bb, h2, h3⟩ := hu13.2 i (((ts[i]'(by omega)).natAbs : Int), V.int (ts[i]'(by omega))) (by rw [List.getElem?_map, hit] <;> rfl)
              have hg : ts.getD i 0 = ts[i]'(by omega) := by rw [List.getD_eq_getElem?_getD, hit] <;> rfl
              exact ⟨bb, h2, by rw [hg]; exact SqT.of h3⟩
            · walk_at "rvs"
              exact kN rfl _ (Evl.Ex.refl _)
            have hts : ((List.range us.length).filter fun _ => true).map (fun i => V.int (ts.getD i 0)) = ts.map V.int := by
              rw [List.filter_eq_self.mpr (fun _ _ => rfl), lu]
              refine List.ext_getElem (by rw [List.length_map, List.length_range, List.length_map]) fun i a1 a2 => ?_
              rw [List.getElem_map, List.getElem_range, List.getElem_map, List.getD_eq_getElem?_getD, List.getElem?_eq_getElem (by rw [List.length_map] at a2; exact a2)] <;> rfl
            rw [hts] at hD3
            walk_at "rvs"
            refine rd_tupL (SqL.of hD3) fun o ho => ?_
            have e15 := e14.trans (Evl.Ex.new (o := .tup (ts.map V.int)) ho)
            have so15 : SqT K (upd H14 o (.tup (ts.map V.int))) o (ts.map V.int) := SqT.of upd_same
            have s2f := Evl.ex_t e15 s2d
            have ddf := dpAll_ex e15 _ _ ddd
            have senf := send.ex e15
            have gf := gd.trans (Gl.ex e15 hD13)
            generalize upd H14 o (.tup (ts.map V.int)) = H15 at so15 s2f ddf senf gf ⊢
            clear e15 ho hD3 e14 eD3 s2d ddd send gd hb13 hu13
            walk_at "rvs"
            dsimp only
            refine rd_ifI (fun σ' H9 => ∃ x8 : Option V, σ' = [some (.ref d), some (.ref a), some (.str z), some (.ref c), some (.ref b1), x5, some (.ref D), some (.ref o), x8, none, none] ∧ Gl d l H15 H9) (fun N2 kN2 => ?_) fun σ' H9 hI => ?_
            · refine rd_if ?_
              walk_at "rvs"
              refine ⟨dR ts, rs.map dR, dp_of_row so15, .tup s2f ddf, (nice_row trow (by omega)).shaped (by decide), (Nice.tup (nice_rows (by omega) hrow)).shaped (by decide), ?_⟩
              walk_at "rvs"
              refine rd_iteb (fun c3 => ?_) (fun c3 => ?_)
              · walk_at "rvs"
                refine ⟨(by show 1 ≤ sizeLine; decide), fun t3 h3 => ?_⟩
                have e3 := Evl.Ex.new (o := .tup [V.ref o]) h3
                have lx : xs.length = rs.length := by rw [dpAll_len ddf, List.length_map]
                walk_at "rvs"
                refine rd_catT (xs := [V.ref o]) (SqT.of upd_same) (Evl.ex_t e3 s2f) (by rw [sizeLine_eq]; show 1 + _ ≤ _; omega) fun c4 H16 e16 s16 => ?_
                have e36 := e3.trans e16
                walk_at "rvs"
                refine ⟨(by show 2 ≤ sizeLine; decide), fun o2 ho2 => ?_⟩
                have e4 := e36.trans (Evl.Ex.new (o := .tup [V.str z, .ref c4]) ho2)
                have hrowW : ∀ x ∈ ts :: rs, Row n x := fun x h => (List.mem_cons.mp h).elim (fun e => by rw [e]; exact trow) (hrow x)
                have senW : Sen K (upd H16 o2 (.tup [V.str z, .ref c4])) n o2 z (ts :: rs) := by
                  refine ⟨c4, V.ref o :: xs, SqT.of upd_same, Evl.ex_t (Evl.Ex.new ho2) s16, ?_, hz, hn, hrowW, by show rs.length + 1 ≤ 300; omega⟩
                  exact .cons (dp_of_row (Evl.ex_t e4 so15)) (dpAll_ex e4 _ _ ddf)
                have g4 := Gl.ex e4 gf.dk
                have hD16 := g4.dk
                have s2g := Evl.ex_t e4 s2f
                have ddg := dpAll_ex e4 _ _ ddf
                generalize upd H16 o2 (.tup [V.str z, .ref c4]) = H17 at senW g4 hD16 s2g ddg ⊢
                clear e4 ho2 e36 e16 s16 e3 h3
                walk_at "rvs"
                dsimp only
                refine rd_if ?_
                walk_at "rvs"
                refine ⟨d, l, o2, z, n, _, rfl, hD16, senW, hn1, by omega, fun H18 g18 => ?_⟩
                have senX := senW.gl g18 hD16
                have s2h := g18.tup hD16 s2g
                have ddh := Gl.rows g18 hD16 ddg
                walk_at "rvs"
                refine (if_neg Bool.false_ne_true).mpr ?_
                walk_at "rvs"
                refine ⟨o2, z, n, _, rfl, senX, by omega, fun H19 e19 => ?_⟩
                walk_at "rvs"
                refine ⟨Nat.zero_le _, fun t4 h4 => ?_⟩
                have e20 := e19.trans (Evl.Ex.new (o := .tup []) h4)
                walk_at "rvs"
                refine ⟨z, c, t4, n, xs, rs, [], rfl, hz, by omega, Evl.ex_t e20 s2h, dpAll_ex e20 _ _ ddh, hrow, by omega, SqT.of upd_same, fun i x e => by simp at e, Nat.zero_le _, by show n - 0 < 13; omega, fun v H21 e21 hv => ?_⟩
                obtain ⟨qa, cnt, rfl, hc, sq⟩ := hv
                have hcw : cnt = wayF n z rs [] := hc
                have hsame : wayF n z (ts :: rs) [] = wayF n z rs [] := (way_same hrowW hrow (fun p _ _ => wide_same (List.mem_of_getElem? hrr) (fun x hx => pts.mem_iff.mpr (List.mem_append_left _ hx)) p) n [] (fun i x e => by simp at e) (by simp)).1
                walk_at "rvs"
                refine rd_ixT sq rfl ?_
                walk_at "rvs"
                rw [hcw, hsame]
                refine rd_iten (fun c => absurd rfl c) (fun _ => ?_)
                walk_at "rvs"
                exact kN2 _ _ ⟨_, rfl, (g4.trans g18).trans (Gl.ex (e20.trans e21) g18.dk)⟩
              · walk_at "rvs"
                exact kN2 _ _ ⟨_, rfl, Gl.refl gf.dk⟩
            · obtain ⟨x8, rfl, g9⟩ := hI
              walk_at "rvs"
              exact kN _ _ ⟨_, _, rfl, gf.trans g9⟩
          · walk_at "rvs"
            exact kN _ _ ⟨_, _, rfl, Gl.ex e8 g7.dk⟩
        · obtain ⟨x7, x8, rfl, g8⟩ := hI
          walk_at "rvs"
          exact ⟨_, _, _, _, _, rfl, g6.trans (g7.trans g8)⟩
      · obtain ⟨x4, x5, x6, x7, x8, rfl, g6⟩ := hP
        walk_at "rvs"
        exact q _ (g05.trans g6)
end
end KA
set_option Elab.async false
set_option linter.all false
set_option maxRecDepth 100000
set_option maxHeartbeats 400000
set_option pp.maxSteps 300
/-! Owners changed at a place; rows with two letters exchanged. -/
namespace KA
open PySem PySem.Spec PyProof.Rows L2 Ea
theorem cps_take {z : Str} {k : Nat} : (cutS z none (some (k : Int))).cps.toList = z.cps.toList.take k := by
  have e1 : HT.sIx z.length 0 none = 0 := HT.sIx_none _ _
  have e2 : HT.sIx z.length z.length (some (k : Int)) = min k z.length := HT.sIx_nat _ _ _
  unfold cutS
  rw [e1, e2, List.drop_zero, Nat.sub_zero, List.toList_toArray]
  have e3 : z.cps.toList.length = z.length := rfl
  rw [← e3, List.take_eq_take_iff]
  omega
theorem cps_drop {z : Str} {k : Nat} : (cutS z (some (k : Int)) none).cps.toList = z.cps.toList.drop k := by
  have e1 : HT.sIx z.length 0 (some (k : Int)) = min k z.length := HT.sIx_nat _ _ _
  have e2 : HT.sIx z.length z.length none = z.length := HT.sIx_none _ _
  have e3 : z.cps.toList.length = z.length := rfl
  unfold cutS
  rw [e1, e2, List.toList_toArray]
  by_cases c : k ≤ z.length
  · rw [Nat.min_eq_left c, List.take_of_length_le (by rw [List.length_drop, e3]; exact Nat.le_refl _)]
  · rw [List.drop_eq_nil_of_le (by rw [e3, Nat.min_eq_right (by omega)]; exact Nat.le_refl _), List.drop_eq_nil_of_le (by rw [e3]; omega), List.take_nil]
theorem cps_mid {z : Str} {a b : Nat} (ha : a ≤ z.length) (hb : b ≤ z.length) : (cutS z (some (a : Int)) (some (b : Int))).cps.toList = (z.cps.toList.drop a).take (b - a) := by
  have e1 : HT.sIx z.length 0 (some (a : Int)) = min a z.length := HT.sIx_nat _ _ _
  have e2 : HT.sIx z.length z.length (some (b : Int)) = min b z.length := HT.sIx_nat _ _ _
  unfold cutS
  rw [e1, e2, List.toList_toArray, Nat.min_eq_left ha, Nat.min_eq_left hb]
theorem cps_add {y z : Str} : (y ++ z).cps.toList = y.cps.toList ++ z.cps.toList := by rw [Str.cps_append, Array.toList_append]
theorem own_list {n : Nat} {z : Str} : OwnS n z ↔ z.cps.toList.length = n ∧ ∀ c ∈ z.cps.toList, c = 101 ∨ c = 115 := Iff.rfl
theorem held_s {z : Str} {x : Nat} : heldBy z "s" (x : Int) = decide (z.cps.toList.getD (x - 1) 0 = 115) := by
  unfold heldBy sgn
  rw [Int.natAbs_natCast]
  refine decide_eq_decide.mpr ⟨fun h => ?_, fun h => by rw [h] <;> rfl⟩
  injection h with h
  have : (⟨#[z.cps.toList.getD (x - 1) 0]⟩ : Str).cps = (⟨#[115]⟩ : Str).cps := congrArg Str.cps h
  have h2 : #[z.cps.toList.getD (x - 1) 0] = #[115] := this
  injection h2 with h2
  injection h2 with h2 _
theorem held_long {n : Nat} {z s : Str} (hz : OwnS n z) (x : Nat) (h1 : 1 ≤ x) (h2 : x ≤ n) : heldBy (z ++ s) "s" (x : Int) = heldBy z "s" (x : Int) := by
  have hl : z.cps.toList.length = n := hz.1
  rw [held_s, held_s, cps_add, List.getD_eq_getElem?_getD, List.getD_eq_getElem?_getD, List.getElem?_append_left (by omega)]
/-- the owners with those at place k exchanged for w -/
theorem put_get {l w : List Nat} {k : Nat} (hk : k + w.length ≤ l.length) (i : Nat) : (l.take k ++ w ++ l.drop (k + w.length)).getD i 0 = if i < k then l.getD i 0 else if i < k + w.length then w.getD (i - k) 0 else l.getD i 0 := by
  have ht : (l.take k).length = k := by rw [List.length_take]; omega
  rw [List.getD_eq_getElem?_getD, List.getD_eq_getElem?_getD, List.getD_eq_getElem?_getD]
  by_cases c : i < k
  · rw [if_pos c, List.append_assoc, List.getElem?_append_left (by omega), List.getElem?_take, if_pos c]
  · rw [if_neg c]
    by_cases c2 : i < k + w.length
    · rw [if_pos c2, List.getElem?_append_left (by rw [List.length_append, ht]; exact c2), List.getElem?_append_right (by omega), ht]
    · rw [if_neg c2, List.getElem?_append_right (by rw [List.length_append, ht]; omega), List.length_append, ht, List.getElem?_drop]
      congr 2
      omega
def putS (z w : Str) (k m : Nat) : Str := cutS z none (some (k : Int)) ++ w ++ cutS z (some (m : Int)) none
theorem putS_cps {z w : Str} {k m : Nat} : (putS z w k m).cps.toList = z.cps.toList.take k ++ w.cps.toList ++ z.cps.toList.drop m := by
  unfold putS
  rw [cps_add, cps_add, cps_take, cps_drop]
theorem own_put {n k : Nat} {z w : Str} (hz : OwnS n z) (hw : OwnS w.length w) (hk : k + w.length ≤ n) : OwnS n (putS z w k (k + w.length)) := by
  refine own_list.mpr ⟨?_, fun c hc => ?_⟩
  · have e : z.cps.toList.length = n := hz.1
    have ew : w.cps.toList.length = w.length := rfl
    rw [putS_cps, List.length_append, List.length_append, List.length_take, List.length_drop, e, ew]
    omega
  · rw [putS_cps] at hc
    rcases List.mem_append.mp hc with h | h
    · rcases List.mem_append.mp h with h | h
      · exact hz.2 c (List.mem_of_mem_take h)
      · exact hw.2 c h
    · exact hz.2 c (List.mem_of_mem_drop h)
theorem held_put {n k : Nat} {z w : Str} (hz : OwnS n z) (hk : k + w.length ≤ n) (x : Nat) (h1 : 1 ≤ x) : heldBy (putS z w k (k + w.length)) "s" (x : Int) = if x ≤ k then heldBy z "s" (x : Int) else if x ≤ k + w.length then decide (w.cps.toList.getD (x - 1 - k) 0 = 115) else heldBy z "s" (x : Int) := by
  have e : z.cps.toList.length = n := hz.1
  have ew : w.cps.toList.length = w.length := rfl
  rw [held_s, held_s, putS_cps, ← ew, put_get (by rw [e, ew]; exact hk)]
  by_cases c : x ≤ k
  · rw [if_pos c, if_pos (by omega)]
  · rw [if_neg c, if_neg (by omega)]
    by_cases c2 : x ≤ k + w.cps.toList.length
    · rw [if_pos c2, if_pos (by omega)]
    · rw [if_neg c2, if_neg (by omega)]
theorem se_at {n k : Nat} {z : Str} (hz : OwnS n z) (hk : k + 2 ≤ n) (h : cutS z (some (k : Int)) (some ((k + 2 : Nat) : Int)) = Str.ofString "se") : heldBy z "s" ((k + 1 : Nat) : Int) = true ∧ heldBy z "s" ((k + 1 + 1 : Nat) : Int) = false := by
  have hl : z.length = n := hz.1
  have e : (z.cps.toList.drop k).take 2 = [115, 101] := by
    have h2 := cps_mid (z := z) (a := k) (b := k + 2) (by omega) (by omega)
    rw [h, show k + 2 - k = 2 by omega] at h2
    rw [← h2] <;> rfl
  have e0 : z.cps.toList.getD k 0 = 115 := by
    have := congrArg (fun l : List Nat => l[0]?) e
    have this : ((z.cps.toList.drop k).take 2)[0]? = some 115 := this
    rw [List.getElem?_take, if_pos (by decide), List.getElem?_drop] at this
    rw [List.getD_eq_getElem?_getD, show k = k + 0 from rfl, this] <;> rfl
  have e1 : z.cps.toList.getD (k + 1) 0 = 101 := by
    have := congrArg (fun l : List Nat => l[1]?) e
    have this : ((z.cps.toList.drop k).take 2)[1]? = some 101 := this
    rw [List.getElem?_take, if_pos (by decide), List.getElem?_drop] at this
    rw [List.getD_eq_getElem?_getD, this] <;> rfl
  rw [held_s, held_s, show k + 1 - 1 = k by omega, show k + 1 + 1 - 1 = k + 1 by omega, e0, e1]
  exact ⟨by decide, by decide⟩
/-- the letters k and k + 1 exchanged: a letter's number -/
theorem sw_abs {k : Nat} {x : Int} (h1 : 1 ≤ k) (hx : 1 ≤ x.natAbs) : ((sw k x).natAbs : Int) = (if x.natAbs = k then (k : Int) + 1 else if x.natAbs = k + 1 then (k : Int) else (x.natAbs : Int)) ∧ (0 < sw k x ↔ 0 < x) := by
  by_cases c : x.natAbs = k
  · have := sw_lo h1 c
    rw [if_pos c]
    exact ⟨by omega, this.2⟩
  · by_cases c2 : x.natAbs = k + 1
    · have := sw_hi h1 c2
      rw [if_neg c, if_pos c2]
      exact ⟨by omega, this.2⟩
    · rw [if_neg c, if_neg c2, sw_off c c2]
      exact ⟨rfl, Iff.rfl⟩
theorem sw_row {n k : Nat} {r ts : List Int} (h1 : 1 ≤ k) (hk : k + 1 ≤ n) (hr : Row n r) (pm : ts.Perm r) (so : ts.Pairwise fun x y => ((sw k x).natAbs : Int) ≤ ((sw k y).natAbs : Int)) : Row n (ts.map (sw k)) := by
  have hb : ∀ x ∈ ts, 1 ≤ x.natAbs ∧ x.natAbs ≤ n := fun x hx => hr.2 x (pm.mem_iff.mp hx)
  have nd : (r.map Int.natAbs).Nodup := by
    show List.Pairwise (· ≠ ·) _
    rw [List.pairwise_map]
    exact hr.1.imp fun h => Nat.ne_of_lt h
  have nd3 : (ts.map Int.natAbs).Nodup := ((pm.map Int.natAbs).nodup_iff).mpr nd
  have nd4 : ts.Pairwise fun x y => x.natAbs ≠ y.natAbs := List.pairwise_map.mp nd3
  refine ⟨?_, fun y hy => ?_⟩
  · rw [List.pairwise_map]
    refine List.Pairwise.imp_of_mem (fun {x y} hx hy h => ?_) (so.and nd4)
    have a := sw_abs h1 (hb x hx).1
    have b := sw_abs h1 (hb y hy).1
    have c1 := h.1
    have c2 := h.2
    rw [a.1, b.1] at c1
    have d1 := a.1
    have d2 := b.1
    split at c1 <;> split at c1 <;> (try split at c1) <;> (try split at c1) <;> simp_all <;> omega
  · obtain ⟨x, hx, rfl⟩ := List.mem_map.mp hy
    have a := (sw_abs h1 (hb x hx).1).1
    have := hb x hx
    split at a
    · omega
    · split at a <;> omega
/-- so many rows with the letters exchanged -/
def RenT (n k : Nat) (rs rs' : List (List Int)) (i : Nat) : Prop := rs'.length = i ∧ (∀ (j : Nat) (r r' : List Int), rs[j]? = some r → rs'[j]? = some r' → ∀ y, y ∈ r' ↔ ∃ x ∈ r, y = sw k x) ∧ ∀ r ∈ rs', Row n r
theorem RenT.nil {n k : Nat} {rs : List (List Int)} : RenT n k rs [] 0 := ⟨rfl, fun j r r' _ h => by simp at h, nofun⟩
theorem RenT.snoc {n k i : Nat} {rs rs' : List (List Int)} {r ts : List Int} (h : RenT n k rs rs' i) (hr : rs[i]? = some r) (pm : ts.Perm r) (hw : Row n (ts.map (sw k))) : RenT n k rs (rs' ++ [ts.map (sw k)]) (i + 1) := by
  refine ⟨by rw [List.length_append, h.1] <;> rfl, fun j q q' hj hj' => ?_, fun q hq => (List.mem_append.mp hq).elim (h.2.2 q) fun e => by rw [List.mem_singleton.mp e]; exact hw⟩
  rw [List.getElem?_append] at hj'
  split at hj'
  · exact h.2.1 j q q' hj hj'
  · next c =>
    have hj0 : j - rs'.length = 0 := by
      have := (List.getElem?_eq_some_iff.mp hj').1
      rw [List.length_singleton] at this
      omega
    rw [hj0] at hj'
    obtain rfl : ts.map (sw k) = q' := Option.some.inj hj'
    have hji : j = i := by rw [← h.1]; omega
    subst hji
    rw [hr] at hj
    obtain rfl : r = q := Option.some.inj hj
    intro y
    rw [List.mem_map]
    exact ⟨fun ⟨x, hx, e⟩ => ⟨x, pm.mem_iff.mp hx, e.symm⟩, fun ⟨x, hx, e⟩ => ⟨x, pm.mem_iff.mpr hx, e.symm⟩⟩
theorem RenT.ren {n k : Nat} {rs rs' : List (List Int)} (h : RenT n k rs rs' rs.length) : Renamed k rs rs' := ⟨h.1.symm, h.2.1⟩
/-- good moves behind a letter's literals turned -/
theorem good_turn {n k : Nat} {z : Str} {rs : List (List Int)} {p : List Int} (hr : ∀ r ∈ rs, Row n r) (hp : PlayOk p) (hk : p.length + 1 = k) (hkn : k ≤ n) : (goodF n z (rs.map fun r => r.map (turn1 k)) p).Perm ((goodF n z rs p).map fun x => -x) := by
  have hpp : p.map (turn1 k) = p := by
    refine List.ext_getElem? fun i => ?_
    rw [List.getElem?_map]
    cases e : p[i]? with
    | none => rfl
    | some x =>
      have h1 := hp i x e
      have h2 := (List.getElem?_eq_some_iff.mp e).1
      show some (turn1 k x) = some x
      unfold turn1
      rw [if_neg (by omega)]
  have step : ∀ x : Int, x.natAbs = k → winF n z (rs.map fun r => r.map (turn1 k)) (p ++ [-x]) = winF n z rs (p ++ [x]) := fun x hx => by
    have h := (turn_same (k := k) (z := z) hr (n - k) (p ++ [x]) (hp.snoc (by omega)) (by rw [snoc_len]; omega)).2
    rw [List.map_append, hpp, List.map_cons, List.map_nil] at h
    have e : turn1 k x = -x := if_pos hx
    rw [e] at h
    exact h
  have a1 := step ((p.length : Int) + 1) (by omega)
  have a2 := step (-((p.length : Int) + 1)) (by omega)
  rw [Int.neg_neg] at a2
  unfold goodF
  rw [List.filter_cons, List.filter_cons, List.filter_nil, List.filter_cons, List.filter_cons, List.filter_nil, a1, a2]
  cases decide (winF n z rs (p ++ [(p.length : Int) + 1]) = nextS z p) <;> cases decide (winF n z rs (p ++ [-((p.length : Int) + 1)]) = nextS z p)
  · exact .nil
  · simp
  · simp
  · simp only [if_true, List.map_cons, List.map_nil, Int.neg_neg]
    exact .swap _ _ _
theorem good_asc {n : Nat} {z : Str} {rs : List (List Int)} {p : List Int} : (goodF n z rs p).Pairwise (· < ·) := by
  unfold goodF
  refine List.Pairwise.filter _ ?_
  rw [List.pairwise_cons]
  exact ⟨fun y hy => by rw [List.mem_singleton.mp hy]; omega, List.pairwise_singleton ..⟩
end KA
set_option Elab.async false
set_option linter.all false
set_option maxRecDepth 100000
set_option maxHeartbeats 400000
set_option pp.maxSteps 300
namespace KA
open PySem PySem.Spec PyProof.Rows L2 Ea
abbrev s_law_is_given : Stmt := topS 34
theorem sc_law_is_given : FnScope ["deck", "own", "owners", "rows", "sign", "ways", "longer", "at", "freed", "names", "swapped", "row", "fresh", "later", "x", "letter", "is_yes"] ["deck", "own"] (defScope s_law_is_given) :=
  ⟨rfl, rfl, rfl, by decide +kernel, rfl, by decide +kernel, by decide +kernel⟩
theorem rd_dget2 {td ty tx : TE} {σ : L2.St} {H : Hp} {Q : VK} (h : td σ H fun x H1 => ∃ a, x = .ref a ∧ IsD H1 a ∧ ty σ H1 fun y H2 => tx σ H2 fun z H3 => ∃ o, DGet H3 a y o ∧ Q (o.getD z) H3) : tDGet2 td ty tx σ H Q := h
local macro_rules | `(tactic| walk_at "rd") => `(tactic| first
  | (with_reducible refine rd_seq ?_) | (with_reducible refine rd_asg ?_) | (with_reducible refine rd_if ?_) | (with_reducible refine rd_ret ?_) | (with_reducible refine rd_next ?_)
  | (with_reducible refine rd_drop ?_) | ((with_reducible refine rd_name (σ' := ?ss) ?hs ?_); (case hs => (dsimp only [List.set]; exact rfl)))
  | ((with_reducible refine rd_var (v := ?vv) ?hv ?_); (case hv => exact rfl)) | (with_reducible refine rd_c ?_) | (with_reducible refine rd_op ?_) | (with_reducible refine rd_un ?_)
  | (with_reducible refine rd_I0 ?_) | (with_reducible refine rd_U ?_) | (with_reducible refine rd_test ?_) | (with_reducible refine rd_B ?_) | (with_reducible refine rd_k ?_)
  | (with_reducible refine rd_not ?_) | (with_reducible refine rd_and ?_) | (with_reducible refine rd_or ?_) | (with_reducible refine rd_ifE ?_)
  | (with_reducible refine rd_par ?_) | ((with_reducible refine rd_par2 (σ' := ?ss) ?hs ?_); (case hs => (dsimp only [List.set]; exact rfl)))
  | (with_reducible refine rd_gsub ?_) | (with_reducible refine rd_andV ?_) | (with_reducible refine rd_orV ?_) | (with_reducible refine rd_notV ?_)
  | (with_reducible refine rd_lc ?_) | (with_reducible refine rd_iTup ?_) | (with_reducible refine rd_iList ?_) | (with_reducible refine rd_iRng1 ?_) | (with_reducible refine rd_iRng2 ?_) | (with_reducible refine rd_iEnumT ?_) | (with_reducible refine rd_iEnum ?_) | (with_reducible refine rd_iZipM ?_) | (with_reducible refine rd_iEnumS ?_) | (with_reducible refine rd_iKeys ?_) | (with_reducible refine rd_din ?_) | (with_reducible refine rd_dnotin ?_)
  | (with_reducible refine rd_yes ?_) | (with_reducible refine rd_true ?_) | (with_reducible refine rd_false ?_) | (with_reducible refine rd_m1 ?_) | (with_reducible refine rd_isS ?_)
  | ((with_reducible refine rd_eq ?hs ?_); (case hs => exact rfl)) | ((with_reducible refine rd_ne ?hs ?_); (case hs => exact rfl))
  | (with_reducible refine rd_listRg ?_) | (with_reducible refine rd_rg2 ?_) | (with_reducible refine rd_rgk ?_)
  | (with_reducible refine rd_dnew ?_) | (with_reducible refine rd_ddel ?_) | (with_reducible refine rd_kw ?_) | (with_reducible refine rd_callS ?_) | (with_reducible refine rd_dc ?_) | (with_reducible refine rd_for ?_) | (with_reducible refine rd_tru ?_) | (with_reducible refine rd_truI ?_)
  | (with_reducible refine rd_nil ?_) | (with_reducible refine rd_cons ?_) | (with_reducible refine rd_call ?_) | (with_reducible refine rd_cb ?_)
  | (with_reducible refine rd_tup ?_) | (with_reducible refine rd_lst ?_) | (with_reducible refine rd_dget ?_) | (with_reducible refine rd_dput ?_) | (with_reducible refine rd_dget2 ?_) | (with_reducible refine rd_sl ?_)
  | (with_reducible refine rd_nopart ?_) | (with_reducible refine rd_part ?_) | (with_reducible refine rd_parti ?_) | (with_reducible refine rd_bm ?_) | (with_reducible refine rd_bm0 ?_)
  | (with_reducible refine rd_int ?_) | (with_reducible refine rd_intb ?_) | (with_reducible refine rd_abs ?_) | (with_reducible refine rd_min2 ?_) | (with_reducible refine rd_max2 ?_))
local macro_rules | `(tactic| walk_at "rds") => `(tactic| repeat (walk_at "rd"))
local macro_rules | `(tactic| walk_at "rq") => `(tactic| first
  | (with_reducible refine rd_seq ?_) | (with_reducible refine rd_asg ?_) | (with_reducible refine rd_ret ?_) | (with_reducible refine rd_next ?_)
  | (with_reducible refine rd_drop ?_) | ((with_reducible refine rd_name (σ' := ?ss) ?hs ?_); (case hs => (dsimp only [List.set]; exact rfl)))
  | ((with_reducible refine rd_var (v := ?vv) ?hv ?_); (case hv => exact rfl)) | (with_reducible refine rd_c ?_) | (with_reducible refine rd_op ?_) | (with_reducible refine rd_un ?_)
  | (with_reducible refine rd_I0 ?_) | (with_reducible refine rd_U ?_) | (with_reducible refine rd_test ?_) | (with_reducible refine rd_B ?_) | (with_reducible refine rd_k ?_)
  | (with_reducible refine rd_not ?_) | (with_reducible refine rd_and ?_) | (with_reducible refine rd_or ?_) | (with_reducible refine rd_ifE ?_)
  | (with_reducible refine rd_par ?_) | ((with_reducible refine rd_par2 (σ' := ?ss) ?hs ?_); (case hs => (dsimp only [List.set]; exact rfl)))
  | (with_reducible refine rd_gsub ?_) | (with_reducible refine rd_andV ?_) | (with_reducible refine rd_orV ?_) | (with_reducible refine rd_notV ?_)
  | (with_reducible refine rd_lc ?_) | (with_reducible refine rd_iTup ?_) | (with_reducible refine rd_iList ?_) | (with_reducible refine rd_iRng1 ?_) | (with_reducible refine rd_iRng2 ?_) | (with_reducible refine rd_iEnumT ?_) | (with_reducible refine rd_iEnum ?_) | (with_reducible refine rd_iZipM ?_) | (with_reducible refine rd_iEnumS ?_) | (with_reducible refine rd_iKeys ?_) | (with_reducible refine rd_din ?_) | (with_reducible refine rd_dnotin ?_)
  | (with_reducible refine rd_yes ?_) | (with_reducible refine rd_true ?_) | (with_reducible refine rd_false ?_) | (with_reducible refine rd_m1 ?_) | (with_reducible refine rd_isS ?_)
  | ((with_reducible refine rd_eq ?hs ?_); (case hs => exact rfl)) | ((with_reducible refine rd_ne ?hs ?_); (case hs => exact rfl))
  | (with_reducible refine rd_listRg ?_) | (with_reducible refine rd_rg2 ?_) | (with_reducible refine rd_rgk ?_)
  | (with_reducible refine rd_dnew ?_) | (with_reducible refine rd_ddel ?_) | (with_reducible refine rd_kw ?_) | (with_reducible refine rd_callS ?_) | (with_reducible refine rd_dc ?_) | (with_reducible refine rd_for ?_) | (with_reducible refine rd_tru ?_) | (with_reducible refine rd_truI ?_)
  | (with_reducible refine rd_nil ?_) | (with_reducible refine rd_cons ?_) | (with_reducible refine rd_call ?_) | (with_reducible refine rd_cb ?_)
  | (with_reducible refine rd_tup ?_) | (with_reducible refine rd_lst ?_) | (with_reducible refine rd_dget ?_) | (with_reducible refine rd_dput ?_) | (with_reducible refine rd_dget2 ?_) | (with_reducible refine rd_sl ?_)
  | (with_reducible refine rd_nopart ?_) | (with_reducible refine rd_part ?_) | (with_reducible refine rd_parti ?_) | (with_reducible refine rd_bm ?_) | (with_reducible refine rd_bm0 ?_)
  | (with_reducible refine rd_int ?_) | (with_reducible refine rd_intb ?_) | (with_reducible refine rd_abs ?_) | (with_reducible refine rd_min2 ?_) | (with_reducible refine rd_max2 ?_))
local macro_rules | `(tactic| walk_at "rqs") => `(tactic| repeat (walk_at "rq"))
local macro_rules | `(tactic| walk_at "rv") => `(tactic| first
  | (with_reducible refine rd_seq ?_) | (with_reducible refine rd_asg ?_) | (with_reducible refine rd_ret ?_) | (with_reducible refine rd_next ?_)
  | (with_reducible refine rd_drop ?_) | ((with_reducible refine rd_name (σ' := ?ss) ?hs ?_); (case hs => (dsimp only [List.set]; exact rfl)))
  | ((with_reducible refine rd_var (v := ?vv) ?hv ?_); (case hv => exact rfl)) | (with_reducible refine rd_c ?_) | (with_reducible refine rd_op ?_) | (with_reducible refine rd_un ?_)
  | (with_reducible refine rd_I0 ?_) | (with_reducible refine rd_U ?_) | (with_reducible refine rd_test ?_) | (with_reducible refine rd_B ?_) | (with_reducible refine rd_k ?_)
  | (with_reducible refine rd_not ?_) | (with_reducible refine rd_and ?_) | (with_reducible refine rd_or ?_)
  | (with_reducible refine rd_par ?_) | ((with_reducible refine rd_par2 (σ' := ?ss) ?hs ?_); (case hs => (dsimp only [List.set]; exact rfl)))
  | (with_reducible refine rd_gsub ?_) | (with_reducible refine rd_andV ?_) | (with_reducible refine rd_orV ?_) | (with_reducible refine rd_notV ?_)
  | (with_reducible refine rd_lc ?_) | (with_reducible refine rd_iTup ?_) | (with_reducible refine rd_iList ?_) | (with_reducible refine rd_iRng1 ?_) | (with_reducible refine rd_iRng2 ?_) | (with_reducible refine rd_iEnumT ?_) | (with_reducible refine rd_iEnum ?_) | (with_reducible refine rd_iZipM ?_) | (with_reducible refine rd_iEnumS ?_) | (with_reducible refine rd_iKeys ?_) | (with_reducible refine rd_din ?_) | (with_reducible refine rd_dnotin ?_)
  | (with_reducible refine rd_yes ?_) | (with_reducible refine rd_true ?_) | (with_reducible refine rd_false ?_) | (with_reducible refine rd_m1 ?_) | (with_reducible refine rd_isS ?_)
  | ((with_reducible refine rd_eq ?hs ?_); (case hs => exact rfl)) | ((with_reducible refine rd_ne ?hs ?_); (case hs => exact rfl))
  | (with_reducible refine rd_listRg ?_) | (with_reducible refine rd_rg2 ?_) | (with_reducible refine rd_rgk ?_)
  | (with_reducible refine rd_dnew ?_) | (with_reducible refine rd_ddel ?_) | (with_reducible refine rd_kw ?_) | (with_reducible refine rd_callS ?_) | (with_reducible refine rd_dc ?_) | (with_reducible refine rd_for ?_) | (with_reducible refine rd_tru ?_) | (with_reducible refine rd_truI ?_)
  | (with_reducible refine rd_nil ?_) | (with_reducible refine rd_cons ?_) | (with_reducible refine rd_call ?_) | (with_reducible refine rd_cb ?_)
  | (with_reducible refine rd_tup ?_) | (with_reducible refine rd_lst ?_) | (with_reducible refine rd_dget ?_) | (with_reducible refine rd_dput ?_) | (with_reducible refine rd_dget2 ?_) | (with_reducible refine rd_sl ?_)
  | (with_reducible refine rd_nopart ?_) | (with_reducible refine rd_part ?_) | (with_reducible refine rd_parti ?_) | (with_reducible refine rd_bm ?_) | (with_reducible refine rd_bm0 ?_)
  | (with_reducible refine rd_int ?_) | (with_reducible refine rd_intb ?_) | (with_reducible refine rd_abs ?_) | (with_reducible refine rd_min2 ?_) | (with_reducible refine rd_max2 ?_))
local macro_rules | `(tactic| walk_at "rvs") => `(tactic| repeat (walk_at "rv"))

theorem merge2 {a b : Int} {x y : V} (h : a ≠ b) : mergeK [] [((Sum.inl a : Key), x), (Sum.inl b, y)] = [(Sum.inl a, x), (Sum.inl b, y)] := by
  have h2 : ¬ (Sum.inl a : Key) = Sum.inl b := fun e => h (Sum.inl.inj e)
  simp [mergeK, putK, h2]
theorem get_sw {k : Nat} {x : Int} (h1 : 1 ≤ k) (hx : 1 ≤ x.natAbs) : (valV [((Sum.inl (k : Int) : Key), V.int ((k : Int) + 1)), (Sum.inl ((k : Int) + 1), .int (k : Int))] (Sum.inl (x.natAbs : Int))).getD (.int (x.natAbs : Int)) = .int ((sw k x).natAbs : Int) := by
  rw [(sw_abs h1 hx).1]
  by_cases c : x.natAbs = k
  · rw [if_pos c, valV_pos (by rw [c])]
    rfl
  · rw [if_neg c, valV_neg (fun e => c (by have := Sum.inl.inj e; omega))]
    by_cases c2 : x.natAbs = k + 1
    · rw [if_pos c2, valV_pos (by rw [c2] <;> rfl)]
      rfl
    · rw [if_neg c2, valV_neg (fun e => c2 (by have := Sum.inl.inj e; omega))]
      rfl
section
variable {P : Program} {w : World} {K : PySem.W.Frag} {mg : Str → Option Value} {base : Heap}
theorem rd_disp2 {t1 t2 t3 t4 : TE} {σ : L2.St} {H : Hp} {Q : VK} (h : ∀ p, H p = none → t1 σ (upd H p (.dK [])) fun x1 H1 => t2 σ H1 fun y1 H2 => t3 σ H2 fun x2 H3 => t4 σ H3 fun y2 H4 =>
    H4 p = some (.dK []) ∧ ∃ kvs : List (Key × V), [(x1, y1), (x2, y2)] = kvs.map (fun kv => (kV kv.1, kv.2)) ∧ kvs.length ≤ 15 ∧ Q (.ref p) (upd H4 p (.dK (mergeK [] kvs)))) : tDisp [(t1, t2), (t3, t4)] σ H Q := h
def spGiven (K : PySem.W.Frag) : Sp := fun vs H Q _ => ∃ (d l a : Addr) (z : Str) (n : Nat) (rs : List (List Int)), vs = [.ref d, .ref a] ∧ DeckL d l H ∧ Sen K H n a z rs ∧ 1 ≤ n ∧ n ≤ 11 ∧ rs.length ≤ 200 ∧
  ∀ H', Gl d l H H' → Q (.bl true) H'
theorem ok_given {f fD fP fT fE fI fW : Addr} {fd fdD fdP fdT fdE fdI fdW : FuncData} (F : Fun K "_law_is_given" "_law_is_given" s_law_is_given f fd) (T : Bl mg)
    (G_law_draw : FnOk P w K mg base CX0 1 fD fdD ["deck", "many"] spDraw) (C_law_draw : Callee K mg "_law_draw" fD fdD ["deck", "many"])
    (G_law_pick : FnOk P w K mg base CX0 2 fP fdP ["deck", "items"] spPick) (C_law_pick : Callee K mg "_law_pick" fP fdP ["deck", "items"])
    (Gtrees : FnOk P w K mg base CX0 15 fT fdT ["sentence"] (spTrees0 K)) (Ctrees : Callee K mg "trees" fT fdT ["sentence"])
    (G_law_ends : FnOk P w K mg base CX0 14 fE fdE ["owners", "rows", "play"] (spEndsT K 13)) (C_law_ends : Callee K mg "_law_ends" fE fdE ["owners", "rows", "play"])
    (G_law_is_told : FnOk P w K mg base CX0 17 fI fdI ["deck", "own"] (spTold K)) (C_law_is_told : Callee K mg "_law_is_told" fI fdI ["deck", "own"])
    (G_law_wins : FnOk P w K mg base CX0 15 fW fdW ["own"] (spWinsB K)) (C_law_wins : Callee K mg "_law_wins" fW fdW ["own"]) :
    FnOk P w K mg base CX0 18 f fd ["deck", "own"] (spGiven K) := by
  refine F.ok sc_law_is_given (fun vs H Q E h => ?_) (fun cdv A outer s H vs Q E hr h => ?_)
  · obtain ⟨d, l, a, z, n, rs, rfl, _⟩ := h
    rfl
  · obtain ⟨d, l, a, z, n, rs, rfl, hD, sen, hn1, hn11, hl2, q⟩ := h
    obtain ⟨c, xs, s1, s2, dd, hz, hn, hrow, hl⟩ := id sen
    refine ⟨_, (pss_cons (ps_asg (pv 1) (pgk_tup (K := K) rfl rfl (pgs_cons (pg_name (i := 2) sc_law_is_given.nd rfl (Or.inl rfl)) (pgs_cons (pg_name (i := 3) sc_law_is_given.nd rfl (Or.inl rfl)) pgs_nil))))
 (pss_cons (ps_par (i := 4) (j := 5) rfl sc_law_is_given.nd rfl rfl (by decide) rfl rfl (pa_cons (pe_call G_law_pick (hr.mono (by decide)) (by rfl) C_law_pick.m C_law_pick.k C_law_pick.b .nil pass0 (pa_cons (pv 0) (pa_cons (pe_lst (pa_cons pe_str (pa_cons pe_str pa_nil))) pa_nil))) (pa_cons (pe_ix (ik_tup (K := K) rfl) (pe_call G_law_ends (hr.mono (by decide)) (by rfl) C_law_ends.m C_law_ends.k C_law_ends.b .nil pass0 (pa_cons (pv 2) (pa_cons (pv 3) (pa_cons (pe_tup pa_nil) pa_nil)))) pe_int (fun _ _ => rfl)) pa_nil)) (by rfl))
 (pss_cons (ps_set (i := 6) sc_law_is_given.nd rfl (Or.inl rfl) (pe_tup (pa_cons (pe_op op_addSt (pv 2) (pv 4)) (pa_cons (pv 3) pa_nil))))
 (pss_cons (ps_if (PW.pt (pw_or (pt_not (pt_val (pe_call G_law_is_told (hr.mono (by decide)) (by rfl) C_law_is_told.m C_law_is_told.k C_law_is_told.b .nil pass0 (pa_cons (pv 0) (pa_cons (pv 6) pa_nil))))) (pw_or (pt_cmpR op_ne (pe_call G_law_wins (hr.mono (by decide)) (by rfl) C_law_wins.m C_law_wins.k C_law_wins.b .nil pass0 (pa_cons (pv 6) pa_nil)) (pe_call G_law_wins (hr.mono (by decide)) (by rfl) C_law_wins.m C_law_wins.k C_law_wins.b .nil pass0 (pa_cons (pv 1) pa_nil)) (nomark _)) (pw_or1 (pt_cmpR op_ne (pe_cmpR op_gt (pe_call Gtrees (hr.mono (by decide)) (by rfl) Ctrees.m Ctrees.k Ctrees.b .nil pass0 (pa_cons (pv 6) pa_nil)) pe_int (nomark _)) (pe_cmpR op_gt (pv 5) pe_int (nomark _)) (nomark _)))))) (pss_one (ps_ret pe_bl)) pss_nil)
 (pss_cons (ps_set (i := 7) sc_law_is_given.nd rfl (Or.inl rfl) (pe_call G_law_draw (hr.mono (by decide)) (by rfl) C_law_draw.m C_law_draw.k C_law_draw.b .nil pass0 (pa_cons (pv 0) (pa_cons (pe_callB c_lenS (by rfl) T.len (by decide +kernel) (pa_cons (pv 2) pa_nil)) pa_nil))))
 (pss_cons (ps_set (i := 8) sc_law_is_given.nd rfl (Or.inl rfl) (pe_tup (pa_cons (pe_op op_addSt (pe_op op_addSt (pe_slice sl_str (pv 2) po_none (po_some (pv 7))) pe_str) (pe_slice sl_str (pv 2) (po_some (pe_op op_add (pv 7) pe_int)) po_none)) (pa_cons (pv 3) pa_nil))))
 (pss_cons (ps_if (PW.pt (pw_or (pt_not (pt_val (pe_call G_law_is_told (hr.mono (by decide)) (by rfl) C_law_is_told.m C_law_is_told.k C_law_is_told.b .nil pass0 (pa_cons (pv 0) (pa_cons (pv 8) pa_nil))))) (pw_or1 (PW.pt (pw_and (pt_val (pe_call G_law_wins (hr.mono (by decide)) (by rfl) C_law_wins.m C_law_wins.k C_law_wins.b .nil pass0 (pa_cons (pv 1) pa_nil))) (pw_and1 (pt_not (pt_val (pe_call G_law_wins (hr.mono (by decide)) (by rfl) C_law_wins.m C_law_wins.k C_law_wins.b .nil pass0 (pa_cons (pv 8) pa_nil)))))))))) (pss_one (ps_ret pe_bl)) pss_nil)
 (pss_cons (ps_if (PW.pt (pw_and (pt_cmpR op_lt (pe_op op_add (pv 7) pe_int) (pe_callB c_lenS (by rfl) T.len (by decide +kernel) (pa_cons (pv 2) pa_nil)) (nomark _)) (pw_and1 (pt_cmpR op_eq (pe_slice sl_str (pv 2) (po_some (pv 7)) (po_some (pe_op op_add (pv 7) pe_int))) pe_str (nomark _))))) (pss_cons (ps_set (i := 9) sc_law_is_given.nd rfl (Or.inr rfl) (pe_disp (pps_cons (pe_op op_add (pv 7) pe_int) (pe_op op_add (pv 7) pe_int) (pps_cons (pe_op op_add (pv 7) pe_int) (pe_op op_add (pv 7) pe_int) pps_nil)) (by rfl) (by rfl) (fun z => by cases z) (by decide)))
 (pss_cons (ps_set (i := 10) sc_law_is_given.nd rfl (Or.inl rfl) (pe_lst pa_nil))
 (pss_cons (ps_for PassesOwn.never rfl (ik_tupI (K := K) rfl (pv 3)) (pg_name (i := 11) sc_law_is_given.nd rfl (Or.inl rfl)) (pss_cons (ps_setLc (i := 12) (own := [("x", 14)]) (g := gName 14) rfl sc_law_is_given.nd rfl rfl (sw_true rfl rfl rfl (by decide +kernel)) (ik_tupI (K := K) rfl (pv 11)) (blkOk_by (own := [("x", 14)]) (N := ["deck", "own", "owners", "rows", "sign", "ways", "longer", "at", "freed", "names", "swapped", "row", "fresh", "later", "x", "letter", "is_yes"]) (sc := defScope s_law_is_given) (by decide +kernel)) (fun _ _ _ _ _ => (pg_name (i := 14) sc_law_is_given.nd rfl (Or.inl rfl))) (fun _ _ _ _ _ => pts_nil) (fun _ _ _ _ _ => (pe_tup (pa_cons (pe_dget2 (hu_of hr) (pv 9) (pe_callB c_abs (by rfl) T.abs (by decide +kernel) (pa_cons (pv 14) pa_nil)) (pe_callB c_abs (by rfl) T.abs (by decide +kernel) (pa_cons (pv 14) pa_nil)) ⟨by rfl, by rfl, by rfl, by rfl⟩) (pa_cons (pe_cmpR op_gt (pv 14) pe_int (nomark _)) pa_nil)))))
 (pss_one (ps_expr (pe_bm PySem.F.plainAttrs_list PySem.F.slot_list_append PySem.F.type_list_append mt_append (pv 10) (pa_cons (pe_callTy (c_tuple (K := K) rfl) (by rfl) T.tuple (by decide +kernel) (pa_cons (pe_lc (own := [("letter", 15), ("is_yes", 16)]) (g := gTup K 2 (gCons (gName 15) (gCons (gName 16) gNil))) rfl sc_law_is_given.nd (ik_listI (K := K) rfl (pe_callB (cr_sortDt (K := K) rfl hr.units) (by rfl) T.sorted (by decide +kernel) (pa_cons (pv 12) pa_nil))) (blkOk_by (own := [("letter", 15), ("is_yes", 16)]) (N := ["deck", "own", "owners", "rows", "sign", "ways", "longer", "at", "freed", "names", "swapped", "row", "fresh", "later", "x", "letter", "is_yes"]) (sc := defScope s_law_is_given) (by decide +kernel)) (fun _ _ _ _ _ => (pgk_tup (K := K) rfl rfl (pgs_cons (pg_name (i := 15) sc_law_is_given.nd rfl (Or.inl rfl)) (pgs_cons (pg_name (i := 16) sc_law_is_given.nd rfl (Or.inl rfl)) pgs_nil)))) (fun _ _ _ _ _ => pts_nil) (fun _ _ _ _ _ => (pe_ifExp (pt_val (pv 16)) (pv 15) (pe_un un_neg (pv 15))))) pa_nil)) pa_nil))))))
 (pss_cons (ps_set (i := 13) sc_law_is_given.nd rfl (Or.inl rfl) (pe_tup (pa_cons (pe_op op_addSt (pe_op op_addSt (pe_slice sl_str (pv 2) po_none (po_some (pv 7))) pe_str) (pe_slice sl_str (pv 2) (po_some (pe_op op_add (pv 7) pe_int)) po_none)) (pa_cons (pe_callTy (c_tuple (K := K) rfl) (by rfl) T.tuple (by decide +kernel) (pa_cons (pv 10) pa_nil)) pa_nil))))
 (pss_one (ps_ret (pe_and (pe_call G_law_is_told (hr.mono (by decide)) (by rfl) C_law_is_told.m C_law_is_told.k C_law_is_told.b .nil pass0 (pa_cons (pv 0) (pa_cons (pv 13) pa_nil))) (pe_one (pe_or (pe_not (pe_call G_law_wins (hr.mono (by decide)) (by rfl) C_law_wins.m C_law_wins.k C_law_wins.b .nil pass0 (pa_cons (pv 1) pa_nil))) (pe_one (pe_call G_law_wins (hr.mono (by decide)) (by rfl) C_law_wins.m C_law_wins.k C_law_wins.b .nil pass0 (pa_cons (pv 13) pa_nil)))))))))))) pss_nil)
 (pss_one (ps_ret pe_bl)))))))))), ?_⟩
    refine rd_start (σ' := [some (.ref d), some (.ref a), none, none, none, none, none, none, none, none, none, none, none, none, none, none, none]) rfl ?_
    walk_at "rvs"
    refine rd_gtup2 (x := .str z) (y := .ref c) s1 rfl (σ' := [some (.ref d), some (.ref a), some (.str z), some (.ref c), none, none, none, none, none, none, none, none, none, none, none, none, none]) rfl ?_
    walk_at "rvs"
    refine ⟨(by show 2 ≤ sizeLine; decide), fun b hb => ?_⟩
    have g1 := Gl.new (o := .lst [V.str "e", V.str "s"]) hD hb
    refine ⟨d, l, b, _, rfl, g1.dk, upd_same, (hD.off hb).1, (hD.off hb).2, by decide, by decide, fun y H2 g2 hy => ?_⟩
    obtain ⟨sn, rfl, hsn⟩ : ∃ sn : Str, y = .str sn ∧ OwnS 1 sn := by
      rcases List.mem_cons.mp hy with rfl | hy
      · exact ⟨_, rfl, own_e⟩
      · rw [List.mem_singleton.mp hy]
        exact ⟨_, rfl, own_s⟩
    have g02 := g1.trans g2
    have hD2 := g02.dk
    have s22 := g02.tup hD s2
    have dd2 := Gl.rows g02 hD dd
    have sen2 := sen.gl g02 hD
    clear g1 g2 hb hy s1 s2 dd
    walk_at "rvs"
    refine ⟨Nat.zero_le _, fun t4 h4 => ?_⟩
    have e4 := Evl.Ex.new (o := .tup []) h4
    walk_at "rvs"
    refine ⟨z, c, t4, n, xs, rs, [], rfl, hz, by omega, Evl.ex_t e4 s22, dpAll_ex e4 _ _ dd2, hrow, by omega, SqT.of upd_same, fun i x e => by simp at e, Nat.zero_le _, by show n - 0 < 13; omega, fun v H3 e3 hv => ?_⟩
    obtain ⟨qa, cnt, rfl, hc, sq⟩ := hv
    have hcw : cnt = wayF n z rs [] := hc
    rw [hcw] at sq
    have e34 := e4.trans e3
    walk_at "rvs"
    refine rd_ixT sq rfl ?_
    have g3 := g02.trans (Gl.ex e34 hD2)
    have hD3 := g3.dk
    have s23 := Evl.ex_t e34 s22
    have dd3 := dpAll_ex e34 _ _ dd2
    have sen3 := sen2.ex e34
    clear e34 e3 e4 h4 hc hcw sq s22 dd2 sen2
    walk_at "rvs"
    refine rd_addSt (by rw [hz.1, hsn.1, sizeLine_eq]; omega) ?_
    walk_at "rvs"
    refine ⟨(by show 2 ≤ sizeLine; decide), fun o1 ho1 => ?_⟩
    have e1 := Evl.Ex.new (o := .tup [V.str (z ++ sn), .ref c]) ho1
    have hrow1 : ∀ r ∈ rs, Row (n + 1) r := fun r h => ⟨(hrow r h).1, fun x hx => ⟨((hrow r h).2 x hx).1, Nat.le_succ_of_le ((hrow r h).2 x hx).2⟩⟩
    have senL : Sen K (upd H3 o1 (.tup [V.str (z ++ sn), .ref c])) (n + 1) o1 (z ++ sn) rs := ⟨c, xs, SqT.of upd_same, Evl.ex_t e1 s23, dpAll_ex e1 _ _ dd3, own_add hz hsn, by omega, hrow1, hl⟩
    have g4 := g3.trans (Gl.ex e1 hD3)
    have hD4 := g4.dk
    have s24 := Evl.ex_t e1 s23
    have dd4 := dpAll_ex e1 _ _ dd3
    have sen4 := sen3.ex e1
    generalize upd H3 o1 (.tup [V.str (z ++ sn), .ref c]) = H4 at senL g4 hD4 s24 dd4 sen4 ⊢
    clear e1 ho1 s23 dd3 sen3
    walk_at "rvs"
    dsimp only
    refine rd_if ?_
    walk_at "rvs"
    refine ⟨d, l, o1, z ++ sn, n + 1, rs, rfl, hD4, senL, by omega, by omega, fun H5 g5 => ?_⟩
    have senL5 := senL.gl g5 hD4
    have sen5 := sen4.gl g5 hD4
    walk_at "rvs"
    refine (if_neg Bool.false_ne_true).mpr ?_
    walk_at "rvs"
    refine ⟨o1, z ++ sn, n + 1, rs, rfl, senL5, by omega, fun H6 e6 => ?_⟩
    walk_at "rvs"
    refine ⟨a, z, n, rs, rfl, sen5.ex e6, by omega, fun H7 e7 => ?_⟩
    have hlong : winF (n + 1) (z ++ sn) rs [] = winF n z rs [] := long_same hrow (fun x h1 h2 => held_long hz x h1 h2) n [] (by simp)
    rw [hlong]
    walk_at "rvs"
    refine rd_iten (fun c => absurd rfl c) (fun _ => ?_)
    walk_at "rvs"
    refine ⟨o1, z ++ sn, n + 1, rs, rfl, senL5.ex (e6.trans e7), by omega, fun H8 e8 => ?_⟩
    have hway : decide ((0 : Int) < ((wayF (n + 1) (z ++ sn) rs [] : Nat) : Int)) = decide ((0 : Int) < ((wayF n z rs [] : Nat) : Int)) := by
      have w1 := winF_way (z := z ++ sn) (p := []) hrow1 (Nat.zero_le _)
      have w2 := winF_way (z := z) (p := []) hrow (Nat.zero_le _)
      rw [w1, w2] at hlong
      have h3 := decide_eq_decide.mp hlong
      exact decide_eq_decide.mpr (by omega)
    walk_at "rvs"
    rw [hway]
    refine rd_iten (fun c => absurd rfl c) (fun _ => ?_)
    have e68 := (e6.trans e7).trans e8
    have s28 := Evl.ex_t e68 (g5.tup hD4 s24)
    have dd8 := dpAll_ex e68 _ _ (Gl.rows g5 hD4 dd4)
    have sen8 := sen5.ex e68
    have g8 := (g4.trans g5).trans (Gl.ex e68 g5.dk)
    have hD8 := g8.dk
    clear e68 e8 e7 e6 hway hlong senL5 sen5 g5 g4 hD4 s24 dd4 sen4 senL
    walk_at "rvs"
    refine rd_lenS (by rw [hz.1, sizeLine_eq]; omega) ?_
    rw [hz.1]
    walk_at "rvs"
    refine ⟨d, l, (n : Int), rfl, hD8, by omega, by omega, fun r H9 g9 r0 r1 => ?_⟩
    obtain ⟨k, rfl, kn⟩ : ∃ k : Nat, r = (k : Int) ∧ k < n := ⟨r.toNat, by omega, by omega⟩
    have hD9 := g9.dk
    have s29 := g9.tup hD8 s28
    have dd9 := Gl.rows g9 hD8 dd8
    have sen9 := sen8.gl g9 hD8
    have g09 := g8.trans g9
    clear g8 g9 s28 dd8 sen8
    have ztk := own_cut (n := k) hz (by omega)
    have zdr := own_drop (k := k + 1) hz (by omega)
    have ek : (k : Int) + 1 = ((k + 1 : Nat) : Int) := by omega
    walk_at "rvs"
    refine rd_slS (by rw [hz.1, sizeLine_eq]; omega) ?_
    walk_at "rvs"
    refine rd_addSt (by rw [ztk.1, sizeLine_eq]; show k + 1 ≤ _; omega) ?_
    walk_at "rvs"
    rw [ek]
    refine rd_slS (by rw [hz.1, sizeLine_eq]; omega) ?_
    walk_at "rvs"
    refine rd_addSt (by rw [(own_add ztk own_s).1, zdr.1, sizeLine_eq]; omega) ?_
    walk_at "rvs"
    have hput : cutS z none (some (k : Int)) ++ Str.ofString "s" ++ cutS z (some ((k + 1 : Nat) : Int)) none = putS z "s" k (k + 1) := rfl
    rw [hput]
    refine ⟨(by show 2 ≤ sizeLine; decide), fun o3 ho3 => ?_⟩
    have e1 := Evl.Ex.new (o := .tup [V.str (putS z "s" k (k + 1)), .ref c]) ho3
    have hzf : OwnS n (putS z "s" k (k + 1)) := own_put (w := "s") hz own_s (by show k + 1 ≤ n; omega)
    have senF : Sen K (upd H9 o3 (.tup [V.str (putS z "s" k (k + 1)), .ref c])) n o3 (putS z "s" k (k + 1)) rs := ⟨c, xs, SqT.of upd_same, Evl.ex_t e1 s29, dpAll_ex e1 _ _ dd9, hzf, by omega, hrow, hl⟩
    have g4 := g09.trans (Gl.ex e1 hD9)
    have hD4 := g4.dk
    have s24 := Evl.ex_t e1 s29
    have dd4 := dpAll_ex e1 _ _ dd9
    have sen4 := sen9.ex e1
    generalize upd H9 o3 (.tup [V.str (putS z "s" k (k + 1)), .ref c]) = H4 at senF g4 hD4 s24 dd4 sen4 ⊢
    clear e1 ho3 s29 dd9 sen9 g09 hput
    walk_at "rvs"
    dsimp only
    refine rd_ifI (fun σ' H6 => σ' = [some (.ref d), some (.ref a), some (.str z), some (.ref c), some (.str sn), some (.int ((wayF n z rs [] : Nat) : Int)), some (.ref o1), some (.int (k : Int)), some (.ref o3), none, none, none, none, none, none, none, none] ∧ Gl d l H4 H6) (fun N kN => ?_) fun σ' H6 hI => ?_
    · refine rd_if ?_
      walk_at "rvs"
      refine ⟨d, l, o3, putS z "s" k (k + 1), n, rs, rfl, hD4, senF, by omega, by omega, fun H5 g5 => ?_⟩
      have senF5 := senF.gl g5 hD4
      have sen5 := sen4.gl g5 hD4
      walk_at "rvs"
      refine (if_neg Bool.false_ne_true).mpr ?_
      walk_at "rvs"
      refine ⟨a, z, n, rs, rfl, sen5, by omega, fun H6 e6 => ?_⟩
      walk_at "rvs"
      cases hw : winF n z rs [] with
      | false =>
        refine (if_neg Bool.false_ne_true).mpr ?_
        refine (if_neg Bool.false_ne_true).mpr ?_
        walk_at "rvs"
        exact kN _ _ ⟨rfl, g5.trans (Gl.ex e6 g5.dk)⟩
      | true =>
        refine (if_pos rfl).mpr ?_
        walk_at "rvs"
        refine ⟨o3, putS z "s" k (k + 1), n, rs, rfl, senF5.ex e6, by omega, fun H7 e7 => ?_⟩
        have hw2 : winF n (putS z "s" k (k + 1)) rs [] = true := win_mono hrow hrow (fun x x1 xn hh => by
          have h2 : heldBy (putS z "s" k (k + 1)) "s" (x : Int) = if x ≤ k then heldBy z "s" (x : Int) else if x ≤ k + 1 then decide ((Str.ofString "s").cps.toList.getD (x - 1 - k) 0 = 115) else heldBy z "s" (x : Int) := held_put (w := "s") hz (by show k + 1 ≤ n; omega) x x1
          rw [h2, hh]
          split
          · rfl
          · split
            · next c1 c2 =>
              have : x - 1 - k = 0 := by omega
              rw [this]
              decide
            · rfl) (fun p _ _ h => h) n [] (fun i x e => by simp at e) (by simp) hw
        rw [hw2]
        walk_at "rvs"
        refine (if_neg Bool.false_ne_true).mpr ?_
        walk_at "rvs"
        exact kN _ _ ⟨rfl, g5.trans (Gl.ex (e6.trans e7) g5.dk)⟩
    obtain ⟨rfl, g6⟩ := hI
    have hD6 := g6.dk
    have s26 := g6.tup hD4 s24
    have dd6 := Gl.rows g6 hD4 dd4
    have sen6 := sen4.gl g6 hD4
    have g06 := g4.trans g6
    clear g6 s24 dd4 sen4 senF g4 hD4
    walk_at "rvs"
    dsimp only
    refine rd_if ?_
    walk_at "rvs"
    refine rd_lenS (by rw [hz.1, sizeLine_eq]; omega) ?_
    rw [hz.1]
    walk_at "rvs"
    refine rd_ite (fun c1 => ?_) (fun c1 => ?_)
    · have ek2 : (k : Int) + 2 = ((k + 2 : Nat) : Int) := by omega
      walk_at "rvs"
      rw [ek2]
      refine rd_slS (by rw [hz.1, sizeLine_eq]; omega) ?_
      walk_at "rvs"
      refine rd_ite (fun c2 => ?_) (fun c2 => ?_)
      · have hse := se_at hz (by omega) (V.str.inj c2)
        walk_at "rvs"
        refine rd_disp2 fun m hm => ?_
        have em1 := Evl.Ex.new (o := .dK []) hm
        walk_at "rvs"
        refine ⟨upd_same, [(Sum.inl ((k : Int) + 1), .int ((k : Int) + 2)), (Sum.inl ((k : Int) + 2), .int ((k : Int) + 1))], rfl, Nat.le_of_ble_eq_true rfl, ?_⟩
        rw [merge2 (by omega)]
        have ekv : [((Sum.inl ((k : Int) + 1) : Key), V.int ((k : Int) + 2)), (Sum.inl ((k : Int) + 2), .int ((k : Int) + 1))] = [((Sum.inl ((k + 1 : Nat) : Int) : Key), V.int (((k + 1 : Nat) : Int) + 1)), (Sum.inl (((k + 1 : Nat) : Int) + 1), .int ((k + 1 : Nat) : Int))] := by
          rw [show (k : Int) + 2 = ((k + 1 : Nat) : Int) + 1 by omega, ek]
        rw [ekv]
        have em := Evl.Ex.mut (o := .dK [((Sum.inl ((k + 1 : Nat) : Int) : Key), V.int (((k + 1 : Nat) : Int) + 1)), (Sum.inl (((k + 1 : Nat) : Int) + 1), .int ((k + 1 : Nat) : Int))]) em1 hm
        have hm1 : (upd (upd H6 m (.dK [])) m (.dK [((Sum.inl ((k + 1 : Nat) : Int) : Key), V.int (((k + 1 : Nat) : Int) + 1)), (Sum.inl (((k + 1 : Nat) : Int) + 1), .int ((k + 1 : Nat) : Int))])) m = some (.dK [((Sum.inl ((k + 1 : Nat) : Int) : Key), V.int (((k + 1 : Nat) : Int) + 1)), (Sum.inl (((k + 1 : Nat) : Int) + 1), .int ((k + 1 : Nat) : Int))]) := upd_same
        have g7 := Gl.ex em hD6
        have s27 := Evl.ex_t em s26
        have dd7 := dpAll_ex em _ _ dd6
        have sen7 := sen6.ex em
        have g07 := g06.trans g7
        have hmd := hD6.off hm
        generalize upd (upd H6 m (.dK [])) m (.dK [((Sum.inl ((k + 1 : Nat) : Int) : Key), V.int (((k + 1 : Nat) : Int) + 1)), (Sum.inl (((k + 1 : Nat) : Int) + 1), .int ((k + 1 : Nat) : Int))]) = H7 at hm1 g7 s27 dd7 sen7 g07 ⊢
        have hD7 := g7.dk
        clear em em1 hm g7 s26 dd6 sen6 g06 hD6
        walk_at "rvs"
        refine ⟨Nat.zero_le _, fun L hL => ?_⟩
        have lx : xs.length = rs.length := by rw [dpAll_len dd7, List.length_map]
        walk_at "rvs"
        refine rd_ref (Evl.ex_t (Evl.Ex.new hL) s27) ?_
        refine fr_tup (xs := xs) (fun i σ' H' => ∃ x11 x12 : Option V, σ' = [some (.ref d), some (.ref a), some (.str z), some (.ref c), some (.str sn), some (.int ((wayF n z rs [] : Nat) : Int)), some (.ref o1), some (.int (k : Int)), some (.ref o3), some (.ref m), some (.ref L), x11, x12, none, none, none, none] ∧ Gl d l H7 H' ∧ ∃ ys rs', H' L = some (.lst ys) ∧ DpAll K H' ys (rs'.map dR) ∧ RenT n (k + 1) rs rs' i)
          ⟨_, _, rfl, Gl.new hD7 hL, [], [], upd_same, .nil, RenT.nil⟩ (fun i σ' H' _ ⟨_, _, _, g, _⟩ => g.tup hD7 s27) (fun i x σ' H8 hi hP => ?_) fun σ' H8 hP => ?_
        · obtain ⟨x11, x12, rfl, g8, ys, rs', hys, dys, ren⟩ := hP
          have hD8 := g8.dk
          obtain ⟨dx, hdx, hDp⟩ := dpAll_get (Gl.rows g8 hD7 dd7) hi
          rw [List.getElem?_map] at hdx
          obtain ⟨r, hrr, rfl⟩ := Option.map_eq_some_iff.mp hdx
          obtain ⟨b1, rfl, sb⟩ := dp_row hDp
          have rrow := hrow r (List.mem_of_getElem? hrr)
          have rl := rrow.length
          have hm8 := g8.kp m _ hmd.1 hmd.2 hm1
          have hil := (List.getElem?_eq_some_iff.mp hi).1
          refine rd_start (σ' := [some (.ref d), some (.ref a), some (.str z), some (.ref c), some (.str sn), some (.int ((wayF n z rs [] : Nat) : Int)), some (.ref o1), some (.int (k : Int)), some (.ref o3), some (.ref m), some (.ref L), some (.ref b1), x12, none, none, none, none]) rfl ?_
          walk_at "rvs"
          refine rd_ref sb ?_
          refine lc_exT (fun i acc H => Prs H acc ((r.take i).map fun x => (((sw (k + 1) x).natAbs : Int), V.bl (decide (0 < x))))) (fun i acc H1 D ys u e h => h.mut e) (σx := fun x => [some (.ref d), some (.ref a), some (.str z), some (.ref c), some (.str sn), some (.int ((wayF n z rs [] : Nat) : Int)), some (.ref o1), some (.int (k : Int)), some (.ref o3), some (.ref m), some (.ref L), some (.ref b1), x12, none, some x, none, none])
            sb (by rw [List.length_map]; omega) (fun _ => rfl) (fun _ => rfl) (fun H' _ => Prs.nil) (fun j x hj acc H' N e hP kN => ?_) fun D2 acc H9 e9 _ hacc hP => ?_
          · rw [List.getElem?_map] at hj
            obtain ⟨t, ht, rfl⟩ := Option.map_eq_some_iff.mp hj
            have ht1 := (rrow.2 t (List.mem_of_getElem? ht)).1
            walk_at "rvs"
            refine ⟨m, rfl, .inl ⟨_, .inl (e _ _ hm8)⟩, ?_⟩
            walk_at "rvs"
            refine ⟨_, DGet.k (k := Sum.inl (t.natAbs : Int)) (e _ _ hm8), ?_⟩
            rw [get_sw (by omega) ht1]
            walk_at "rvs"
            refine ⟨(by show 2 ≤ sizeLine; decide), fun b hb => ?_⟩
            have htk : (r.take (j + 1)).map (fun x => (((sw (k + 1) x).natAbs : Int), V.bl (decide (0 < x)))) = (r.take j).map (fun x => (((sw (k + 1) x).natAbs : Int), V.bl (decide (0 < x)))) ++ [(((sw (k + 1) t).natAbs : Int), V.bl (decide (0 < t)))] := by
              rw [List.take_add_one, ht, List.map_append] <;> rfl
            refine kN _ _ (Evl.Ex.new hb) ?_
            rw [htk]
            exact (hP.ex (Evl.Ex.new hb)).snoc upd_same
          rw [List.length_map, List.take_length] at hP
          walk_at "rvs"
          refine rd_tyL (e9 _ _ hys) ?_
          walk_at "rvs"
          refine rd_sortPrs datI (SqL.of hacc) hP (fun p hp => ?_) (fun p hp q hq => ?_) (fun p hp => ?_) fun us qs b pm so hu hb => ?_
          · obtain ⟨x, _, rfl⟩ := List.mem_map.mp hp
            exact .bl _
          · obtain ⟨x, _, rfl⟩ := List.mem_map.mp hp
            obtain ⟨y, _, rfl⟩ := List.mem_map.mp hq
            rfl
          · obtain ⟨x, _, rfl⟩ := List.mem_map.mp hp
            exact Nat.zero_le _
          obtain ⟨ts, pts, rfl⟩ := perm_map_back _ pm
          have so2 : ts.Pairwise fun x y => ((sw (k + 1) x).natAbs : Int) ≤ ((sw (k + 1) y).natAbs : Int) := by
            rw [List.pairwise_map] at so
            exact so
          have trow : Row n (ts.map (sw (k + 1))) := sw_row (by omega) (by omega) rrow pts so2
          have e10 := e9.trans (Evl.Ex.new (o := .lst us) hb)
          have hu10 := hu.ex (Evl.Ex.new (o := .lst us) hb)
          have hb10 : (upd H9 b (.lst us)) b = some (.lst us) := upd_same
          have lu : us.length = ts.length := by rw [hu.1, List.length_map]
          have tl : ts.length ≤ n := by rw [pts.length_eq]; exact rl
          generalize upd H9 b (.lst us) = H10 at hb10 hu10 e10 ⊢
          clear hu hb hacc hP e9 so pm
          walk_at "rvs"
          refine rd_refL (SqL.of hb10) ?_
          refine lc_prL (px := fun i => .int ((sw (k + 1) (ts.getD i 0)).natAbs : Int)) (py := fun i => .bl (decide (0 < ts.getD i 0))) rfl (SqL.of hb10) (by omega) (fun i hi => ?_) (σx := fun y x => [some (.ref d), some (.ref a), some (.str z), some (.ref c), some (.str sn), some (.int ((wayF n z rs [] : Nat) : Int)), some (.ref o1), some (.int (k : Int)), some (.ref o3), some (.ref m), some (.ref L), some (.ref b1), some (.ref D2), none, none, some y, some x]) (fun _ _ => rfl) (fun _ _ => rfl)
            (f := fun _ => true) (g := fun i => .int (sw (k + 1) (ts.getD i 0))) (fun i hi H' N S e kN kS => ?_) fun D3 H11 e11 eD3 hD3 => ?_
          · have hit : ts[i]? = some (ts[i]'(by omega)) := List.getElem?_eq_getElem _
            obtain ⟨bb, h2, h3⟩ := hu10.2 i (((sw (k + 1) (ts[i]'(by omega))).natAbs : Int), V.bl (decide (0 < (ts[i]'(by omega))))) (by rw [List.getElem?_map, hit] <;> rfl)
            have hg : ts.getD i 0 = ts[i]'(by omega) := by rw [List.getD_eq_getElem?_getD, hit] <;> rfl
            exact ⟨bb, h2, by rw [hg]; exact SqT.of h3⟩
          · have hit : ts[i]? = some (ts[i]'(by omega)) := List.getElem?_eq_getElem _
            have hg : ts.getD i 0 = ts[i]'(by omega) := by rw [List.getD_eq_getElem?_getD, hit] <;> rfl
            have hmem : ts.getD i 0 ∈ r := pts.mem_iff.mp (by rw [hg]; exact List.getElem_mem _)
            have hsw := (sw_abs (k := k + 1) (by omega) (rrow.2 _ hmem).1).2
            walk_at "rds"
            refine rd_ite (fun c3 => ?_) (fun c3 => ?_)
            · walk_at "rds"
              have e4 : ((sw (k + 1) (ts.getD i 0)).natAbs : Int) = sw (k + 1) (ts.getD i 0) := by have := hsw.mpr c3; omega
              show N (V.int ((sw (k + 1) (ts.getD i 0)).natAbs : Int)) H'
              rw [e4]
              exact kN rfl _ (Evl.Ex.refl _)
            · walk_at "rds"
              have e4 : -((sw (k + 1) (ts.getD i 0)).natAbs : Int) = sw (k + 1) (ts.getD i 0) := by
                have : ¬ 0 < sw (k + 1) (ts.getD i 0) := fun h => c3 (hsw.mp h)
                omega
              show N (V.int (-((sw (k + 1) (ts.getD i 0)).natAbs : Int))) H'
              rw [e4]
              exact kN rfl _ (Evl.Ex.refl _)
          have hts : ((List.range us.length).filter fun _ => true).map (fun i => V.int (sw (k + 1) (ts.getD i 0))) = (ts.map (sw (k + 1))).map V.int := by
            rw [List.filter_eq_self.mpr (fun _ _ => rfl), lu]
            refine List.ext_getElem (by rw [List.length_map, List.length_range, List.length_map, List.length_map]) fun i a1 a2 => ?_
            rw [List.getElem_map, List.getElem_range, List.getElem_map, List.getElem_map, List.getD_eq_getElem?_getD, List.getElem?_eq_getElem (by rw [List.length_map, List.length_map] at a2; exact a2)] <;> rfl
          rw [hts] at hD3
          walk_at "rvs"
          refine rd_tupL (SqL.of hD3) fun o ho => ?_
          have e12 := (e10.trans e11).trans (Evl.Ex.new (o := .tup ((ts.map (sw (k + 1))).map V.int)) ho)
          have so12 : SqT K (upd H11 o (.tup ((ts.map (sw (k + 1))).map V.int))) o ((ts.map (sw (k + 1))).map V.int) := SqT.of upd_same
          have hys12 := e12 _ _ hys
          have dys12 := dpAll_ex e12 _ _ dys
          have g12 := g8.trans (Gl.ex e12 hD8)
          generalize upd H11 o (.tup ((ts.map (sw (k + 1))).map V.int)) = H12 at so12 hys12 dys12 g12 ⊢
          clear e12 ho hD3 e11 eD3 e10 hu10 hb10 hys dys
          have lys : ys.length = i := by rw [dpAll_len dys12, List.length_map, ren.1]
          walk_at "rvs"
          refine rd_append hys12 (by omega) ?_
          walk_at "rvs"
          refine ⟨_, _, rfl, Gl.mut g12 hD7 hL, ys ++ [.ref o], rs' ++ [ts.map (sw (k + 1))], upd_same, rows_upd hys12 (rows_app dys12 (dp_of_row so12)), ren.snoc hrr pts trow⟩
        · obtain ⟨x11, x12, rfl, g8, ys, rs', hys, dys, ren⟩ := hP
          rw [lx] at ren
          have hD8 := g8.dk
          have s28 := g8.tup hD7 s27
          have sen8 := sen7.gl g8 hD7
          have g08 := g07.trans g8
          clear g8 s27 dd7 sen7 g07 hD7 hm1
          have zdr2 := own_drop (k := k + 2) hz (by omega)
          have own_es : OwnS 2 "es" := ⟨rfl, by decide⟩
          walk_at "rvs"
          refine rd_slS (by rw [hz.1, sizeLine_eq]; omega) ?_
          walk_at "rvs"
          refine rd_addSt (by rw [ztk.1, sizeLine_eq]; show k + 2 ≤ _; omega) ?_
          walk_at "rvs"
          rw [ek2]
          refine rd_slS (by rw [hz.1, sizeLine_eq]; omega) ?_
          walk_at "rvs"
          refine rd_addSt (by rw [(own_add ztk own_es).1, zdr2.1, sizeLine_eq]; omega) ?_
          walk_at "rvs"
          have hput : cutS z none (some (k : Int)) ++ Str.ofString "es" ++ cutS z (some ((k + 2 : Nat) : Int)) none = putS z "es" k (k + 2) := rfl
          rw [hput]
          refine rd_tupL (SqL.of hys) fun o ho => ?_
          have e1 := Evl.Ex.new (o := .tup ys) ho
          walk_at "rvs"
          refine ⟨(by show 2 ≤ sizeLine; decide), fun o5 ho5 => ?_⟩
          have e2 := e1.trans (Evl.Ex.new (o := .tup [V.str (putS z "es" k (k + 2)), .ref o]) ho5)
          have hzl : OwnS n (putS z "es" k (k + 2)) := own_put (w := "es") hz own_es (by show k + 2 ≤ n; omega)
          have senB : Sen K (upd (upd H8 o (.tup ys)) o5 (.tup [V.str (putS z "es" k (k + 2)), .ref o])) n o5 (putS z "es" k (k + 2)) rs' := ⟨o, ys, SqT.of upd_same, Evl.ex_t (Evl.Ex.new ho5) (SqT.of upd_same), dpAll_ex e2 _ _ dys, hzl, by omega, ren.2.2, by rw [ren.1]; exact hl⟩
          have g9 := g08.trans (Gl.ex e2 hD8)
          have sen9 := sen8.ex e2
          generalize upd (upd H8 o (.tup ys)) o5 (.tup [V.str (putS z "es" k (k + 2)), .ref o]) = H9 at senB g9 sen9 ⊢
          have hD9 := g9.dk
          clear e2 ho5 e1 ho g08 sen8 s28 hD8 hys dys
          walk_at "rvs"
          refine ⟨d, l, o5, putS z "es" k (k + 2), n, rs', rfl, hD9, senB, by omega, by omega, fun H10 g10 => ?_⟩
          have senB10 := senB.gl g10 hD9
          have sen10 := sen9.gl g10 hD9
          walk_at "rvs"
          refine ⟨a, z, n, rs, rfl, sen10, by omega, fun H11 e11 => ?_⟩
          walk_at "rvs"
          cases hw : winF n z rs [] with
          | false =>
            refine (if_pos rfl).mpr ?_
            exact q _ ((g9.trans g10).trans (Gl.ex e11 g10.dk))
          | true =>
            refine (if_neg (by decide)).mpr ?_
            walk_at "rvs"
            refine ⟨o5, putS z "es" k (k + 2), n, rs', rfl, senB10.ex e11, by omega, fun H12 e12 => ?_⟩
            have hp : ∀ x : Nat, 1 ≤ x → heldBy (putS z "es" k (k + 2)) "s" (x : Int) = if x ≤ k then heldBy z "s" (x : Int) else if x ≤ k + 2 then decide ((Str.ofString "es").cps.toList.getD (x - 1 - k) 0 = 115) else heldBy z "s" (x : Int) := fun x x1 => held_put (w := "es") hz (by show k + 2 ≤ n; omega) x x1
            have hw2 : winF n (putS z "es" k (k + 2)) rs' [] = true := swap_win hrow ren.2.2 ren.ren (by omega) (by omega) (fun x x1 xn c5 c6 => by
              rw [hp x x1]
              split
              · rfl
              · split
                · exfalso
                  omega
                · rfl) hse.1 hse.2 (by rw [hp (k + 1) (by omega), if_neg (by omega : ¬ k + 1 ≤ k), if_pos (by omega : k + 1 ≤ k + 2), show k + 1 - 1 - k = 0 by omega]; decide) (by rw [hp (k + 1 + 1) (by omega), if_neg (by omega : ¬ k + 1 + 1 ≤ k), if_pos (by omega : k + 1 + 1 ≤ k + 2), show k + 1 + 1 - 1 - k = 1 by omega]; decide) k [] (by show 0 + 1 + k = k + 1; omega) hw
            rw [hw2]
            walk_at "rvs"
            exact q _ ((g9.trans g10).trans (Gl.ex (e11.trans e12) g10.dk))
      · walk_at "rvs"
        exact q _ g06
    · walk_at "rvs"
      exact q _ g06
end
end KA
set_option Elab.async false
set_option linter.all false
set_option maxRecDepth 100000
set_option maxHeartbeats 400000
set_option pp.maxSteps 300
namespace KA
open PySem PySem.Spec PyProof.Rows L2 Ea
abbrev s_law_is_mirrored : Stmt := topS 35
theorem sc_law_is_mirrored : FnScope ["deck", "own", "owners", "rows", "letter", "other", "play", "due", "x", "row"] ["deck", "own"] (defScope s_law_is_mirrored) :=
  ⟨rfl, rfl, rfl, by decide +kernel, rfl, by decide +kernel, by decide +kernel⟩
local macro_rules | `(tactic| walk_at "rd") => `(tactic| first
  | (with_reducible refine rd_seq ?_) | (with_reducible refine rd_asg ?_) | (with_reducible refine rd_if ?_) | (with_reducible refine rd_ret ?_) | (with_reducible refine rd_next ?_)
  | (with_reducible refine rd_drop ?_) | ((with_reducible refine rd_name (σ' := ?ss) ?hs ?_); (case hs => (dsimp only [List.set]; exact rfl)))
  | ((with_reducible refine rd_var (v := ?vv) ?hv ?_); (case hv => exact rfl)) | (with_reducible refine rd_c ?_) | (with_reducible refine rd_op ?_) | (with_reducible refine rd_un ?_)
  | (with_reducible refine rd_I0 ?_) | (with_reducible refine rd_U ?_) | (with_reducible refine rd_test ?_) | (with_reducible refine rd_B ?_) | (with_reducible refine rd_k ?_)
  | (with_reducible refine rd_not ?_) | (with_reducible refine rd_and ?_) | (with_reducible refine rd_or ?_) | (with_reducible refine rd_ifE ?_)
  | (with_reducible refine rd_par ?_) | ((with_reducible refine rd_par2 (σ' := ?ss) ?hs ?_); (case hs => (dsimp only [List.set]; exact rfl)))
  | (with_reducible refine rd_gsub ?_) | (with_reducible refine rd_andV ?_) | (with_reducible refine rd_orV ?_) | (with_reducible refine rd_notV ?_)
  | (with_reducible refine rd_lc ?_) | (with_reducible refine rd_iTup ?_) | (with_reducible refine rd_iList ?_) | (with_reducible refine rd_iRng1 ?_) | (with_reducible refine rd_iRng2 ?_) | (with_reducible refine rd_iEnumT ?_) | (with_reducible refine rd_iEnum ?_) | (with_reducible refine rd_iZipM ?_) | (with_reducible refine rd_iEnumS ?_) | (with_reducible refine rd_iKeys ?_) | (with_reducible refine rd_din ?_) | (with_reducible refine rd_dnotin ?_)
  | (with_reducible refine rd_yes ?_) | (with_reducible refine rd_true ?_) | (with_reducible refine rd_false ?_) | (with_reducible refine rd_m1 ?_) | (with_reducible refine rd_isS ?_)
  | ((with_reducible refine rd_eq ?hs ?_); (case hs => exact rfl)) | ((with_reducible refine rd_ne ?hs ?_); (case hs => exact rfl))
  | (with_reducible refine rd_listRg ?_) | (with_reducible refine rd_rg2 ?_) | (with_reducible refine rd_rgk ?_)
  | (with_reducible refine rd_dnew ?_) | (with_reducible refine rd_ddel ?_) | (with_reducible refine rd_kw ?_) | (with_reducible refine rd_callS ?_) | (with_reducible refine rd_dc ?_) | (with_reducible refine rd_for ?_) | (with_reducible refine rd_tru ?_) | (with_reducible refine rd_truI ?_)
  | (with_reducible refine rd_nil ?_) | (with_reducible refine rd_cons ?_) | (with_reducible refine rd_call ?_) | (with_reducible refine rd_cb ?_)
  | (with_reducible refine rd_tup ?_) | (with_reducible refine rd_lst ?_) | (with_reducible refine rd_dget ?_) | (with_reducible refine rd_dput ?_) | (with_reducible refine rd_dget2 ?_) | (with_reducible refine rd_sl ?_)
  | (with_reducible refine rd_nopart ?_) | (with_reducible refine rd_part ?_) | (with_reducible refine rd_parti ?_) | (with_reducible refine rd_bm ?_) | (with_reducible refine rd_bm0 ?_)
  | (with_reducible refine rd_int ?_) | (with_reducible refine rd_intb ?_) | (with_reducible refine rd_abs ?_) | (with_reducible refine rd_min2 ?_) | (with_reducible refine rd_max2 ?_))
local macro_rules | `(tactic| walk_at "rds") => `(tactic| repeat (walk_at "rd"))
local macro_rules | `(tactic| walk_at "rq") => `(tactic| first
  | (with_reducible refine rd_seq ?_) | (with_reducible refine rd_asg ?_) | (with_reducible refine rd_ret ?_) | (with_reducible refine rd_next ?_)
  | (with_reducible refine rd_drop ?_) | ((with_reducible refine rd_name (σ' := ?ss) ?hs ?_); (case hs => (dsimp only [List.set]; exact rfl)))
  | ((with_reducible refine rd_var (v := ?vv) ?hv ?_); (case hv => exact rfl)) | (with_reducible refine rd_c ?_) | (with_reducible refine rd_op ?_) | (with_reducible refine rd_un ?_)
  | (with_reducible refine rd_I0 ?_) | (with_reducible refine rd_U ?_) | (with_reducible refine rd_test ?_) | (with_reducible refine rd_B ?_) | (with_reducible refine rd_k ?_)
  | (with_reducible refine rd_not ?_) | (with_reducible refine rd_and ?_) | (with_reducible refine rd_or ?_) | (with_reducible refine rd_ifE ?_)
  | (with_reducible refine rd_par ?_) | ((with_reducible refine rd_par2 (σ' := ?ss) ?hs ?_); (case hs => (dsimp only [List.set]; exact rfl)))
  | (with_reducible refine rd_gsub ?_) | (with_reducible refine rd_andV ?_) | (with_reducible refine rd_orV ?_) | (with_reducible refine rd_notV ?_)
  | (with_reducible refine rd_lc ?_) | (with_reducible refine rd_iTup ?_) | (with_reducible refine rd_iList ?_) | (with_reducible refine rd_iRng1 ?_) | (with_reducible refine rd_iRng2 ?_) | (with_reducible refine rd_iEnumT ?_) | (with_reducible refine rd_iEnum ?_) | (with_reducible refine rd_iZipM ?_) | (with_reducible refine rd_iEnumS ?_) | (with_reducible refine rd_iKeys ?_) | (with_reducible refine rd_din ?_) | (with_reducible refine rd_dnotin ?_)
  | (with_reducible refine rd_yes ?_) | (with_reducible refine rd_true ?_) | (with_reducible refine rd_false ?_) | (with_reducible refine rd_m1 ?_) | (with_reducible refine rd_isS ?_)
  | ((with_reducible refine rd_eq ?hs ?_); (case hs => exact rfl)) | ((with_reducible refine rd_ne ?hs ?_); (case hs => exact rfl))
  | (with_reducible refine rd_listRg ?_) | (with_reducible refine rd_rg2 ?_) | (with_reducible refine rd_rgk ?_)
  | (with_reducible refine rd_dnew ?_) | (with_reducible refine rd_ddel ?_) | (with_reducible refine rd_kw ?_) | (with_reducible refine rd_callS ?_) | (with_reducible refine rd_dc ?_) | (with_reducible refine rd_for ?_) | (with_reducible refine rd_tru ?_) | (with_reducible refine rd_truI ?_)
  | (with_reducible refine rd_nil ?_) | (with_reducible refine rd_cons ?_) | (with_reducible refine rd_call ?_) | (with_reducible refine rd_cb ?_)
  | (with_reducible refine rd_tup ?_) | (with_reducible refine rd_lst ?_) | (with_reducible refine rd_dget ?_) | (with_reducible refine rd_dput ?_) | (with_reducible refine rd_dget2 ?_) | (with_reducible refine rd_sl ?_)
  | (with_reducible refine rd_nopart ?_) | (with_reducible refine rd_part ?_) | (with_reducible refine rd_parti ?_) | (with_reducible refine rd_bm ?_) | (with_reducible refine rd_bm0 ?_)
  | (with_reducible refine rd_int ?_) | (with_reducible refine rd_intb ?_) | (with_reducible refine rd_abs ?_) | (with_reducible refine rd_min2 ?_) | (with_reducible refine rd_max2 ?_))
local macro_rules | `(tactic| walk_at "rqs") => `(tactic| repeat (walk_at "rq"))
local macro_rules | `(tactic| walk_at "rv") => `(tactic| first
  | (with_reducible refine rd_seq ?_) | (with_reducible refine rd_asg ?_) | (with_reducible refine rd_ret ?_) | (with_reducible refine rd_next ?_)
  | (with_reducible refine rd_drop ?_) | ((with_reducible refine rd_name (σ' := ?ss) ?hs ?_); (case hs => (dsimp only [List.set]; exact rfl)))
  | ((with_reducible refine rd_var (v := ?vv) ?hv ?_); (case hv => exact rfl)) | (with_reducible refine rd_c ?_) | (with_reducible refine rd_op ?_) | (with_reducible refine rd_un ?_)
  | (with_reducible refine rd_I0 ?_) | (with_reducible refine rd_U ?_) | (with_reducible refine rd_test ?_) | (with_reducible refine rd_B ?_) | (with_reducible refine rd_k ?_)
  | (with_reducible refine rd_not ?_) | (with_reducible refine rd_and ?_) | (with_reducible refine rd_or ?_)
  | (with_reducible refine rd_par ?_) | ((with_reducible refine rd_par2 (σ' := ?ss) ?hs ?_); (case hs => (dsimp only [List.set]; exact rfl)))
  | (with_reducible refine rd_gsub ?_) | (with_reducible refine rd_andV ?_) | (with_reducible refine rd_orV ?_) | (with_reducible refine rd_notV ?_)
  | (with_reducible refine rd_lc ?_) | (with_reducible refine rd_iTup ?_) | (with_reducible refine rd_iList ?_) | (with_reducible refine rd_iRng1 ?_) | (with_reducible refine rd_iRng2 ?_) | (with_reducible refine rd_iEnumT ?_) | (with_reducible refine rd_iEnum ?_) | (with_reducible refine rd_iZipM ?_) | (with_reducible refine rd_iEnumS ?_) | (with_reducible refine rd_iKeys ?_) | (with_reducible refine rd_din ?_) | (with_reducible refine rd_dnotin ?_)
  | (with_reducible refine rd_yes ?_) | (with_reducible refine rd_true ?_) | (with_reducible refine rd_false ?_) | (with_reducible refine rd_m1 ?_) | (with_reducible refine rd_isS ?_)
  | ((with_reducible refine rd_eq ?hs ?_); (case hs => exact rfl)) | ((with_reducible refine rd_ne ?hs ?_); (case hs => exact rfl))
  | (with_reducible refine rd_listRg ?_) | (with_reducible refine rd_rg2 ?_) | (with_reducible refine rd_rgk ?_)
  | (with_reducible refine rd_dnew ?_) | (with_reducible refine rd_ddel ?_) | (with_reducible refine rd_kw ?_) | (with_reducible refine rd_callS ?_) | (with_reducible refine rd_dc ?_) | (with_reducible refine rd_for ?_) | (with_reducible refine rd_tru ?_) | (with_reducible refine rd_truI ?_)
  | (with_reducible refine rd_nil ?_) | (with_reducible refine rd_cons ?_) | (with_reducible refine rd_call ?_) | (with_reducible refine rd_cb ?_)
  | (with_reducible refine rd_tup ?_) | (with_reducible refine rd_lst ?_) | (with_reducible refine rd_dget ?_) | (with_reducible refine rd_dput ?_) | (with_reducible refine rd_dget2 ?_) | (with_reducible refine rd_sl ?_)
  | (with_reducible refine rd_nopart ?_) | (with_reducible refine rd_part ?_) | (with_reducible refine rd_parti ?_) | (with_reducible refine rd_bm ?_) | (with_reducible refine rd_bm0 ?_)
  | (with_reducible refine rd_int ?_) | (with_reducible refine rd_intb ?_) | (with_reducible refine rd_abs ?_) | (with_reducible refine rd_min2 ?_) | (with_reducible refine rd_max2 ?_))
local macro_rules | `(tactic| walk_at "rvs") => `(tactic| repeat (walk_at "rv"))

section
variable {P : Program} {w : World} {K : PySem.W.Frag} {mg : Str → Option Value} {base : Heap}
def spMirr (K : PySem.W.Frag) : Sp := fun vs H Q _ => ∃ (d l a : Addr) (z : Str) (n : Nat) (rs : List (List Int)), vs = [.ref d, .ref a] ∧ DeckL d l H ∧ Sen K H n a z rs ∧ 1 ≤ n ∧ n ≤ 11 ∧ rs.length ≤ 200 ∧
  ∀ H', Gl d l H H' → Q (.bl true) H'
theorem ok_mirr {f fD fP fT fG fL fE fI : Addr} {fd fdD fdP fdT fdG fdL fdE fdI : FuncData} (F : Fun K "_law_is_mirrored" "_law_is_mirrored" s_law_is_mirrored f fd) (T : Bl mg)
    (G_law_draw : FnOk P w K mg base CX0 1 fD fdD ["deck", "many"] spDraw) (C_law_draw : Callee K mg "_law_draw" fD fdD ["deck", "many"])
    (G_law_pick : FnOk P w K mg base CX0 2 fP fdP ["deck", "items"] spPick) (C_law_pick : Callee K mg "_law_pick" fP fdP ["deck", "items"])
    (Gtrees : FnOk P w K mg base CX0 15 fT fdT ["sentence"] (spTrees0 K)) (Ctrees : Callee K mg "trees" fT fdT ["sentence"])
    (Ggood_moves : FnOk P w K mg base CX0 16 fG fdG ["sentence", "play"] (spGood0 K)) (Cgood_moves : Callee K mg "good_moves" fG fdG ["sentence", "play"])
    (G_law_good : FnOk P w K mg base CX0 15 fL fdL ["own", "play"] (spLGood K)) (C_law_good : Callee K mg "_law_good" fL fdL ["own", "play"])
    (G_law_ends : FnOk P w K mg base CX0 14 fE fdE ["owners", "rows", "play"] (spEndsT K 13)) (C_law_ends : Callee K mg "_law_ends" fE fdE ["owners", "rows", "play"])
    (G_law_is_told : FnOk P w K mg base CX0 17 fI fdI ["deck", "own"] (spTold K)) (C_law_is_told : Callee K mg "_law_is_told" fI fdI ["deck", "own"]) :
    FnOk P w K mg base CX0 18 f fd ["deck", "own"] (spMirr K) := by
  refine F.ok sc_law_is_mirrored (fun vs H Q E h => ?_) (fun cdv A outer s H vs Q E hr h => ?_)
  · obtain ⟨d, l, a, z, n, rs, rfl, _⟩ := h
    rfl
  · obtain ⟨d, l, a, z, n, rs, rfl, hD, sen, hn1, hn11, hl2, q⟩ := h
    obtain ⟨c, xs, s1, s2, dd, hz, hn, hrow, hl⟩ := id sen
    refine ⟨_, (pss_cons (ps_asg (pv 1) (pgk_tup (K := K) rfl rfl (pgs_cons (pg_name (i := 2) sc_law_is_mirrored.nd rfl (Or.inl rfl)) (pgs_cons (pg_name (i := 3) sc_law_is_mirrored.nd rfl (Or.inl rfl)) pgs_nil))))
 (pss_cons (ps_set (i := 4) sc_law_is_mirrored.nd rfl (Or.inr rfl) (pe_op op_add pe_int (pe_call G_law_draw (hr.mono (by decide)) (by rfl) C_law_draw.m C_law_draw.k C_law_draw.b .nil pass0 (pa_cons (pv 0) (pa_cons (pe_callB c_lenS (by rfl) T.len (by decide +kernel) (pa_cons (pv 2) pa_nil)) pa_nil)))))
 (pss_cons (ps_set (i := 5) sc_law_is_mirrored.nd rfl (Or.inl rfl) (pe_tup (pa_cons (pv 2) (pa_cons (pe_callTy (c_tuple (K := K) rfl) (by rfl) T.tuple (by decide +kernel) (pa_cons (pe_lc (own := [("row", 9)]) (g := gName 9) rfl sc_law_is_mirrored.nd (ik_tupI (K := K) rfl (pv 3)) (blkOk_by (own := [("row", 9)]) (N := ["deck", "own", "owners", "rows", "letter", "other", "play", "due", "x", "row"]) (sc := defScope s_law_is_mirrored) (by decide +kernel)) (fun _ _ _ _ _ => (pg_name (i := 9) sc_law_is_mirrored.nd rfl (Or.inl rfl))) (fun _ _ _ _ _ => pts_nil) (fun _ _ _ _ _ => (pe_callTy (c_tuple (K := K) rfl) (by rfl) T.tuple (by decide +kernel) (pa_cons (pe_lc (own := [("x", 8)]) (g := gName 8) rfl sc_law_is_mirrored.nd (ik_tupI (K := K) rfl (pv 9)) (blkOk_by (own := [("x", 8)]) (N := ["deck", "own", "owners", "rows", "letter", "other", "play", "due", "x", "row"]) (sc := _) (by rfl)) (fun _ _ _ _ _ => (pg_name (i := 8) sc_law_is_mirrored.nd rfl (Or.inl rfl))) (fun _ _ _ _ _ => pts_nil) (fun _ _ _ _ _ => (pe_ifExp (pt_cmpR op_eq (pe_callB c_abs (by rfl) T.abs (by decide +kernel) (pa_cons (pv 8) pa_nil)) (pv 4) (nomark _)) (pe_un un_neg (pv 8)) (pv 8)))) pa_nil)))) pa_nil)) pa_nil))))
 (pss_cons (ps_if (PW.pt (pw_or (pt_not (pt_val (pe_call G_law_is_told (hr.mono (by decide)) (by rfl) C_law_is_told.m C_law_is_told.k C_law_is_told.b .nil pass0 (pa_cons (pv 0) (pa_cons (pv 5) pa_nil))))) (pw_or1 (pt_cmpR op_ne (pe_call Gtrees (hr.mono (by decide)) (by rfl) Ctrees.m Ctrees.k Ctrees.b .nil pass0 (pa_cons (pv 5) pa_nil)) (pe_ix (ik_tup (K := K) rfl) (pe_call G_law_ends (hr.mono (by decide)) (by rfl) C_law_ends.m C_law_ends.k C_law_ends.b .nil pass0 (pa_cons (pv 2) (pa_cons (pv 3) (pa_cons (pe_tup pa_nil) pa_nil)))) pe_int (fun _ _ => rfl)) (nomark _))))) (pss_one (ps_ret pe_bl)) pss_nil)
 (pss_cons (ps_set (i := 6) sc_law_is_mirrored.nd rfl (Or.inl rfl) (pe_callTy (c_tuple (K := K) rfl) (by rfl) T.tuple (by decide +kernel) (pa_cons (pe_lc (own := [("x", 8)]) (g := gName 8) rfl sc_law_is_mirrored.nd (pi_range2 (by rfl) T.range (pa_cons pe_int (pa_cons (pv 4) pa_nil))) (blkOk_by (own := [("x", 8)]) (N := ["deck", "own", "owners", "rows", "letter", "other", "play", "due", "x", "row"]) (sc := defScope s_law_is_mirrored) (by decide +kernel)) (fun _ _ _ _ _ => (pg_name (i := 8) sc_law_is_mirrored.nd rfl (Or.inl rfl))) (fun _ _ _ _ _ => pts_nil) (fun _ _ _ _ _ => (pe_call G_law_pick (hr.mono (by decide)) (by rfl) C_law_pick.m C_law_pick.k C_law_pick.b .nil pass0 (pa_cons (pv 0) (pa_cons (pe_lst (pa_cons (pv 8) (pa_cons (pe_un un_neg (pv 8)) pa_nil))) pa_nil))))) pa_nil)))
 (pss_cons (ps_set (i := 7) sc_law_is_mirrored.nd rfl (Or.inl rfl) (pe_callTy (c_tuple (K := K) rfl) (by rfl) T.tuple (by decide +kernel) (pa_cons (pe_callB (c_sorted (K := K) rfl) (by rfl) T.sorted (by decide +kernel) (pa_cons (pe_lc (own := [("x", 8)]) (g := gName 8) rfl sc_law_is_mirrored.nd (ik_tupI (K := K) rfl (pe_call G_law_good (hr.mono (by decide)) (by rfl) C_law_good.m C_law_good.k C_law_good.b .nil pass0 (pa_cons (pv 1) (pa_cons (pv 6) pa_nil)))) (blkOk_by (own := [("x", 8)]) (N := ["deck", "own", "owners", "rows", "letter", "other", "play", "due", "x", "row"]) (sc := defScope s_law_is_mirrored) (by decide +kernel)) (fun _ _ _ _ _ => (pg_name (i := 8) sc_law_is_mirrored.nd rfl (Or.inl rfl))) (fun _ _ _ _ _ => pts_nil) (fun _ _ _ _ _ => (pe_un un_neg (pv 8)))) pa_nil)) pa_nil)))
 (pss_one (ps_ret (pe_and (pe_cmpR (ok_eqD (K := K) rfl hr.units) (pe_call Ggood_moves (hr.mono (by decide)) (by rfl) Cgood_moves.m Cgood_moves.k Cgood_moves.b .nil pass0 (pa_cons (pv 5) (pa_cons (pv 6) pa_nil))) (pv 7) (nomark _)) (pe_one (pe_cmpR (ok_eqD (K := K) rfl hr.units) (pe_call Ggood_moves (hr.mono (by decide)) (by rfl) Cgood_moves.m Cgood_moves.k Cgood_moves.b .nil pass0 (pa_cons (pv 1) (pa_cons (pv 6) pa_nil))) (pe_callTy (c_tuple (K := K) rfl) (by rfl) T.tuple (by decide +kernel) (pa_cons (pe_callB (c_sorted (K := K) rfl) (by rfl) T.sorted (by decide +kernel) (pa_cons (pe_lc (own := [("x", 8)]) (g := gName 8) rfl sc_law_is_mirrored.nd (ik_tupI (K := K) rfl (pv 7)) (blkOk_by (own := [("x", 8)]) (N := ["deck", "own", "owners", "rows", "letter", "other", "play", "due", "x", "row"]) (sc := defScope s_law_is_mirrored) (by decide +kernel)) (fun _ _ _ _ _ => (pg_name (i := 8) sc_law_is_mirrored.nd rfl (Or.inl rfl))) (fun _ _ _ _ _ => pts_nil) (fun _ _ _ _ _ => (pe_un un_neg (pv 8)))) pa_nil)) pa_nil)) (nomark _)))))))))))), ?_⟩
    refine rd_start (σ' := [some (.ref d), some (.ref a), none, none, none, none, none, none, none, none]) rfl ?_
    walk_at "rvs"
    refine rd_gtup2 (x := .str z) (y := .ref c) s1 rfl (σ' := [some (.ref d), some (.ref a), some (.str z), some (.ref c), none, none, none, none, none, none]) rfl ?_
    walk_at "rvs"
    refine rd_lenS (by rw [hz.1, sizeLine_eq]; omega) ?_
    rw [hz.1]
    walk_at "rvs"
    refine ⟨d, l, (n : Int), rfl, hD, by omega, by omega, fun r H2 g2 r0 r1 => ?_⟩
    obtain ⟨k, hk, k1, kn⟩ : ∃ k : Nat, 1 + r = (k : Int) ∧ 1 ≤ k ∧ k ≤ n := ⟨(1 + r).toNat, by omega, by omega, by omega⟩
    have hD2 := g2.dk
    have s22 := g2.tup hD s2
    have dd2 := Gl.rows g2 hD dd
    have sen2 := sen.gl g2 hD
    have lx : xs.length = rs.length := by rw [dpAll_len dd, List.length_map]
    clear s1 s2 dd sen
    walk_at "rvs"
    rw [hk]
    walk_at "rvs"
    refine rd_ref s22 ?_
    refine lc_exT (fun i acc H => DpAll K H acc (((rs.take i).map fun r => r.map (turn1 k)).map dR)) (fun i acc H1 D ys u e h => rows_upd (rs := (rs.take i).map fun r => r.map (turn1 k)) e h) (σx := fun x => [some (.ref d), some (.ref a), some (.str z), some (.ref c), some (.int (k : Int)), none, none, none, none, some x])
      s22 (by omega) (fun _ => rfl) (fun _ => rfl) (fun H' _ => .nil) (fun i x hi acc H' N e hP kN => ?_) fun D acc H3 e3 _ hacc hP => ?_
    · obtain ⟨dx, hdx, hDp⟩ := dpAll_get dd2 hi
      rw [List.getElem?_map] at hdx
      obtain ⟨r, hrr, rfl⟩ := Option.map_eq_some_iff.mp hdx
      obtain ⟨b1, rfl, sb1⟩ := dp_row hDp
      have rl := (hrow r (List.mem_of_getElem? hrr)).length
      walk_at "rvs"
      refine rd_ref (Evl.ex_t e sb1) ?_
      refine lc_fmT (fun _ => true) (fun x => .int (turn1 k x)) (σx := fun x => [some (.ref d), some (.ref a), some (.str z), some (.ref c), some (.int (k : Int)), none, none, none, some x, some (.ref b1)]) (Evl.ex_t e sb1) (by omega) (fun _ => rfl) (fun _ => rfl) (fun x hx H' N S e kN kS => ?_) fun D4 H4 e4 eD4 hD4 => ?_
      · walk_at "rds"
        refine rd_ite (fun c1 => ?_) (fun c1 => ?_)
        · walk_at "rds"
          have e : turn1 k x = -x := if_pos (by have := V.int.inj c1; omega)
          exact e ▸ kN rfl _ (Evl.Ex.refl _)
        · walk_at "rds"
          have e : turn1 k x = x := if_neg (fun h => c1 (congrArg V.int (by omega)))
          exact e ▸ kN rfl _ (Evl.Ex.refl _)
      walk_at "rvs"
      rw [List.filter_eq_self.mpr (fun _ _ => rfl)] at hD4
      refine rd_tupL (SqL.of hD4) fun o ho => ?_
      have e5 := e4.trans (Evl.Ex.new (o := .tup (r.map fun x => V.int (turn1 k x))) ho)
      refine kN _ _ e5 ?_
      rw [List.take_add_one, hrr, List.map_append, List.map_append]
      refine dpAll_app (dpAll_ex e5 _ _ hP) (.cons (dp_of_row (SqT.of ?_)) .nil)
      rw [upd_same, List.map_map] <;> rfl
    rw [lx, List.take_of_length_le (Nat.le_refl _)] at hP
    walk_at "rvs"
    refine rd_tupL (SqL.of hacc) fun o ho => ?_
    have e4 := e3.trans (Evl.Ex.new (o := .tup acc) ho)
    walk_at "rvs"
    refine ⟨(by show 2 ≤ sizeLine; decide), fun o2 ho2 => ?_⟩
    have e5 := e4.trans (Evl.Ex.new (o := .tup [V.str z, .ref o]) ho2)
    have senO : Sen K (upd (upd H3 o (.tup acc)) o2 (.tup [V.str z, .ref o])) n o2 z (rs.map fun r => r.map (turn1 k)) :=
      ⟨o, acc, SqT.of upd_same, Evl.ex_t (Evl.Ex.new ho2) (SqT.of upd_same), dpAll_ex ((Evl.Ex.new ho).trans (Evl.Ex.new ho2)) _ _ hP, hz, hn, turn_row hrow, by rw [List.length_map]; exact hl⟩
    have g3 := g2.trans (Gl.ex e5 hD2)
    have hD3 := g3.dk
    have s23 := Evl.ex_t e5 s22
    have dd3 := dpAll_ex e5 _ _ dd2
    have sen3 := sen2.ex e5
    generalize upd (upd H3 o (.tup acc)) o2 (.tup [V.str z, .ref o]) = H4 at senO g3 hD3 s23 dd3 sen3 ⊢
    clear e5 e4 ho2 ho hP hacc e3 s22 dd2 sen2
    walk_at "rvs"
    dsimp only
    refine rd_if ?_
    walk_at "rvs"
    refine ⟨d, l, o2, z, n, _, rfl, hD3, senO, hn1, by omega, fun H5 g5 => ?_⟩
    have senO5 := senO.gl g5 hD3
    have sen5 := sen3.gl g5 hD3
    have s25 := g5.tup hD3 s23
    have dd5 := Gl.rows g5 hD3 dd3
    clear s23 dd3 sen3 senO
    walk_at "rvs"
    refine (if_neg Bool.false_ne_true).mpr ?_
    walk_at "rvs"
    refine ⟨o2, z, n, _, rfl, senO5, by omega, fun H6 e6 => ?_⟩
    walk_at "rvs"
    refine ⟨Nat.zero_le _, fun t4 h4 => ?_⟩
    have e7 := e6.trans (Evl.Ex.new (o := .tup []) h4)
    walk_at "rvs"
    refine ⟨z, c, t4, n, xs, rs, [], rfl, hz, by omega, Evl.ex_t e7 s25, dpAll_ex e7 _ _ dd5, hrow, by omega, SqT.of upd_same, fun i x e => by simp at e, Nat.zero_le _, by show n - 0 < 13; omega, fun v H8 e8 hv => ?_⟩
    obtain ⟨qa, cnt, rfl, hc, sq⟩ := hv
    have hcw : cnt = wayF n z rs [] := hc
    have hsame : wayF n z (rs.map fun r => r.map (turn1 k)) [] = wayF n z rs [] := (turn_same (k := k) (z := z) hrow n [] (fun i x e => by simp at e) (by simp)).1
    walk_at "rvs"
    refine rd_ixT sq rfl ?_
    walk_at "rvs"
    rw [hcw, hsame]
    refine rd_iten (fun c => absurd rfl c) (fun _ => ?_)
    have e78 := e7.trans e8
    have senO8 := senO5.ex e78
    have sen8 := sen5.ex e78
    have g8 := (g3.trans g5).trans (Gl.ex e78 g5.dk)
    have hD8 := g8.dk
    clear e78 e7 e8 e6 h4 senO5 sen5 s25 dd5 sq hc hcw g5
    walk_at "rvs"
    refine ⟨1, (k : Int), rfl, ⟨by omega, by omega, by omega, by omega⟩, ?_⟩
    rw [show ((k : Int) - 1).toNat = k - 1 by omega]
    refine lc_glR (lo := 1) (fun i acc => ∃ ys : List Int, acc = ys.map V.int ∧ ys.length = i ∧ PlayOk ys) (σx := fun x => [some (.ref d), some (.ref a), some (.str z), some (.ref c), some (.int (k : Int)), some (.ref o2), none, none, some x, none])
      hD8 (by omega) (fun _ => rfl) (fun _ => rfl) ⟨[], rfl, rfl, fun i x e => by simp at e⟩ (fun i hi acc H7 N S g7 hP kN kS => ?_) fun D acc H7 g7 eD hacc hP => ?_
    · obtain ⟨ys, rfl, rfl, hy⟩ := hP
      walk_at "rvs"
      refine ⟨(by show 2 ≤ sizeLine; decide), fun b hb => ?_⟩
      have g8 := Gl.new (o := .lst [V.int (1 + (ys.length : Int)), .int (-(1 + (ys.length : Int)))]) g7.dk hb
      have ob := g7.dk.off hb
      walk_at "rvs"
      refine ⟨d, l, b, _, rfl, g8.dk, upd_same, ob.1, ob.2, by show 1 ≤ 2; decide, by show 2 ≤ 1000; decide, fun y H9 g9 hy9 => ?_⟩
      obtain ⟨u, rfl, hu⟩ : ∃ u : Int, y = .int u ∧ u.natAbs = ys.length + 1 := by
        simp only [List.mem_cons, List.not_mem_nil, or_false] at hy9
        rcases hy9 with rfl | rfl
        · exact ⟨_, rfl, by omega⟩
        · exact ⟨_, rfl, by omega⟩
      exact kN _ _ (g8.trans g9) ⟨ys ++ [u], by rw [List.map_append] <;> rfl, snoc_len _ _, hy.snoc hu⟩
    obtain ⟨p, rfl, lp, okp⟩ := hP
    have sen9 := sen8.gl g7 hD8
    have senO9 := senO8.gl g7 hD8
    have g9 := g8.trans g7
    clear sen8 senO8 g8
    walk_at "rvs"
    refine rd_tupL (SqL.of hacc) fun b hb => ?_
    have e8 := Evl.Ex.new (o := .tup (p.map V.int)) hb
    have sb : SqT K (upd H7 b (.tup (p.map V.int))) b (p.map V.int) := SqT.of upd_same
    have sen10 := sen9.ex e8
    have senO10 := senO9.ex e8
    have g10 := g9.trans (Gl.ex e8 g7.dk)
    generalize upd H7 b (.tup (p.map V.int)) = H8 at sb sen10 senO10 g10 ⊢
    clear e8 hb sen9 senO9 g9 g7 hacc eD
    walk_at "rvs"
    refine ⟨a, b, z, n, rs, p, rfl, sen10, sb, okp, by omega, by omega, fun q1 H9 e9 t1 => ?_⟩
    have pt := good_turn (n := n) (k := k) (z := z) (rs := rs) hrow okp (by omega) kn
    have pa := good_asc (n := n) (z := z) (rs := rs.map fun r => r.map (turn1 k)) (p := p)
    have pb := good_asc (n := n) (z := z) (rs := rs) (p := p)
    have na := nice_good (n := n) (z := z) (rs := rs.map fun r => r.map (turn1 k)) (p := p) (by omega)
    have nb := nice_good (n := n) (z := z) (rs := rs) (p := p) (by omega)
    have la := good_len (n := n) (z := z) (rs := rs.map fun r => r.map (turn1 k)) (p := p)
    have lb := good_len (n := n) (z := z) (rs := rs) (p := p)
    walk_at "rvs"
    refine rd_ref t1 ?_
    refine lc_fmT (fun _ => true) (fun x => .int (-x)) (σx := fun x => [some (.ref d), some (.ref a), some (.str z), some (.ref c), some (.int (k : Int)), some (.ref o2), some (.ref b), none, some x, none]) t1 (by omega) (fun _ => rfl) (fun _ => rfl) (fun x hx H' N S e kN kS => ?_) fun D4 H4 e4 eD4 hD4 => ?_
    · walk_at "rds"
      exact kN rfl _ (Evl.Ex.refl _)
    rw [List.filter_eq_self.mpr (fun _ _ => rfl)] at hD4
    have hD4' : H4 D4 = some (.lst (((goodF n z rs p).map fun x => -x).map V.int)) := by rw [hD4, List.map_map] <;> rfl
    walk_at "rvs"
    refine rd_sorted (SqL.of hD4') fun ms v pm so hv => ?_
    have em := sorted_same (pm.trans pt.symm) so pa
    subst em
    walk_at "rvs"
    refine rd_tupL (SqL.of upd_same) fun o3 ho3 => ?_
    have e5 := ((e9.trans e4).trans (Evl.Ex.new (o := .lst ((goodF n z (rs.map fun r => r.map (turn1 k)) p).map V.int)) hv)).trans (Evl.Ex.new (o := .tup ((goodF n z (rs.map fun r => r.map (turn1 k)) p).map V.int)) ho3)
    have so3 : SqT K (upd (upd H4 v (.lst ((goodF n z (rs.map fun r => r.map (turn1 k)) p).map V.int))) o3 (.tup ((goodF n z (rs.map fun r => r.map (turn1 k)) p).map V.int))) o3 ((goodF n z (rs.map fun r => r.map (turn1 k)) p).map V.int) := SqT.of upd_same
    have g11 := g10.trans (Gl.ex e5 g10.dk)
    have sen11 := sen10.ex e5
    have senO11 := senO10.ex e5
    have sb11 := Evl.ex_t e5 sb
    generalize upd (upd H4 v (.lst ((goodF n z (rs.map fun r => r.map (turn1 k)) p).map V.int))) o3 (.tup ((goodF n z (rs.map fun r => r.map (turn1 k)) p).map V.int)) = H5 at so3 g11 sen11 senO11 sb11 ⊢
    clear e5 ho3 hv so pm hD4' hD4 eD4 e4 t1 e9 sen10 senO10 sb g10
    walk_at "rvs"
    refine ⟨o2, b, z, n, _, p, rfl, senO11, sb11, by omega, by omega, fun q2 H6 e6 t2 => ?_⟩
    walk_at "rvs"
    refine rd_eqD (dp_of_row t2) (dp_of_row (Evl.ex_t e6 so3)) na na (by decide) (by decide) ?_
    rw [eqv_row]
    walk_at "rvs"
    refine ⟨a, b, z, n, _, p, rfl, sen11.ex e6, Evl.ex_t e6 sb11, by omega, by omega, fun q3 H7 e7 t3 => ?_⟩
    have so7 := Evl.ex_t (e6.trans e7) so3
    walk_at "rvs"
    refine rd_ref so7 ?_
    refine lc_fmT (fun _ => true) (fun x => .int (-x)) (σx := fun x => [some (.ref d), some (.ref a), some (.str z), some (.ref c), some (.int (k : Int)), some (.ref o2), some (.ref b), some (.ref o3), some x, none]) so7 (by omega) (fun _ => rfl) (fun _ => rfl) (fun x hx H' N S e kN kS => ?_) fun D5 H8 e8 eD5 hD5 => ?_
    · walk_at "rds"
      exact kN rfl _ (Evl.Ex.refl _)
    rw [List.filter_eq_self.mpr (fun _ _ => rfl)] at hD5
    have hD5' : H8 D5 = some (.lst (((goodF n z (rs.map fun r => r.map (turn1 k)) p).map fun x => -x).map V.int)) := by rw [hD5, List.map_map] <;> rfl
    walk_at "rvs"
    refine rd_sorted (SqL.of hD5') fun ms v pm so hv => ?_
    have pt2 : ((goodF n z (rs.map fun r => r.map (turn1 k)) p).map fun x => -x).Perm (goodF n z rs p) := by
      have h := pt.map fun x : Int => -x
      rw [List.map_map] at h
      have e : ((fun x : Int => -x) ∘ fun x : Int => -x) = id := funext fun x => Int.neg_neg x
      rw [e, List.map_id] at h
      exact h
    have em := sorted_same (pm.trans pt2) so pb
    subst em
    walk_at "rvs"
    refine rd_tupL (SqL.of upd_same) fun o4 ho4 => ?_
    have e9 := (e8.trans (Evl.Ex.new hv)).trans (Evl.Ex.new (o := .tup ((goodF n z rs p).map V.int)) ho4)
    walk_at "rvs"
    refine rd_eqD (dp_of_row (Evl.ex_t e9 t3)) (dp_of_row (SqT.of upd_same)) nb nb (by decide) (by decide) ?_
    rw [eqv_row]
    exact q _ (g11.trans (Gl.ex ((e6.trans e7).trans e9) g11.dk))
end
end KA
set_option Elab.async false
set_option linter.all false
set_option maxRecDepth 100000
set_option maxHeartbeats 400000
set_option pp.maxSteps 300
namespace KA
open PySem PySem.Spec PyProof.Rows L2 Ea
abbrev slaw : Stmt := topS 36
theorem sclaw : FnScope ["script", "deck", "turn", "n", "own", "before"] ["script"] (defScope slaw) :=
  ⟨rfl, rfl, rfl, by decide +kernel, rfl, by decide +kernel, by decide +kernel⟩
local macro_rules | `(tactic| walk_at "rd") => `(tactic| first
  | (with_reducible refine rd_seq ?_) | (with_reducible refine rd_asg ?_) | (with_reducible refine rd_if ?_) | (with_reducible refine rd_ret ?_) | (with_reducible refine rd_next ?_)
  | (with_reducible refine rd_drop ?_) | ((with_reducible refine rd_name (σ' := ?ss) ?hs ?_); (case hs => (dsimp only [List.set]; exact rfl)))
  | ((with_reducible refine rd_var (v := ?vv) ?hv ?_); (case hv => exact rfl)) | (with_reducible refine rd_c ?_) | (with_reducible refine rd_op ?_) | (with_reducible refine rd_un ?_)
  | (with_reducible refine rd_I0 ?_) | (with_reducible refine rd_U ?_) | (with_reducible refine rd_test ?_) | (with_reducible refine rd_B ?_) | (with_reducible refine rd_k ?_)
  | (with_reducible refine rd_not ?_) | (with_reducible refine rd_and ?_) | (with_reducible refine rd_or ?_) | (with_reducible refine rd_ifE ?_)
  | (with_reducible refine rd_par ?_) | ((with_reducible refine rd_par2 (σ' := ?ss) ?hs ?_); (case hs => (dsimp only [List.set]; exact rfl)))
  | (with_reducible refine rd_gsub ?_) | (with_reducible refine rd_andV ?_) | (with_reducible refine rd_orV ?_) | (with_reducible refine rd_notV ?_)
  | (with_reducible refine rd_lc ?_) | (with_reducible refine rd_iTup ?_) | (with_reducible refine rd_iList ?_) | (with_reducible refine rd_iRng1 ?_) | (with_reducible refine rd_iRng2 ?_) | (with_reducible refine rd_iEnumT ?_) | (with_reducible refine rd_iEnum ?_) | (with_reducible refine rd_iZipM ?_) | (with_reducible refine rd_iEnumS ?_) | (with_reducible refine rd_iKeys ?_) | (with_reducible refine rd_din ?_) | (with_reducible refine rd_dnotin ?_)
  | (with_reducible refine rd_yes ?_) | (with_reducible refine rd_true ?_) | (with_reducible refine rd_false ?_) | (with_reducible refine rd_m1 ?_) | (with_reducible refine rd_isS ?_)
  | ((with_reducible refine rd_eq ?hs ?_); (case hs => exact rfl)) | ((with_reducible refine rd_ne ?hs ?_); (case hs => exact rfl))
  | (with_reducible refine rd_listRg ?_) | (with_reducible refine rd_rg2 ?_) | (with_reducible refine rd_rgk ?_)
  | (with_reducible refine rd_dnew ?_) | (with_reducible refine rd_ddel ?_) | (with_reducible refine rd_kw ?_) | (with_reducible refine rd_callS ?_) | (with_reducible refine rd_dc ?_) | (with_reducible refine rd_for ?_) | (with_reducible refine rd_tru ?_) | (with_reducible refine rd_truI ?_)
  | (with_reducible refine rd_nil ?_) | (with_reducible refine rd_cons ?_) | (with_reducible refine rd_call ?_) | (with_reducible refine rd_cb ?_)
  | (with_reducible refine rd_tup ?_) | (with_reducible refine rd_lst ?_) | (with_reducible refine rd_dget ?_) | (with_reducible refine rd_dput ?_) | (with_reducible refine rd_dget2 ?_) | (with_reducible refine rd_sl ?_)
  | (with_reducible refine rd_nopart ?_) | (with_reducible refine rd_part ?_) | (with_reducible refine rd_parti ?_) | (with_reducible refine rd_bm ?_) | (with_reducible refine rd_bm0 ?_)
  | (with_reducible refine rd_int ?_) | (with_reducible refine rd_intb ?_) | (with_reducible refine rd_abs ?_) | (with_reducible refine rd_min2 ?_) | (with_reducible refine rd_max2 ?_))
local macro_rules | `(tactic| walk_at "rds") => `(tactic| repeat (walk_at "rd"))
local macro_rules | `(tactic| walk_at "rq") => `(tactic| first
  | (with_reducible refine rd_seq ?_) | (with_reducible refine rd_asg ?_) | (with_reducible refine rd_ret ?_) | (with_reducible refine rd_next ?_)
  | (with_reducible refine rd_drop ?_) | ((with_reducible refine rd_name (σ' := ?ss) ?hs ?_); (case hs => (dsimp only [List.set]; exact rfl)))
  | ((with_reducible refine rd_var (v := ?vv) ?hv ?_); (case hv => exact rfl)) | (with_reducible refine rd_c ?_) | (with_reducible refine rd_op ?_) | (with_reducible refine rd_un ?_)
  | (with_reducible refine rd_I0 ?_) | (with_reducible refine rd_U ?_) | (with_reducible refine rd_test ?_) | (with_reducible refine rd_B ?_) | (with_reducible refine rd_k ?_)
  | (with_reducible refine rd_not ?_) | (with_reducible refine rd_and ?_) | (with_reducible refine rd_or ?_) | (with_reducible refine rd_ifE ?_)
  | (with_reducible refine rd_par ?_) | ((with_reducible refine rd_par2 (σ' := ?ss) ?hs ?_); (case hs => (dsimp only [List.set]; exact rfl)))
  | (with_reducible refine rd_gsub ?_) | (with_reducible refine rd_andV ?_) | (with_reducible refine rd_orV ?_) | (with_reducible refine rd_notV ?_)
  | (with_reducible refine rd_lc ?_) | (with_reducible refine rd_iTup ?_) | (with_reducible refine rd_iList ?_) | (with_reducible refine rd_iRng1 ?_) | (with_reducible refine rd_iRng2 ?_) | (with_reducible refine rd_iEnumT ?_) | (with_reducible refine rd_iEnum ?_) | (with_reducible refine rd_iZipM ?_) | (with_reducible refine rd_iEnumS ?_) | (with_reducible refine rd_iKeys ?_) | (with_reducible refine rd_din ?_) | (with_reducible refine rd_dnotin ?_)
  | (with_reducible refine rd_yes ?_) | (with_reducible refine rd_true ?_) | (with_reducible refine rd_false ?_) | (with_reducible refine rd_m1 ?_) | (with_reducible refine rd_isS ?_)
  | ((with_reducible refine rd_eq ?hs ?_); (case hs => exact rfl)) | ((with_reducible refine rd_ne ?hs ?_); (case hs => exact rfl))
  | (with_reducible refine rd_listRg ?_) | (with_reducible refine rd_rg2 ?_) | (with_reducible refine rd_rgk ?_)
  | (with_reducible refine rd_dnew ?_) | (with_reducible refine rd_ddel ?_) | (with_reducible refine rd_kw ?_) | (with_reducible refine rd_callS ?_) | (with_reducible refine rd_dc ?_) | (with_reducible refine rd_for ?_) | (with_reducible refine rd_tru ?_) | (with_reducible refine rd_truI ?_)
  | (with_reducible refine rd_nil ?_) | (with_reducible refine rd_cons ?_) | (with_reducible refine rd_call ?_) | (with_reducible refine rd_cb ?_)
  | (with_reducible refine rd_tup ?_) | (with_reducible refine rd_lst ?_) | (with_reducible refine rd_dget ?_) | (with_reducible refine rd_dput ?_) | (with_reducible refine rd_dget2 ?_) | (with_reducible refine rd_sl ?_)
  | (with_reducible refine rd_nopart ?_) | (with_reducible refine rd_part ?_) | (with_reducible refine rd_parti ?_) | (with_reducible refine rd_bm ?_) | (with_reducible refine rd_bm0 ?_)
  | (with_reducible refine rd_int ?_) | (with_reducible refine rd_intb ?_) | (with_reducible refine rd_abs ?_) | (with_reducible refine rd_min2 ?_) | (with_reducible refine rd_max2 ?_))
local macro_rules | `(tactic| walk_at "rqs") => `(tactic| repeat (walk_at "rq"))
local macro_rules | `(tactic| walk_at "rv") => `(tactic| first
  | (with_reducible refine rd_seq ?_) | (with_reducible refine rd_asg ?_) | (with_reducible refine rd_ret ?_) | (with_reducible refine rd_next ?_)
  | (with_reducible refine rd_drop ?_) | ((with_reducible refine rd_name (σ' := ?ss) ?hs ?_); (case hs => (dsimp only [List.set]; exact rfl)))
  | ((with_reducible refine rd_var (v := ?vv) ?hv ?_); (case hv => exact rfl)) | (with_reducible refine rd_c ?_) | (with_reducible refine rd_op ?_) | (with_reducible refine rd_un ?_)
  | (with_reducible refine rd_I0 ?_) | (with_reducible refine rd_U ?_) | (with_reducible refine rd_test ?_) | (with_reducible refine rd_B ?_) | (with_reducible refine rd_k ?_)
  | (with_reducible refine rd_not ?_) | (with_reducible refine rd_and ?_) | (with_reducible refine rd_or ?_)
  | (with_reducible refine rd_par ?_) | ((with_reducible refine rd_par2 (σ' := ?ss) ?hs ?_); (case hs => (dsimp only [List.set]; exact rfl)))
  | (with_reducible refine rd_gsub ?_) | (with_reducible refine rd_andV ?_) | (with_reducible refine rd_orV ?_) | (with_reducible refine rd_notV ?_)
  | (with_reducible refine rd_lc ?_) | (with_reducible refine rd_iTup ?_) | (with_reducible refine rd_iList ?_) | (with_reducible refine rd_iRng1 ?_) | (with_reducible refine rd_iRng2 ?_) | (with_reducible refine rd_iEnumT ?_) | (with_reducible refine rd_iEnum ?_) | (with_reducible refine rd_iZipM ?_) | (with_reducible refine rd_iEnumS ?_) | (with_reducible refine rd_iKeys ?_) | (with_reducible refine rd_din ?_) | (with_reducible refine rd_dnotin ?_)
  | (with_reducible refine rd_yes ?_) | (with_reducible refine rd_true ?_) | (with_reducible refine rd_false ?_) | (with_reducible refine rd_m1 ?_) | (with_reducible refine rd_isS ?_)
  | ((with_reducible refine rd_eq ?hs ?_); (case hs => exact rfl)) | ((with_reducible refine rd_ne ?hs ?_); (case hs => exact rfl))
  | (with_reducible refine rd_listRg ?_) | (with_reducible refine rd_rg2 ?_) | (with_reducible refine rd_rgk ?_)
  | (with_reducible refine rd_dnew ?_) | (with_reducible refine rd_ddel ?_) | (with_reducible refine rd_kw ?_) | (with_reducible refine rd_callS ?_) | (with_reducible refine rd_dc ?_) | (with_reducible refine rd_for ?_) | (with_reducible refine rd_tru ?_) | (with_reducible refine rd_truI ?_)
  | (with_reducible refine rd_nil ?_) | (with_reducible refine rd_cons ?_) | (with_reducible refine rd_call ?_) | (with_reducible refine rd_cb ?_)
  | (with_reducible refine rd_tup ?_) | (with_reducible refine rd_lst ?_) | (with_reducible refine rd_dget ?_) | (with_reducible refine rd_dput ?_) | (with_reducible refine rd_dget2 ?_) | (with_reducible refine rd_sl ?_)
  | (with_reducible refine rd_nopart ?_) | (with_reducible refine rd_part ?_) | (with_reducible refine rd_parti ?_) | (with_reducible refine rd_bm ?_) | (with_reducible refine rd_bm0 ?_)
  | (with_reducible refine rd_int ?_) | (with_reducible refine rd_intb ?_) | (with_reducible refine rd_abs ?_) | (with_reducible refine rd_min2 ?_) | (with_reducible refine rd_max2 ?_))
local macro_rules | `(tactic| walk_at "rvs") => `(tactic| repeat (walk_at "rv"))

section
variable {P : Program} {w : World} {K : PySem.W.Frag} {mg : Str → Option Value} {base : Heap}
def spLaw (K : PySem.W.Frag) : Sp := fun vs H Q _ => ∃ (a : Addr) (ns : List Int), vs = [.ref a] ∧ SqL K H a (ns.map V.int) ∧ ns.length ≤ 63 ∧ ∀ H', Q (.bl true) H'
theorem rd_ifV {tt : TT} {te tz : TE} {σ : L2.St} {H : Hp} {Q : VK} (I : V → Hp → Prop) (h1 : ∀ Q' : VK, (∀ v H', I v H' → Q' v H') → tIf tt te tz σ H Q') (h : ∀ v H', I v H' → Q v H') : tIf tt te tz σ H Q := h1 Q h
theorem ok_law {f fK fD fS fI fG fV fM : Addr} {fd fdK fdD fdS fdI fdG fdV fdM : FuncData} (F : Fun K "law" "law" slaw f fd) (T : Bl mg)
    (G_law_deck : FnOk P w K mg base CX0 1 fK fdK ["script"] (spDeck K)) (C_law_deck : Callee K mg "_law_deck" fK fdK ["script"])
    (G_law_draw : FnOk P w K mg base CX0 1 fD fdD ["deck", "many"] spDraw) (C_law_draw : Callee K mg "_law_draw" fD fdD ["deck", "many"])
    (G_law_sentence : FnOk P w K mg base CX0 4 fS fdS ["deck", "n", "many", "most"] (spSentence K)) (C_law_sentence : Callee K mg "_law_sentence" fS fdS ["deck", "n", "many", "most"])
    (G_law_is_told : FnOk P w K mg base CX0 17 fI fdI ["deck", "own"] (spTold K)) (C_law_is_told : Callee K mg "_law_is_told" fI fdI ["deck", "own"])
    (G_law_is_grown : FnG P w K mg base 18 fG fdG ["deck", "own"] (spGrown K)) (C_law_is_grown : Callee K mg "_law_is_grown" fG fdG ["deck", "own"])
    (G_law_is_given : FnOk P w K mg base CX0 18 fV fdV ["deck", "own"] (spGiven K)) (C_law_is_given : Callee K mg "_law_is_given" fV fdV ["deck", "own"])
    (G_law_is_mirrored : FnOk P w K mg base CX0 18 fM fdM ["deck", "own"] (spMirr K)) (C_law_is_mirrored : Callee K mg "_law_is_mirrored" fM fdM ["deck", "own"]) :
    FnG P w K mg base 19 f fd ["script"] (spLaw K) := by
  refine okG F sclaw (fun vs H Q E h => ?_) (fun cdv A outer s H vs Q E hr hg h => ?_)
  · obtain ⟨a, ns, rfl, _⟩ := h
    rfl
  · obtain ⟨a, ns, rfl, ha, hl, q⟩ := h
    refine ⟨_, (pss_cons (ps_set (i := 1) sclaw.nd rfl (Or.inl rfl) (pe_call G_law_deck (hr.mono (by decide)) (by rfl) C_law_deck.m C_law_deck.k C_law_deck.b .nil pass0 (pa_cons (pv 0) pa_nil)))
 (pss_cons (ps_for PassesOwn.never rfl (pi_range1 (by rfl) T.range (pa_cons pe_int pa_nil)) (pg_name (i := 2) sclaw.nd rfl (Or.inl rfl)) (pss_cons (ps_set (i := 3) sclaw.nd rfl (Or.inl rfl) (pe_op op_add pe_int (pe_call G_law_draw (hr.mono (by decide)) (by rfl) C_law_draw.m C_law_draw.k C_law_draw.b .nil pass0 (pa_cons (pv 1) (pa_cons (pe_ifExp (pt_cmpR op_lt (pv 2) pe_int (nomark _)) pe_int pe_int) pa_nil)))))
 (pss_cons (ps_set (i := 4) sclaw.nd rfl (Or.inl rfl) (pe_call G_law_sentence (hr.mono (by decide)) (by rfl) C_law_sentence.m C_law_sentence.k C_law_sentence.b .nil pass0 (pa_cons (pv 1) (pa_cons (pv 3) (pa_cons (pe_ifExp (pt_cmpR op_lt (pv 3) pe_int (nomark _)) pe_int (pe_op op_sub (pe_op op_sub pe_int (pv 3)) (pe_op op_mul (pe_op op_fdiv (pv 3) pe_int) pe_int))) (pa_cons pe_int pa_nil))))))
 (pss_cons (ps_set (i := 5) sclaw.nd rfl (Or.inl rfl) (pe_callB (c_reprV (K := K) rfl hg hr.units) (by rfl) T.repr (by decide +kernel) (pa_cons (pv 4) pa_nil)))
 (pss_cons (ps_if (PW.pt (pw_or (pt_not (pt_val (pe_call G_law_is_told (hr.mono (by decide)) (by rfl) C_law_is_told.m C_law_is_told.k C_law_is_told.b .nil pass0 (pa_cons (pv 1) (pa_cons (pv 4) pa_nil))))) (pw_or1 (pt_not (pt_val (pe_callG G_law_is_grown (hr.mono (by decide)) hg (by rfl) C_law_is_grown.m C_law_is_grown.k C_law_is_grown.b (pa_cons (pv 1) (pa_cons (pv 4) pa_nil)))))))) (pss_one (ps_ret pe_bl)) pss_nil)
 (pss_one (ps_if (PW.pt (pw_or (pt_not (pt_val (pe_call G_law_is_given (hr.mono (by decide)) (by rfl) C_law_is_given.m C_law_is_given.k C_law_is_given.b .nil pass0 (pa_cons (pv 1) (pa_cons (pv 4) pa_nil))))) (pw_or (pt_not (pt_val (pe_call G_law_is_mirrored (hr.mono (by decide)) (by rfl) C_law_is_mirrored.m C_law_is_mirrored.k C_law_is_mirrored.b .nil pass0 (pa_cons (pv 1) (pa_cons (pv 4) pa_nil))))) (pw_or1 (pt_cmpR op_ne (pe_callB (c_reprV (K := K) rfl hg hr.units) (by rfl) T.repr (by decide +kernel) (pa_cons (pv 4) pa_nil)) (pv 5) (nomark _)))))) (pss_one (ps_ret pe_bl)) pss_nil)))))))
 (pss_one (ps_ret pe_bl)))), ?_⟩
    refine rd_start (σ' := [some (.ref a), none, none, none, none, none]) rfl ?_
    walk_at "rvs"
    refine ⟨a, ns, rfl, ha, hl, fun d l H1 e1 hd hl0 hD1 => ?_⟩
    walk_at "rvs"
    refine rd_rng1 (by decide) (by decide) ?_
    refine fr_range (lo := 0) (n := 4) (fun i σ' H' => ∃ x2 x3 x4 x5 : Option V, σ' = [some (.ref a), some (.ref d), x2, x3, x4, x5] ∧ DeckL d l H')
      ⟨_, _, _, _, rfl, hD1⟩ (fun i σ' H2 hi hP => ?_) fun σ' H2 hP => ?_
    · obtain ⟨x2, x3, x4, x5, rfl, hD2⟩ := hP
      refine rd_start (σ' := [some (.ref a), some (.ref d), some (.int (0 + (i : Int))), x3, x4, x5]) rfl ?_
      walk_at "rvs"
      refine rd_ifV (fun v H' => ∃ m : Int, v = .int m ∧ 4 ≤ m ∧ m ≤ 6 ∧ H' = H2) (fun N kN => ?_) fun v H3 hv => ?_
      · walk_at "rds"
        refine rd_ite (fun c => ?_) (fun c => ?_)
        · walk_at "rds"
          exact kN _ _ ⟨4, rfl, by decide, by decide, rfl⟩
        · walk_at "rds"
          exact kN _ _ ⟨6, rfl, by decide, by decide, rfl⟩
      obtain ⟨m, rfl, m0, m1, rfl⟩ := hv
      walk_at "rvs"
      refine ⟨d, l, m, rfl, hD2, by omega, by omega, fun r H3 g3 r0 r1 => ?_⟩
      have hD3 := g3.dk
      clear g3 hD2
      obtain ⟨n, hn, n0, n1⟩ : ∃ n : Nat, 1 + r = (n : Int) ∧ 1 ≤ n ∧ n ≤ 6 := ⟨(1 + r).toNat, by omega, by omega, by omega⟩
      walk_at "rvs"
      rw [hn]
      walk_at "rvs"
      refine rd_ifV (fun v H' => ∃ m : Int, v = .int m ∧ 0 ≤ m ∧ m ≤ 8 ∧ H' = H3) (fun N kN => ?_) fun v H4 hv => ?_
      · walk_at "rds"
        refine rd_ite (fun c => ?_) (fun c => ?_)
        · walk_at "rds"
          exact kN _ _ ⟨8, rfl, by decide, by decide, rfl⟩
        · walk_at "rds"
          refine ⟨_, _, rfl, rfl, ⟨by decide, by decide⟩, ?_⟩
          walk_at "rds"
          refine ⟨_, _, rfl, rfl, .inr ⟨by decide, by decide⟩, ?_⟩
          walk_at "rds"
          exact kN _ _ ⟨_, rfl, by omega, by omega, rfl⟩
      obtain ⟨m2, rfl, m20, m21, rfl⟩ := hv
      walk_at "rvs"
      refine ⟨d, l, (n : Int), m2, 4, rfl, hD3, by omega, by omega, by omega, by omega, by decide, by decide, fun o z rs H5 g5 st hl4 => ?_⟩
      rw [Int.toNat_natCast] at st
      have hD5 := g5.dk
      have sen : Sen K H5 n o z rs := by
        obtain ⟨c, xs, s1, s2, dd, hz, hrow, _⟩ := st
        exact ⟨c, xs, s1, s2, dd, hz, by omega, hrow, by omega⟩
      have fs : Fair 20000 3 (sentD z rs) := by
        obtain ⟨c, xs, s1, s2, dd, hz, hrow, _⟩ := st
        exact fair_sent hz (by omega) hrow (by omega)
      clear g5 hD3 st
      walk_at "rvs"
      refine rd_reprV (.inl (sen_dp sen)) fs (by decide) (by decide) ?_
      walk_at "rvs"
      dsimp only
      refine rd_if ?_
      walk_at "rvs"
      refine ⟨d, l, o, z, n, rs, rfl, hD5, sen, by omega, by omega, fun H6 g6 => ?_⟩
      have sen6 := sen.gl g6 hD5
      walk_at "rvs"
      refine (if_neg Bool.false_ne_true).mpr ?_
      walk_at "rvs"
      refine ⟨d, l, o, z, n, rs, rfl, g6.dk, sen6, by omega, by omega, by omega, fun H7 g7 => ?_⟩
      have sen7 := sen6.gl g7 g6.dk
      walk_at "rvs"
      refine (if_neg Bool.false_ne_true).mpr ?_
      walk_at "rvs"
      dsimp only
      refine rd_if ?_
      walk_at "rvs"
      refine ⟨d, l, o, z, n, rs, rfl, g7.dk, sen7, by omega, by omega, by omega, fun H8 g8 => ?_⟩
      have sen8 := sen7.gl g8 g7.dk
      walk_at "rvs"
      refine (if_neg Bool.false_ne_true).mpr ?_
      walk_at "rvs"
      refine ⟨d, l, o, z, n, rs, rfl, g8.dk, sen8, by omega, by omega, by omega, fun H9 g9 => ?_⟩
      have sen9 := sen8.gl g9 g8.dk
      walk_at "rvs"
      refine (if_neg Bool.false_ne_true).mpr ?_
      walk_at "rvs"
      refine rd_reprV (.inl (sen_dp sen9)) fs (by decide) (by decide) ?_
      walk_at "rvs"
      refine rd_iten (fun c => absurd rfl c) (fun _ => ?_)
      walk_at "rvs"
      exact ⟨_, _, _, _, rfl, g9.dk⟩
    · obtain ⟨x2, x3, x4, x5, rfl, hD2⟩ := hP
      walk_at "rvs"
      exact q _
end
end KA
set_option Elab.async false
set_option linter.all false
set_option maxRecDepth 100000
set_option maxHeartbeats 400000
namespace KA
open PySem PySem.Spec PyProof.Rows L2 Ea
theorem cls_if {K : PySem.W.Frag} {S : Addr} {o : Option Bool} (h2 : PySem.W.isClsIn K S = true) (h3 : PySem.W.typeIn K (.ref S) = some (.type "type")) :
    (if ((PySem.W.clsIn K S).isSome && PySem.W.typeIn K (.ref S) == some (.type "type")) = true then o else none) = o := by
  have q : (PySem.W.clsIn K S).isSome = true := h2
  rw [q, h3]
  exact if_pos rfl
theorem kit_up {K : PySem.W.Frag} {t : Value} {S : Addr} (h2 : PySem.W.isClsIn K S = true) (h3 : PySem.W.typeIn K (.ref S) = some (.type "type")) (h4 : PySem.W.subIn K t (.ref S) = some true) : PySem.W.kitOne K t (.ref S) = some true := by
  have e : PySem.W.kitCls K t (.ref S) = some true := (cls_if h2 h3).trans h4
  unfold PySem.W.kitOne
  rw [e]
  split <;> rfl
theorem kit_ty {K : PySem.W.Frag} {t : Value} (h : PySem.W.subIn K t (.type "ValueError") = some true) : PySem.W.kitOne K t (.type "ValueError") = some true := by
  have m : PySem.W.kitMeta "ValueError" = true := by first | decide +kernel | rfl | kernel_rfl
  have e : PySem.W.kitCls K t (.type "ValueError") = some true := by
    show (if PySem.W.kitMeta "ValueError" = true then PySem.W.subIn K t (.type "ValueError") else none) = some true
    rw [if_pos m]
    exact h
  unfold PySem.W.kitOne
  rw [e]
  split <;> rfl
theorem exm_same {K : PySem.W.Frag} {S : Addr} (h1 : PySem.W.subIn K (.ref S) (.type "BaseException") = some true) (h2 : PySem.W.isClsIn K S = true) (h3 : PySem.W.typeIn K (.ref S) = some (.type "type")) (h4 : PySem.W.subIn K (.ref S) (.ref S) = some true) : PySem.W.exmOne K (.ref S) (.ref S) = some true := by
  have e : PySem.W.kitCls K (.ref S) (.ref S) = some true := (cls_if h2 h3).trans h4
  unfold PySem.W.exmOne
  rw [h1, e]
  exact if_pos rfl
abbrev iArgs : Arguments := {
                  posonlyargs := [],
                  args := [
                    { arg := "self", annotation := none, pos := ⟨7, 17, 7, 21⟩ : PySem.Arg },
                    { arg := "limit", annotation := none, pos := ⟨7, 23, 7, 28⟩ : PySem.Arg }],
                  vararg := none,
                  kwonlyargs := [],
                  kw_defaults := [],
                  kwarg := none,
                  defaults := [] : PySem.Arguments }
abbrev iScope : Scope := {
                  kind := PySem.ScopeKind.function,
                  names := [
                    (PySem.Str.ofString "self", PySem.NameKind.local),
                    (PySem.Str.ofString "limit", PySem.NameKind.local),
                    (PySem.Str.ofString "__class__", PySem.NameKind.free),
                    (PySem.Str.ofString "super", PySem.NameKind.globalImplicit)],
                  isGenerator := false,
                  isCoroutine := false,
                  more := [] : PySem.Scope }
abbrev iBody : List Stmt := supBody "self" "limit" "there are more than the limit" ⟨8, 8, 8, 13⟩ ⟨8, 8, 8, 15⟩ ⟨8, 8, 8, 24⟩ ⟨8, 25, 8, 56⟩ ⟨8, 8, 8, 57⟩ ⟨8, 8, 8, 57⟩ ⟨9, 8, 9, 12⟩ ⟨9, 8, 9, 18⟩ ⟨9, 21, 9, 26⟩ ⟨9, 8, 9, 26⟩ 0
theorem all_mk {l : PySem.W.OpenLaw} {w : World} {K : PySem.W.Frag} {h : Heap} {mg : Str → Option Value} {fa f0 f1 f2 f3 f4 f5 f6 f7 f8 f9 f10 f11 f12 f13 f14 f15 f16 f17 f18 f19 f20 f21 f22 f23 f24 f25 f26 f27 f28 C CG : Addr} (X : K.In h) (G : h.Ns mainGlobals mg) (hfa : mg "law" = some (.ref fa))
    {od0 an0 : Option Addr} {sl0 : Array (Option Value)} {oc0 kV0 dc0 pm0 cd0 ct0 : Value} {od1 an1 : Option Addr} {sl1 : Array (Option Value)} {oc1 kV1 dc1 pm1 cd1 ct1 : Value} {od2 an2 : Option Addr} {sl2 : Array (Option Value)} {oc2 kV2 dc2 pm2 cd2 ct2 : Value} {od3 an3 : Option Addr} {sl3 : Array (Option Value)} {oc3 kV3 dc3 pm3 cd3 ct3 : Value} {od4 an4 : Option Addr} {sl4 : Array (Option Value)} {oc4 kV4 dc4 pm4 cd4 ct4 : Value} {od5 an5 : Option Addr} {sl5 : Array (Option Value)} {oc5 kV5 dc5 pm5 cd5 ct5 : Value} {od6 an6 : Option Addr} {sl6 : Array (Option Value)} {oc6 kV6 dc6 pm6 cd6 ct6 : Value} {od7 an7 : Option Addr} {sl7 : Array (Option Value)} {oc7 kV7 dc7 pm7 cd7 ct7 : Value} {od8 an8 : Option Addr} {sl8 : Array (Option Value)} {oc8 kV8 dc8 pm8 cd8 ct8 : Value} {od9 an9 : Option Addr} {sl9 : Array (Option Value)} {oc9 kV9 dc9 pm9 cd9 ct9 : Value} {od10 an10 : Option Addr} {sl10 : Array (Option Value)} {oc10 kV10 dc10 pm10 cd10 ct10 : Value} {od11 an11 : Option Addr} {sl11 : Array (Option Value)} {oc11 kV11 dc11 pm11 cd11 ct11 : Value} {od12 an12 : Option Addr} {sl12 : Array (Option Value)} {oc12 kV12 dc12 pm12 cd12 ct12 : Value} {od13 an13 : Option Addr} {sl13 : Array (Option Value)} {oc13 kV13 dc13 pm13 cd13 ct13 : Value} {od14 an14 : Option Addr} {sl14 : Array (Option Value)} {oc14 kV14 dc14 pm14 cd14 ct14 : Value} {od15 an15 : Option Addr} {sl15 : Array (Option Value)} {oc15 kV15 dc15 pm15 cd15 ct15 : Value} {od16 an16 : Option Addr} {sl16 : Array (Option Value)} {oc16 kV16 dc16 pm16 cd16 ct16 : Value} {od17 an17 : Option Addr} {sl17 : Array (Option Value)} {oc17 kV17 dc17 pm17 cd17 ct17 : Value} {od18 an18 : Option Addr} {sl18 : Array (Option Value)} {oc18 kV18 dc18 pm18 cd18 ct18 : Value} {od19 an19 : Option Addr} {sl19 : Array (Option Value)} {oc19 kV19 dc19 pm19 cd19 ct19 : Value} {od20 an20 : Option Addr} {sl20 : Array (Option Value)} {oc20 kV20 dc20 pm20 cd20 ct20 : Value} {od21 an21 : Option Addr} {sl21 : Array (Option Value)} {oc21 kV21 dc21 pm21 cd21 ct21 : Value} {od22 an22 : Option Addr} {sl22 : Array (Option Value)} {oc22 kV22 dc22 pm22 cd22 ct22 : Value} {od23 an23 : Option Addr} {sl23 : Array (Option Value)} {oc23 kV23 dc23 pm23 cd23 ct23 : Value} {od24 an24 : Option Addr} {sl24 : Array (Option Value)} {oc24 kV24 dc24 pm24 cd24 ct24 : Value} {od25 an25 : Option Addr} {sl25 : Array (Option Value)} {oc25 kV25 dc25 pm25 cd25 ct25 : Value} {od26 an26 : Option Addr} {sl26 : Array (Option Value)} {oc26 kV26 dc26 pm26 cd26 ct26 : Value} {od27 an27 : Option Addr} {sl27 : Array (Option Value)} {oc27 kV27 dc27 pm27 cd27 ct27 : Value} {od28 an28 : Option Addr} {sl28 : Array (Option Value)} {oc28 kV28 dc28 pm28 cd28 ct28 : Value}
    (a0 : PySem.W.nsIn K mainGlobals "check_size" = some (some (.ref f0))) (l0 : K.lookup f0 = some ⟨oc0, od0, .func (PySem.W.fnOf "check_size" "check_size" (defArgs scheck_size) (defBody scheck_size) (defScope scheck_size) .none kV0 dc0 pm0 an0 cd0 ct0), sl0⟩) (c0 : PySem.W.codeIn K cd0 "check_size" = true) (k0 : PySem.W.keepIn K (.ref f0) = true)
    (a1 : PySem.W.nsIn K mainGlobals "owner_of" = some (some (.ref f1))) (l1 : K.lookup f1 = some ⟨oc1, od1, .func (PySem.W.fnOf "owner_of" "owner_of" (defArgs sowner_of) (defBody sowner_of) (defScope sowner_of) .none kV1 dc1 pm1 an1 cd1 ct1), sl1⟩) (c1 : PySem.W.codeIn K cd1 "owner_of" = true) (k1 : PySem.W.keepIn K (.ref f1) = true)
    (a2 : PySem.W.nsIn K mainGlobals "less" = some (some (.ref f2))) (l2 : K.lookup f2 = some ⟨oc2, od2, .func (PySem.W.fnOf "less" "less" (defArgs sless) (defBody sless) (defScope sless) .none kV2 dc2 pm2 an2 cd2 ct2), sl2⟩) (c2 : PySem.W.codeIn K cd2 "less" = true) (k2 : PySem.W.keepIn K (.ref f2) = true)
    (a3 : PySem.W.nsIn K mainGlobals "state_of" = some (some (.ref f3))) (l3 : K.lookup f3 = some ⟨oc3, od3, .func (PySem.W.fnOf "state_of" "state_of" (defArgs sstate_of) (defBody sstate_of) (defScope sstate_of) .none kV3 dc3 pm3 an3 cd3 ct3), sl3⟩) (c3 : PySem.W.codeIn K cd3 "state_of" = true) (k3 : PySem.W.keepIn K (.ref f3) = true)
    (a4 : PySem.W.nsIn K mainGlobals "unset_part" = some (some (.ref f4))) (l4 : K.lookup f4 = some ⟨oc4, od4, .func (PySem.W.fnOf "unset_part" "unset_part" (defArgs sunset_part) (defBody sunset_part) (defScope sunset_part) .none kV4 dc4 pm4 an4 cd4 ct4), sl4⟩) (c4 : PySem.W.codeIn K cd4 "unset_part" = true) (k4 : PySem.W.keepIn K (.ref f4) = true)
    (a5 : PySem.W.nsIn K mainGlobals "asked_from" = some (some (.ref f5))) (l5 : K.lookup f5 = some ⟨oc5, od5, .func (PySem.W.fnOf "asked_from" "asked_from" (defArgs sasked_from) (defBody sasked_from) (defScope sasked_from) .none kV5 dc5 pm5 an5 cd5 ct5), sl5⟩) (c5 : PySem.W.codeIn K cd5 "asked_from" = true) (k5 : PySem.W.keepIn K (.ref f5) = true)
    (a6 : PySem.W.nsIn K mainGlobals "asked_behind" = some (some (.ref f6))) (l6 : K.lookup f6 = some ⟨oc6, od6, .func (PySem.W.fnOf "asked_behind" "asked_behind" (defArgs sasked_behind) (defBody sasked_behind) (defScope sasked_behind) .none kV6 dc6 pm6 an6 cd6 ct6), sl6⟩) (c6 : PySem.W.codeIn K cd6 "asked_behind" = true) (k6 : PySem.W.keepIn K (.ref f6) = true)
    (a7 : PySem.W.nsIn K mainGlobals "some_wins" = some (some (.ref f7))) (l7 : K.lookup f7 = some ⟨oc7, od7, .func (PySem.W.fnOf "some_wins" "some_wins" (defArgs ssome_wins) (defBody ssome_wins) (defScope ssome_wins) .none kV7 dc7 pm7 an7 cd7 ct7), sl7⟩) (c7 : PySem.W.codeIn K cd7 "some_wins" = true) (k7 : PySem.W.keepIn K (.ref f7) = true)
    (a8 : PySem.W.nsIn K mainGlobals "winner" = some (some (.ref f8))) (l8 : K.lookup f8 = some ⟨oc8, od8, .func (PySem.W.fnOf "winner" "winner" (defArgs swinner) (defBody swinner) (defScope swinner) .none kV8 dc8 pm8 an8 cd8 ct8), sl8⟩) (c8 : PySem.W.codeIn K cd8 "winner" = true) (k8 : PySem.W.keepIn K (.ref f8) = true)
    (a9 : PySem.W.nsIn K mainGlobals "winning_ways" = some (some (.ref f9))) (l9 : K.lookup f9 = some ⟨oc9, od9, .func (PySem.W.fnOf "winning_ways" "winning_ways" (defArgs swinning_ways) (defBody swinning_ways) (defScope swinning_ways) .none kV9 dc9 pm9 an9 cd9 ct9), sl9⟩) (c9 : PySem.W.codeIn K cd9 "winning_ways" = true) (k9 : PySem.W.keepIn K (.ref f9) = true)
    (a10 : PySem.W.nsIn K mainGlobals "trees" = some (some (.ref f10))) (l10 : K.lookup f10 = some ⟨oc10, od10, .func (PySem.W.fnOf "trees" "trees" (defArgs strees) (defBody strees) (defScope strees) .none kV10 dc10 pm10 an10 cd10 ct10), sl10⟩) (c10 : PySem.W.codeIn K cd10 "trees" = true) (k10 : PySem.W.keepIn K (.ref f10) = true)
    (a11 : PySem.W.nsIn K mainGlobals "good_moves" = some (some (.ref f11))) (l11 : K.lookup f11 = some ⟨oc11, od11, .func (PySem.W.fnOf "good_moves" "good_moves" (defArgs sgood_moves) (defBody sgood_moves) (defScope sgood_moves) .none kV11 dc11 pm11 an11 cd11 ct11), sl11⟩) (c11 : PySem.W.codeIn K cd11 "good_moves" = true) (k11 : PySem.W.keepIn K (.ref f11) = true)
    (a12 : PySem.W.nsIn K mainGlobals "_law_deck" = some (some (.ref f12))) (l12 : K.lookup f12 = some ⟨oc12, od12, .func (PySem.W.fnOf "_law_deck" "_law_deck" (defArgs s_law_deck) (defBody s_law_deck) (defScope s_law_deck) .none kV12 dc12 pm12 an12 cd12 ct12), sl12⟩) (c12 : PySem.W.codeIn K cd12 "_law_deck" = true) (k12 : PySem.W.keepIn K (.ref f12) = true)
    (a13 : PySem.W.nsIn K mainGlobals "_law_draw" = some (some (.ref f13))) (l13 : K.lookup f13 = some ⟨oc13, od13, .func (PySem.W.fnOf "_law_draw" "_law_draw" (defArgs s_law_draw) (defBody s_law_draw) (defScope s_law_draw) .none kV13 dc13 pm13 an13 cd13 ct13), sl13⟩) (c13 : PySem.W.codeIn K cd13 "_law_draw" = true) (k13 : PySem.W.keepIn K (.ref f13) = true)
    (a14 : PySem.W.nsIn K mainGlobals "_law_pick" = some (some (.ref f14))) (l14 : K.lookup f14 = some ⟨oc14, od14, .func (PySem.W.fnOf "_law_pick" "_law_pick" (defArgs s_law_pick) (defBody s_law_pick) (defScope s_law_pick) .none kV14 dc14 pm14 an14 cd14 ct14), sl14⟩) (c14 : PySem.W.codeIn K cd14 "_law_pick" = true) (k14 : PySem.W.keepIn K (.ref f14) = true)
    (a15 : PySem.W.nsIn K mainGlobals "_law_mixed" = some (some (.ref f15))) (l15 : K.lookup f15 = some ⟨oc15, od15, .func (PySem.W.fnOf "_law_mixed" "_law_mixed" (defArgs s_law_mixed) (defBody s_law_mixed) (defScope s_law_mixed) .none kV15 dc15 pm15 an15 cd15 ct15), sl15⟩) (c15 : PySem.W.codeIn K cd15 "_law_mixed" = true) (k15 : PySem.W.keepIn K (.ref f15) = true)
    (a16 : PySem.W.nsIn K mainGlobals "_law_owners" = some (some (.ref f16))) (l16 : K.lookup f16 = some ⟨oc16, od16, .func (PySem.W.fnOf "_law_owners" "_law_owners" (defArgs s_law_owners) (defBody s_law_owners) (defScope s_law_owners) .none kV16 dc16 pm16 an16 cd16 ct16), sl16⟩) (c16 : PySem.W.codeIn K cd16 "_law_owners" = true) (k16 : PySem.W.keepIn K (.ref f16) = true)
    (a17 : PySem.W.nsIn K mainGlobals "_law_clause" = some (some (.ref f17))) (l17 : K.lookup f17 = some ⟨oc17, od17, .func (PySem.W.fnOf "_law_clause" "_law_clause" (defArgs s_law_clause) (defBody s_law_clause) (defScope s_law_clause) .none kV17 dc17 pm17 an17 cd17 ct17), sl17⟩) (c17 : PySem.W.codeIn K cd17 "_law_clause" = true) (k17 : PySem.W.keepIn K (.ref f17) = true)
    (a18 : PySem.W.nsIn K mainGlobals "_law_unlike" = some (some (.ref f18))) (l18 : K.lookup f18 = some ⟨oc18, od18, .func (PySem.W.fnOf "_law_unlike" "_law_unlike" (defArgs s_law_unlike) (defBody s_law_unlike) (defScope s_law_unlike) .none kV18 dc18 pm18 an18 cd18 ct18), sl18⟩) (c18 : PySem.W.codeIn K cd18 "_law_unlike" = true) (k18 : PySem.W.keepIn K (.ref f18) = true)
    (a19 : PySem.W.nsIn K mainGlobals "_law_sentence" = some (some (.ref f19))) (l19 : K.lookup f19 = some ⟨oc19, od19, .func (PySem.W.fnOf "_law_sentence" "_law_sentence" (defArgs s_law_sentence) (defBody s_law_sentence) (defScope s_law_sentence) .none kV19 dc19 pm19 an19 cd19 ct19), sl19⟩) (c19 : PySem.W.codeIn K cd19 "_law_sentence" = true) (k19 : PySem.W.keepIn K (.ref f19) = true)
    (a20 : PySem.W.nsIn K mainGlobals "_law_free" = some (some (.ref f20))) (l20 : K.lookup f20 = some ⟨oc20, od20, .func (PySem.W.fnOf "_law_free" "_law_free" (defArgs s_law_free) (defBody s_law_free) (defScope s_law_free) .none kV20 dc20 pm20 an20 cd20 ct20), sl20⟩) (c20 : PySem.W.codeIn K cd20 "_law_free" = true) (k20 : PySem.W.keepIn K (.ref f20) = true)
    (a21 : PySem.W.nsIn K mainGlobals "_law_ends" = some (some (.ref f21))) (l21 : K.lookup f21 = some ⟨oc21, od21, .func (PySem.W.fnOf "_law_ends" "_law_ends" (defArgs s_law_ends) (defBody s_law_ends) (defScope s_law_ends) .none kV21 dc21 pm21 an21 cd21 ct21), sl21⟩) (c21 : PySem.W.codeIn K cd21 "_law_ends" = true) (k21 : PySem.W.keepIn K (.ref f21) = true)
    (a22 : PySem.W.nsIn K mainGlobals "_law_good" = some (some (.ref f22))) (l22 : K.lookup f22 = some ⟨oc22, od22, .func (PySem.W.fnOf "_law_good" "_law_good" (defArgs s_law_good) (defBody s_law_good) (defScope s_law_good) .none kV22 dc22 pm22 an22 cd22 ct22), sl22⟩) (c22 : PySem.W.codeIn K cd22 "_law_good" = true) (k22 : PySem.W.keepIn K (.ref f22) = true)
    (a23 : PySem.W.nsIn K mainGlobals "_law_is_told" = some (some (.ref f23))) (l23 : K.lookup f23 = some ⟨oc23, od23, .func (PySem.W.fnOf "_law_is_told" "_law_is_told" (defArgs s_law_is_told) (defBody s_law_is_told) (defScope s_law_is_told) .none kV23 dc23 pm23 an23 cd23 ct23), sl23⟩) (c23 : PySem.W.codeIn K cd23 "_law_is_told" = true) (k23 : PySem.W.keepIn K (.ref f23) = true)
    (a24 : PySem.W.nsIn K mainGlobals "_law_wins" = some (some (.ref f24))) (l24 : K.lookup f24 = some ⟨oc24, od24, .func (PySem.W.fnOf "_law_wins" "_law_wins" (defArgs s_law_wins) (defBody s_law_wins) (defScope s_law_wins) .none kV24 dc24 pm24 an24 cd24 ct24), sl24⟩) (c24 : PySem.W.codeIn K cd24 "_law_wins" = true) (k24 : PySem.W.keepIn K (.ref f24) = true)
    (a25 : PySem.W.nsIn K mainGlobals "_law_is_grown" = some (some (.ref f25))) (l25 : K.lookup f25 = some ⟨oc25, od25, .func (PySem.W.fnOf "_law_is_grown" "_law_is_grown" (defArgs s_law_is_grown) (defBody s_law_is_grown) (defScope s_law_is_grown) .none kV25 dc25 pm25 an25 cd25 ct25), sl25⟩) (c25 : PySem.W.codeIn K cd25 "_law_is_grown" = true) (k25 : PySem.W.keepIn K (.ref f25) = true)
    (a26 : PySem.W.nsIn K mainGlobals "_law_is_given" = some (some (.ref f26))) (l26 : K.lookup f26 = some ⟨oc26, od26, .func (PySem.W.fnOf "_law_is_given" "_law_is_given" (defArgs s_law_is_given) (defBody s_law_is_given) (defScope s_law_is_given) .none kV26 dc26 pm26 an26 cd26 ct26), sl26⟩) (c26 : PySem.W.codeIn K cd26 "_law_is_given" = true) (k26 : PySem.W.keepIn K (.ref f26) = true)
    (a27 : PySem.W.nsIn K mainGlobals "_law_is_mirrored" = some (some (.ref f27))) (l27 : K.lookup f27 = some ⟨oc27, od27, .func (PySem.W.fnOf "_law_is_mirrored" "_law_is_mirrored" (defArgs s_law_is_mirrored) (defBody s_law_is_mirrored) (defScope s_law_is_mirrored) .none kV27 dc27 pm27 an27 cd27 ct27), sl27⟩) (c27 : PySem.W.codeIn K cd27 "_law_is_mirrored" = true) (k27 : PySem.W.keepIn K (.ref f27) = true)
    (a28 : PySem.W.nsIn K mainGlobals "law" = some (some (.ref f28))) (l28 : K.lookup f28 = some ⟨oc28, od28, .func (PySem.W.fnOf "law" "law" (defArgs slaw) (defBody slaw) (defScope slaw) .none kV28 dc28 pm28 an28 cd28 ct28), sl28⟩) (c28 : PySem.W.codeIn K cd28 "law" = true) (k28 : PySem.W.keepIn K (.ref f28) = true)
    (z0 : PySem.W.nsIn K mainGlobals "len" = some none) (z1 : PySem.W.nsIn K mainGlobals "abs" = some none) (z2 : PySem.W.nsIn K mainGlobals "min" = some none) (z3 : PySem.W.nsIn K mainGlobals "max" = some none) (z4 : PySem.W.nsIn K mainGlobals "sorted" = some none) (z5 : PySem.W.nsIn K mainGlobals "tuple" = some none) (z6 : PySem.W.nsIn K mainGlobals "list" = some none) (z7 : PySem.W.nsIn K mainGlobals "set" = some none) (z8 : PySem.W.nsIn K mainGlobals "int" = some none) (z9 : PySem.W.nsIn K mainGlobals "range" = some none) (z10 : PySem.W.nsIn K mainGlobals "repr" = some none) (z11 : PySem.W.nsIn K mainGlobals "isinstance" = some none) (z12 : PySem.W.nsIn K mainGlobals "enumerate" = some none) (z13 : PySem.W.nsIn K mainGlobals "zip" = some none) (z14 : PySem.W.nsIn K mainGlobals "sum" = some none) (z15 : PySem.W.nsIn K mainGlobals "all" = some none) (z16 : PySem.W.nsIn K mainGlobals "any" = some none) (z17 : PySem.W.nsIn K mainGlobals "str" = some none) (z18 : PySem.W.nsIn K mainGlobals "bool" = some none)
    {fI cda cc : Addr} {tnm tqn : Str} {tN : Addr} {tbs tmr : List Value} {tsn : List Str} {tsb : List Value} {tab : Bool} {tcol : Option Bool} {tdd : Option Addr} {tk0 tk1 tk2 tk3 tk5 : Option Value} {toc : Value} {tod : Option Addr} {tkV tdoc tpm tct : Value} {tan : Option Addr} {tsl : Array (Option Value)}
    {tc1 : Value} {tc2 : Option Addr} {tfv : Array Value} {tc3 : Array (Option Value)} {tfile0 : Str} {ttf : Tok} {tcl : Value} {tcld : Option Addr} {tcsl : Array (Option Value)}
    (taC : PySem.W.nsIn K mainGlobals "TooMany" = some (some (.ref C))) (taG : PySem.W.nsIn K mainGlobals "GameError" = some (some (.ref CG)))
    (tlC : K.lookup C = some (excClassObj tnm tqn C tN tbs tmr true tsn tsb tab tcol tdd tk0 tk1 tk2 tk3 tk5 "ValueError.__new__")) (tbm : PySem.HandSPX.refsVE tmr = true)
    (tsa : PySem.W.findIn K (.ref C) "__setattr__" = some (some (.builtin "object.__setattr__")))
    (xb : PySem.W.subIn K (.ref C) (.type "BaseException") = some true) (xt : PySem.W.typeIn K (.ref C) = some (.type "type")) (xk : PySem.W.keepIn K (.ref C) = true)
    (tiC : PySem.W.findIn K (.ref C) "__init__" = some (some (.ref fI))) (ttI : PySem.W.typeIn K (.ref fI) = some (.type "function"))
    (tlI : K.lookup fI = some ⟨toc, tod, .func (PySem.W.ksFn "__init__" "TooMany.__init__" iArgs iBody iScope .none tkV tdoc tpm tan (.ref cda) tct cc), tsl⟩)
    (tcI : PySem.W.codeIn K (.ref cda) "TooMany.__init__" = true) (tlc : K.lookup cda = some ⟨tc1, tc2, .fields tfv, tc3⟩) (tvs : tfv[2]? = some (.str tfile0 ttf)) (tfile : ((l.prog.main.file : Str) == tfile0) = true)
    (ttop : (l.prog.main.scope.names.lookup ("super" : Str)).isSome = false) (tcc : K.lookup cc = some ⟨tcl, tcld, .cell (some (.ref C)), tcsl⟩)
    (tsub : PySem.W.mroIn K C (.ref C) = some true)
    (txq : PySem.W.excInitIn K C [.type "ValueError", .type "Exception", .type "BaseException", .type "object"] "ValueError.__new__" = true)
    (tsup : PySem.W.ks_superIn K C C "__init__" = some (some (.builtin "ValueError.__init__")))
    (tsV : PySem.W.subIn K (.ref C) (.type "ValueError") = some true) (top : PySem.W.nsIn K cStatics "thirdparty.any" = some none) (tzs : PySem.W.nsIn K mainGlobals "super" = some none)
    (tno : PySem.W.findIn K (.ref C) "limit" = some none)
    (u1 : PySem.W.findIn K (.ref C) "__getattribute__" = some (some (.builtin "BaseException.__getattribute__"))) (u2 : PySem.W.findIn K (.ref C) "__getattr__" = some none)
    (u4 : PySem.W.hasDictIn K C = true) (u5 : PySem.W.findIn K (.ref C) "__class__" = some (some (.builtin "object.__class__")))
    (u6 : PySem.W.specialIn K (.builtin "object.__class__") "__get__" = some (some (.builtin "getset_descriptor.__get__"))) (u7 : PySem.W.takesIn K (.builtin "object.__class__") = some true)
    (u8 : PySem.W.mroIn K C (.type "object") = some true) (iC : PySem.W.isClsIn K C = true) (sC : PySem.W.subIn K (.ref C) (.ref C) = some true) (iG : PySem.W.isClsIn K CG = true) (tG : PySem.W.typeIn K (.ref CG) = some (.type "type")) (sG : PySem.W.subIn K (.ref C) (.ref CG) = some true)
    (zV : PySem.W.nsIn K mainGlobals "ValueError" = some none)
    {tiMAX_SEARCH : Tok} (aiMAX_SEARCH : PySem.W.nsIn K mainGlobals "MAX_SEARCH" = some (some (.int 12 tiMAX_SEARCH)))
    : ∃ fd : FuncData, (∀ (s : Shared) (v : Value), BindsTo s fd ⟨[v], []⟩ [("script", v)]) ∧ ∀ base : Heap, K.In base → base.Ns mainGlobals mg → FnG l.prog w K mg base 19 fa fd ["script"] (spLaw K) := by
  have e := hfa.symm.trans (PySem.W.mg_of X G a28)
  cases e
  have F0 := fun_mk (st := scheck_size) l0 c0 k0
  have b0 := F0.binds (ps := ["sentence"]) fun _ _ _ _ _ _ us hl => match us, hl with | [_], _ => rfl
  have Ccheck_size : Callee K mg "check_size" f0 _ ["sentence"] := ⟨PySem.W.mg_of X G a0, k0, b0⟩
  have F1 := fun_mk (st := sowner_of) l1 c1 k1
  have b1 := F1.binds (ps := ["sentence", "letter"]) fun _ _ _ _ _ _ us hl => match us, hl with | [_, _], _ => rfl
  have Cowner_of : Callee K mg "owner_of" f1 _ ["sentence", "letter"] := ⟨PySem.W.mg_of X G a1, k1, b1⟩
  have F2 := fun_mk (st := sless) l2 c2 k2
  have b2 := F2.binds (ps := ["sentence", "places"]) fun _ _ _ _ _ _ us hl => match us, hl with | [_, _], _ => rfl
  have Cless : Callee K mg "less" f2 _ ["sentence", "places"] := ⟨PySem.W.mg_of X G a2, k2, b2⟩
  have F3 := fun_mk (st := sstate_of) l3 c3 k3
  have b3 := F3.binds (ps := ["clause", "play"]) fun _ _ _ _ _ _ us hl => match us, hl with | [_, _], _ => rfl
  have Cstate_of : Callee K mg "state_of" f3 _ ["clause", "play"] := ⟨PySem.W.mg_of X G a3, k3, b3⟩
  have F4 := fun_mk (st := sunset_part) l4 c4 k4
  have b4 := F4.binds (ps := ["clause", "play"]) fun _ _ _ _ _ _ us hl => match us, hl with | [_, _], _ => rfl
  have Cunset_part : Callee K mg "unset_part" f4 _ ["clause", "play"] := ⟨PySem.W.mg_of X G a4, k4, b4⟩
  have F5 := fun_mk (st := sasked_from) l5 c5 k5
  have b5 := F5.binds (ps := ["sentence", "play"]) fun _ _ _ _ _ _ us hl => match us, hl with | [_, _], _ => rfl
  have Casked_from : Callee K mg "asked_from" f5 _ ["sentence", "play"] := ⟨PySem.W.mg_of X G a5, k5, b5⟩
  have F6 := fun_mk (st := sasked_behind) l6 c6 k6
  have b6 := F6.binds (ps := ["asked", "literal"]) fun _ _ _ _ _ _ us hl => match us, hl with | [_, _], _ => rfl
  have Casked_behind : Callee K mg "asked_behind" f6 _ ["asked", "literal"] := ⟨PySem.W.mg_of X G a6, k6, b6⟩
  have F7 := fun_mk (st := ssome_wins) l7 c7 k7
  have b7 := F7.binds (ps := ["owners", "letter", "asked"]) fun _ _ _ _ _ _ us hl => match us, hl with | [_, _, _], _ => rfl
  have Csome_wins : Callee K mg "some_wins" f7 _ ["owners", "letter", "asked"] := ⟨PySem.W.mg_of X G a7, k7, b7⟩
  have F8 := fun_mk (st := swinner) l8 c8 k8
  have b8 := F8.binds (ps := ["sentence", "play"]) fun _ _ _ _ _ _ us hl => match us, hl with | [_, _], _ => rfl
  have Cwinner : Callee K mg "winner" f8 _ ["sentence", "play"] := ⟨PySem.W.mg_of X G a8, k8, b8⟩
  have F9 := fun_mk (st := swinning_ways) l9 c9 k9
  have b9 := F9.binds (ps := ["owners", "letter", "asked"]) fun _ _ _ _ _ _ us hl => match us, hl with | [_, _, _], _ => rfl
  have Cwinning_ways : Callee K mg "winning_ways" f9 _ ["owners", "letter", "asked"] := ⟨PySem.W.mg_of X G a9, k9, b9⟩
  have F10 := fun_mk (st := strees) l10 c10 k10
  have b10 := F10.binds (ps := ["sentence"]) fun _ _ _ _ _ _ us hl => match us, hl with | [_], _ => rfl
  have Ctrees : Callee K mg "trees" f10 _ ["sentence"] := ⟨PySem.W.mg_of X G a10, k10, b10⟩
  have F11 := fun_mk (st := sgood_moves) l11 c11 k11
  have b11 := F11.binds (ps := ["sentence", "play"]) fun _ _ _ _ _ _ us hl => match us, hl with | [_, _], _ => rfl
  have Cgood_moves : Callee K mg "good_moves" f11 _ ["sentence", "play"] := ⟨PySem.W.mg_of X G a11, k11, b11⟩
  have F12 := fun_mk (st := s_law_deck) l12 c12 k12
  have b12 := F12.binds (ps := ["script"]) fun _ _ _ _ _ _ us hl => match us, hl with | [_], _ => rfl
  have C_law_deck : Callee K mg "_law_deck" f12 _ ["script"] := ⟨PySem.W.mg_of X G a12, k12, b12⟩
  have F13 := fun_mk (st := s_law_draw) l13 c13 k13
  have b13 := F13.binds (ps := ["deck", "many"]) fun _ _ _ _ _ _ us hl => match us, hl with | [_, _], _ => rfl
  have C_law_draw : Callee K mg "_law_draw" f13 _ ["deck", "many"] := ⟨PySem.W.mg_of X G a13, k13, b13⟩
  have F14 := fun_mk (st := s_law_pick) l14 c14 k14
  have b14 := F14.binds (ps := ["deck", "items"]) fun _ _ _ _ _ _ us hl => match us, hl with | [_, _], _ => rfl
  have C_law_pick : Callee K mg "_law_pick" f14 _ ["deck", "items"] := ⟨PySem.W.mg_of X G a14, k14, b14⟩
  have F15 := fun_mk (st := s_law_mixed) l15 c15 k15
  have b15 := F15.binds (ps := ["deck", "items"]) fun _ _ _ _ _ _ us hl => match us, hl with | [_, _], _ => rfl
  have C_law_mixed : Callee K mg "_law_mixed" f15 _ ["deck", "items"] := ⟨PySem.W.mg_of X G a15, k15, b15⟩
  have F16 := fun_mk (st := s_law_owners) l16 c16 k16
  have b16 := F16.binds (ps := ["deck", "n"]) fun _ _ _ _ _ _ us hl => match us, hl with | [_, _], _ => rfl
  have C_law_owners : Callee K mg "_law_owners" f16 _ ["deck", "n"] := ⟨PySem.W.mg_of X G a16, k16, b16⟩
  have F17 := fun_mk (st := s_law_clause) l17 c17 k17
  have b17 := F17.binds (ps := ["deck", "n", "most"]) fun _ _ _ _ _ _ us hl => match us, hl with | [_, _, _], _ => rfl
  have C_law_clause : Callee K mg "_law_clause" f17 _ ["deck", "n", "most"] := ⟨PySem.W.mg_of X G a17, k17, b17⟩
  have F18 := fun_mk (st := s_law_unlike) l18 c18 k18
  have b18 := F18.binds (ps := ["rows"]) fun _ _ _ _ _ _ us hl => match us, hl with | [_], _ => rfl
  have C_law_unlike : Callee K mg "_law_unlike" f18 _ ["rows"] := ⟨PySem.W.mg_of X G a18, k18, b18⟩
  have F19 := fun_mk (st := s_law_sentence) l19 c19 k19
  have b19 := F19.binds (ps := ["deck", "n", "many", "most"]) fun _ _ _ _ _ _ us hl => match us, hl with | [_, _, _, _], _ => rfl
  have C_law_sentence : Callee K mg "_law_sentence" f19 _ ["deck", "n", "many", "most"] := ⟨PySem.W.mg_of X G a19, k19, b19⟩
  have F20 := fun_mk (st := s_law_free) l20 c20 k20
  have b20 := F20.binds (ps := ["owners"]) fun _ _ _ _ _ _ us hl => match us, hl with | [_], _ => rfl
  have C_law_free : Callee K mg "_law_free" f20 _ ["owners"] := ⟨PySem.W.mg_of X G a20, k20, b20⟩
  have F21 := fun_mk (st := s_law_ends) l21 c21 k21
  have b21 := F21.binds (ps := ["owners", "rows", "play"]) fun _ _ _ _ _ _ us hl => match us, hl with | [_, _, _], _ => rfl
  have C_law_ends : Callee K mg "_law_ends" f21 _ ["owners", "rows", "play"] := ⟨PySem.W.mg_of X G a21, k21, b21⟩
  have F22 := fun_mk (st := s_law_good) l22 c22 k22
  have b22 := F22.binds (ps := ["own", "play"]) fun _ _ _ _ _ _ us hl => match us, hl with | [_, _], _ => rfl
  have C_law_good : Callee K mg "_law_good" f22 _ ["own", "play"] := ⟨PySem.W.mg_of X G a22, k22, b22⟩
  have F23 := fun_mk (st := s_law_is_told) l23 c23 k23
  have b23 := F23.binds (ps := ["deck", "own"]) fun _ _ _ _ _ _ us hl => match us, hl with | [_, _], _ => rfl
  have C_law_is_told : Callee K mg "_law_is_told" f23 _ ["deck", "own"] := ⟨PySem.W.mg_of X G a23, k23, b23⟩
  have F24 := fun_mk (st := s_law_wins) l24 c24 k24
  have b24 := F24.binds (ps := ["own"]) fun _ _ _ _ _ _ us hl => match us, hl with | [_], _ => rfl
  have C_law_wins : Callee K mg "_law_wins" f24 _ ["own"] := ⟨PySem.W.mg_of X G a24, k24, b24⟩
  have F25 := fun_mk (st := s_law_is_grown) l25 c25 k25
  have b25 := F25.binds (ps := ["deck", "own"]) fun _ _ _ _ _ _ us hl => match us, hl with | [_, _], _ => rfl
  have C_law_is_grown : Callee K mg "_law_is_grown" f25 _ ["deck", "own"] := ⟨PySem.W.mg_of X G a25, k25, b25⟩
  have F26 := fun_mk (st := s_law_is_given) l26 c26 k26
  have b26 := F26.binds (ps := ["deck", "own"]) fun _ _ _ _ _ _ us hl => match us, hl with | [_, _], _ => rfl
  have C_law_is_given : Callee K mg "_law_is_given" f26 _ ["deck", "own"] := ⟨PySem.W.mg_of X G a26, k26, b26⟩
  have F27 := fun_mk (st := s_law_is_mirrored) l27 c27 k27
  have b27 := F27.binds (ps := ["deck", "own"]) fun _ _ _ _ _ _ us hl => match us, hl with | [_, _], _ => rfl
  have C_law_is_mirrored : Callee K mg "_law_is_mirrored" f27 _ ["deck", "own"] := ⟨PySem.W.mg_of X G a27, k27, b27⟩
  have F28 := fun_mk (st := slaw) l28 c28 k28
  have T : Bl mg := ⟨PySem.W.mg_none_of X G z0, PySem.W.mg_none_of X G z1, PySem.W.mg_none_of X G z2, PySem.W.mg_none_of X G z3, PySem.W.mg_none_of X G z4, PySem.W.mg_none_of X G z5, PySem.W.mg_none_of X G z6, PySem.W.mg_none_of X G z7, PySem.W.mg_none_of X G z8, PySem.W.mg_none_of X G z9, PySem.W.mg_none_of X G z10, PySem.W.mg_none_of X G z11, PySem.W.mg_none_of X G z12, PySem.W.mg_none_of X G z13, PySem.W.mg_none_of X G z14, PySem.W.mg_none_of X G z15, PySem.W.mg_none_of X G z16, PySem.W.mg_none_of X G z17, PySem.W.mg_none_of X G z18⟩
  have UC : ExcC K C := ⟨u1, u2, xb, u4, u5, u6, u7, u8⟩
  have OTTooMany : OexC K C := ⟨⟨_, _, _, _, _, _, _, _, _, _, _, _, _, _, _, tlC, tbm⟩, tsa, xb, xt, xk⟩
  have OTooMany : TooC K mg C fI (PySem.W.ksFn "__init__" "TooMany.__init__" iArgs iBody iScope .none tkV tdoc tpm tan (.ref cda) tct cc) := ⟨OTTooMany, tiC, ttI, PySem.W.mg_of X G taC, Binds.all fun us hl => match us, hl with | [_, _], _ => rfl⟩
  have mMAX_SEARCH : ∃ u, mg "MAX_SEARCH" = some u ∧ RelV (.int 12) u := ⟨_, PySem.W.mg_of X G aiMAX_SEARCH, ⟨_, rfl⟩⟩
  refine ⟨PySem.W.fnOf "law" "law" (defArgs slaw) (defBody slaw) (defScope slaw) .none kV28 dc28 pm28 an28 cd28 ct28, fun s v => .of_eq rfl, fun base _ _ => ?_⟩
  have OITooMany := ok_super (P := l.prog) (w := w) (base := base) (mg := mg) (k := 0) OTTooMany txq tlI tcI tlc tvs tfile ttop tcc tsub tsup tsV top (PySem.W.mg_none_of X G tzs) tno (NdefX.nscope_by (by decide +kernel)) (by rfl) (by rfl) (by rfl) (by decide) (.inl (by rfl)) (.inl (by rfl)) (by decide) (by decide) (by decide) (by decide) (fun _ => rfl) (fun _ => rfl) (fun _ => rfl) (fun _ => rfl)
  have Gcheck_size := ok_size (P := l.prog) (w := w) (base := base) F0 T OTooMany OITooMany mMAX_SEARCH 
  have Gowner_of := ok_owner (P := l.prog) (w := w) (base := base) F1 T  
  have Gless := ok_less (P := l.prog) (w := w) (base := base) F2 T  
  have Gstate_of := ok_state (P := l.prog) (w := w) (base := base) F3 T  
  have Gunset_part := ok_unset (P := l.prog) (w := w) (base := base) F4 T  
  have Gasked_from := ok_from (P := l.prog) (w := w) (base := base) F5 T  Gstate_of Cstate_of Gunset_part Cunset_part
  have Gasked_behind := ok_behind (P := l.prog) (w := w) (base := base) F6 T  
  have Gsome_wins := ok_wins (P := l.prog) (w := w) (base := base) F7 T  Gasked_behind Casked_behind Csome_wins 13
  have Gwinner := ok_winner (P := l.prog) (w := w) (base := base) F8 T  Gcheck_size Ccheck_size Gasked_from Casked_from Gsome_wins Csome_wins
  have GW0 := ok_winner0 Gwinner
  have Gwinning_ways := ok_ways (P := l.prog) (w := w) (base := base) F9 T  Gasked_behind Casked_behind Cwinning_ways 13
  have Gtrees := ok_trees (P := l.prog) (w := w) (base := base) F10 T  Gcheck_size Ccheck_size Gasked_from Casked_from Gwinning_ways Cwinning_ways
  have GT0 := ok_trees0 Gtrees
  have Ggood_moves := ok_good (P := l.prog) (w := w) (base := base) F11 T  Gcheck_size Ccheck_size Gowner_of Cowner_of GW0 Cwinner
  have GG0 := ok_good0 Ggood_moves
  have G_law_deck := ok_deck (P := l.prog) (w := w) (base := base) F12 T  
  have G_law_draw := ok_draw (P := l.prog) (w := w) (base := base) F13 T  
  have G_law_pick := ok_pick (P := l.prog) (w := w) (base := base) F14 T  G_law_draw C_law_draw
  have G_law_mixed := ok_mixed (P := l.prog) (w := w) (base := base) F15 T  G_law_draw C_law_draw
  have G_law_owners := ok_owners (P := l.prog) (w := w) (base := base) F16 T  G_law_draw C_law_draw G_law_pick C_law_pick
  have G_law_clause := ok_clause (P := l.prog) (w := w) (base := base) F17 T  G_law_draw C_law_draw G_law_pick C_law_pick G_law_mixed C_law_mixed
  have G_law_unlike := ok_unlike (P := l.prog) (w := w) (base := base) F18 T  
  have G_law_sentence := ok_sentence (P := l.prog) (w := w) (base := base) F19 T  G_law_draw C_law_draw G_law_owners C_law_owners G_law_clause C_law_clause G_law_unlike C_law_unlike
  have G_law_free := ok_free (P := l.prog) (w := w) (base := base) F20 T  
  have G_law_ends := ok_endsTop (P := l.prog) (w := w) (base := base) F21 T  G_law_free C_law_free C_law_ends
  have G_law_good := ok_lgood (P := l.prog) (w := w) (base := base) F22 T  G_law_ends C_law_ends
  have G_law_is_told := ok_told (P := l.prog) (w := w) (base := base) F23 T  G_law_draw C_law_draw G_law_pick C_law_pick GW0 Cwinner GT0 Ctrees GG0 Cgood_moves G_law_good C_law_good G_law_ends C_law_ends
  have G_law_wins := ok_wins10 (P := l.prog) (w := w) (base := base) F24 T  G_law_ends C_law_ends
  have G_law_is_grown := ok_grown (P := l.prog) (w := w) (base := base) F25 T  G_law_pick C_law_pick G_law_clause C_law_clause Gless Cless GT0 Ctrees G_law_ends C_law_ends G_law_is_told C_law_is_told G_law_wins C_law_wins
  have G_law_is_given := ok_given (P := l.prog) (w := w) (base := base) F26 T  G_law_draw C_law_draw G_law_pick C_law_pick GT0 Ctrees G_law_ends C_law_ends G_law_is_told C_law_is_told G_law_wins C_law_wins
  have G_law_is_mirrored := ok_mirr (P := l.prog) (w := w) (base := base) F27 T  G_law_draw C_law_draw G_law_pick C_law_pick GT0 Ctrees GG0 Cgood_moves G_law_good C_law_good G_law_ends C_law_ends G_law_is_told C_law_is_told
  exact ok_law F28 T  G_law_deck C_law_deck G_law_draw C_law_draw G_law_sentence C_law_sentence G_law_is_told C_law_is_told G_law_is_grown C_law_is_grown G_law_is_given C_law_is_given G_law_is_mirrored C_law_is_mirrored
end KA
open PySem PySem.W PyProof.Rows
set_option Elab.async false
set_option linter.all false
set_option maxRecDepth 100000
set_option maxHeartbeats 0 in
theorem PySem.Challenge.cw_eachsome_k10_whole_sentences_changed_holds : PySem.Challenge.rw_eachsome_k10_whole_sentences_changed.Holds := by
  w_on; o_law; k_head; (case hw => w_witness2)
  k_fill
  refine Ea.walk_G (l := PySem.Challenge.rw_eachsome_k10_whole_sentences_changed) (n := 63) (k := 19) (x := "script") (sp := fun w => KA.spLaw _) rfl (by decide) rfl ⟨rfl, by decide, by decide⟩ (fun w h Y => PySem.W.kIn_of Y) ?F (fun _ _ a ns hl _ hS => ⟨a, ns, rfl, hS, hl, fun _ => rfl⟩)
  case F =>
    intro w mg fa h KX G hmg
    refine' KA.all_mk KX G hmg ?a0 ?l0 ?c0 ?k0 ?a1 ?l1 ?c1 ?k1 ?a2 ?l2 ?c2 ?k2 ?a3 ?l3 ?c3 ?k3 ?a4 ?l4 ?c4 ?k4 ?a5 ?l5 ?c5 ?k5 ?a6 ?l6 ?c6 ?k6 ?a7 ?l7 ?c7 ?k7 ?a8 ?l8 ?c8 ?k8 ?a9 ?l9 ?c9 ?k9 ?a10 ?l10 ?c10 ?k10 ?a11 ?l11 ?c11 ?k11 ?a12 ?l12 ?c12 ?k12 ?a13 ?l13 ?c13 ?k13 ?a14 ?l14 ?c14 ?k14 ?a15 ?l15 ?c15 ?k15 ?a16 ?l16 ?c16 ?k16 ?a17 ?l17 ?c17 ?k17 ?a18 ?l18 ?c18 ?k18 ?a19 ?l19 ?c19 ?k19 ?a20 ?l20 ?c20 ?k20 ?a21 ?l21 ?c21 ?k21 ?a22 ?l22 ?c22 ?k22 ?a23 ?l23 ?c23 ?k23 ?a24 ?l24 ?c24 ?k24 ?a25 ?l25 ?c25 ?k25 ?a26 ?l26 ?c26 ?k26 ?a27 ?l27 ?c27 ?k27 ?a28 ?l28 ?c28 ?k28 ?z0 ?z1 ?z2 ?z3 ?z4 ?z5 ?z6 ?z7 ?z8 ?z9 ?z10 ?z11 ?z12 ?z13 ?z14 ?z15 ?z16 ?z17 ?z18 ?taC ?taG ?tlC ?tbm ?tsa ?xb ?xt ?xk ?tiC ?ttI ?tlI ?tcI ?tlc ?tvs ?tfile ?ttop ?tcc ?tsub ?txq ?tsup ?tsV ?top ?tzs ?tno ?u1 ?u2 ?u4 ?u5 ?u6 ?u7 ?u8 ?iC ?sC ?iG ?tG ?sG ?zV ?aiMAX_SEARCH
    (case a0 => k_is)
    (case l0 => k_is)
    (case c0 => k_is)
    (case k0 => k_is)
    (case a1 => k_is)
    (case l1 => k_is)
    (case c1 => k_is)
    (case k1 => k_is)
    (case a2 => k_is)
    (case l2 => k_is)
    (case c2 => k_is)
    (case k2 => k_is)
    (case a3 => k_is)
    (case l3 => k_is)
    (case c3 => k_is)
    (case k3 => k_is)
    (case a4 => k_is)
    (case l4 => k_is)
    (case c4 => k_is)
    (case k4 => k_is)
    (case a5 => k_is)
    (case l5 => k_is)
    (case c5 => k_is)
    (case k5 => k_is)
    (case a6 => k_is)
    (case l6 => k_is)
    (case c6 => k_is)
    (case k6 => k_is)
    (case a7 => k_is)
    (case l7 => k_is)
    (case c7 => k_is)
    (case k7 => k_is)
    (case a8 => k_is)
    (case l8 => k_is)
    (case c8 => k_is)
    (case k8 => k_is)
    (case a9 => k_is)
    (case l9 => k_is)
    (case c9 => k_is)
    (case k9 => k_is)
    (case a10 => k_is)
    (case l10 => k_is)
    (case c10 => k_is)
    (case k10 => k_is)
    (case a11 => k_is)
    (case l11 => k_is)
    (case c11 => k_is)
    (case k11 => k_is)
    (case a12 => k_is)
    (case l12 => k_is)
    (case c12 => k_is)
    (case k12 => k_is)
    (case a13 => k_is)
    (case l13 => k_is)
    (case c13 => k_is)
    (case k13 => k_is)
    (case a14 => k_is)
    (case l14 => k_is)
    (case c14 => k_is)
    (case k14 => k_is)
    (case a15 => k_is)
    (case l15 => k_is)
    (case c15 => k_is)
    (case k15 => k_is)
    (case a16 => k_is)
    (case l16 => k_is)
    (case c16 => k_is)
    (case k16 => k_is)
    (case a17 => k_is)
    (case l17 => k_is)
    (case c17 => k_is)
    (case k17 => k_is)
    (case a18 => k_is)
    (case l18 => k_is)
    (case c18 => k_is)
    (case k18 => k_is)
    (case a19 => k_is)
    (case l19 => k_is)
    (case c19 => k_is)
    (case k19 => k_is)
    (case a20 => k_is)
    (case l20 => k_is)
    (case c20 => k_is)
    (case k20 => k_is)
    (case a21 => k_is)
    (case l21 => k_is)
    (case c21 => k_is)
    (case k21 => k_is)
    (case a22 => k_is)
    (case l22 => k_is)
    (case c22 => k_is)
    (case k22 => k_is)
    (case a23 => k_is)
    (case l23 => k_is)
    (case c23 => k_is)
    (case k23 => k_is)
    (case a24 => k_is)
    (case l24 => k_is)
    (case c24 => k_is)
    (case k24 => k_is)
    (case a25 => k_is)
    (case l25 => k_is)
    (case c25 => k_is)
    (case k25 => k_is)
    (case a26 => k_is)
    (case l26 => k_is)
    (case c26 => k_is)
    (case k26 => k_is)
    (case a27 => k_is)
    (case l27 => k_is)
    (case c27 => k_is)
    (case k27 => k_is)
    (case a28 => k_is)
    (case l28 => k_is)
    (case c28 => k_is)
    (case k28 => k_is)
    (case z0 => k_is)
    (case z1 => k_is)
    (case z2 => k_is)
    (case z3 => k_is)
    (case z4 => k_is)
    (case z5 => k_is)
    (case z6 => k_is)
    (case z7 => k_is)
    (case z8 => k_is)
    (case z9 => k_is)
    (case z10 => k_is)
    (case z11 => k_is)
    (case z12 => k_is)
    (case z13 => k_is)
    (case z14 => k_is)
    (case z15 => k_is)
    (case z16 => k_is)
    (case z17 => k_is)
    (case z18 => k_is)
    (case taC => k_is)
    (case taG => k_is)
    (case tlC => k_is)
    (case tbm => (first | rfl | decide +kernel))
    (case tsa => k_is)
    (case xb => k_is)
    (case xt => k_is)
    (case xk => k_is)
    (case tiC => k_is)
    (case ttI => k_is)
    (case tlI => k_is)
    (case tcI => k_is)
    (case tlc => k_is)
    (case tvs => rfl)
    (case tfile => (first | rfl | decide +kernel | kernel_rfl))
    (case ttop => (first | rfl | decide +kernel | kernel_rfl))
    (case tcc => k_is)
    (case tsub => k_is)
    (case txq => (first | k_exc | decide +kernel | kernel_rfl | rfl))
    (case tsup => (first | k_is | kernel_rfl | rfl))
    (case tsV => k_is)
    (case top => k_is)
    (case tzs => k_is)
    (case tno => k_is)
    (case u1 => k_is)
    (case u2 => k_is)
    (case u4 => k_is)
    (case u5 => k_is)
    (case u6 => k_is)
    (case u7 => k_is)
    (case u8 => k_is)
    (case iC => k_is)
    (case sC => k_is)
    (case iG => k_is)
    (case tG => k_is)
    (case sG => k_is)
    (case zV => k_is)
    (case aiMAX_SEARCH => k_is)
