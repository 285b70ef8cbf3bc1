import PyProof.Rows.All
import Wide.All
import OpenK.AllK
import Wide.FinOn
import PyProof.Rows.NestShow
import HandS.ForMost
import HandS.Exc
import HandS.ExcOwn
import HandS.WordsExc
import HandS.Defaults
import HandS.More
import HandS.Strs
import HandS.Conv
import HandS.SetFor
import HandS.SortInts
import HandS.DictComp
import HandS.TupAny
import HandS.ExcIs
import HandS.Evl
import KE.GoesEnum
import HandS.RaiseMore
import KE.SortData
import KE.SortKeyHeap
import KE.KDictPairs
import PySem.Challenge.RW_eachsome_k46_whole_plain_answers_along_p
import HandS.Deep
set_option Elab.async false
set_option linter.all false
set_option maxRecDepth 100000
set_option maxHeartbeats 4000000
/-! Own rules: repr of data where nothing is being shown, set of a tuple of ints, a text times a number, an own error made without arguments, calls by names alone; defs whose promise needs that nothing is being shown. -/
namespace Ea
open PySem PySem.Spec PyProof.Rows L2

/-! ### repr -/
def rRepr (K : PySem.W.Frag) : List V → Hp → VK → Prop := fun xs H Q =>
  ∃ (x : V) (d : PyData), xs = [x] ∧ Dp K H x d ∧ d.showable = true ∧ isDisplay d = true ∧ d.hasDict = false ∧ d.depth ≤ 40 ∧ d.shown.length ≤ sizeLine ∧ Q (.str d.shown) H
section
variable {X : Cx}
theorem cr_repr (hg : X.A.guards = some []) (hu : X.A.units + 64 < cLine) : CallR X (.builtin "repr") (rRepr X.K) := by
  intro pins s σ H xs us Q I r h
  obtain ⟨x, d, rfl, hd, h1, h2, h3, h4, h5, q⟩ := h
  obtain ⟨u, rfl, ru⟩ := vals1 r
  obtain ⟨as, rd⟩ := Dp.reads I d x u hd ru
  obtain ⟨a, rfl⟩ := isRef_of_reads rd h2
  exact repr_of_reads' rd h1 (PyData.noDict_hsm h3) hg (by omega) (fun _ _ e => e)
    (fun h' tk u hk => ⟨.str d.shown, H, I.kept hk, ⟨_, rfl⟩, q⟩) h5

/-! ### set of a tuple of ints -/
def rSetI (K : PySem.W.Frag) (w : World) : List V → Hp → VK → Prop := fun xs H Q =>
  ∃ (p : Addr) (ns : List Int), xs = [.ref p] ∧ SqT K H p (ns.map V.int) ∧ ns.length ≤ 1000 ∧
    ∀ (a : Addr) (c : Nat), H a = none → c ≤ ns.length → Q (.ref a) (upd H a (SetO w a (fun j => decide (j ∈ ns)) c))
theorem cr_setI (hc : X.calm = true) : CallR X (.type "set") (rSetI X.K X.w) := by
  intro pins s σ H xs us Q I r h
  obtain ⟨p, ns, rfl, hp, hl, q⟩ := h
  rw [Vals.ref1 r]
  obtain ⟨its, rv, pt, hz⟩ := I.tuple hp
  have hi : IntsAre its.toArray.toList ns := by simpa using rv.ints
  have hf : H s.heap.objs.size = none := I.hok.fresh (Nat.le_refl _)
  refine call_set_tupI ns (I.ok.hd hc) pt hi (by unfold scanBound; omega) fun h' tk c R1 hcn k => ?_
  exact ⟨.ref _, upd H s.heap.objs.size (SetO X.w s.heap.objs.size (fun j => decide (j ∈ ns)) c),
    I.laid (t' := tk) k (Nat.le_refl _) (setO_new R1), rfl, q _ c hf hcn⟩

/-! ### a text times a number -/
theorem folded_size (z : Array Nat) : ∀ (n : Nat) (acc : Array Nat), ((List.replicate n z).foldl (· ++ ·) acc).size = acc.size + n * z.size
  | 0, acc => by simp
  | n + 1, acc => by
    rw [List.replicate_succ, List.foldl_cons, folded_size z n, Array.size_append, Nat.succ_mul]
    omega
def repS (z : Str) (n : Int) : Str := ⟨(List.replicate n.toNat z.cps).foldl (· ++ ·) #[]⟩
def rMulS : R2 := fun x y H Q => ∃ z n, x = .str z ∧ y = .int n ∧ 0 ≤ n ∧ n ≤ 1000 ∧ z.length ≤ 1000 ∧ 1 ≤ z.length ∧ Q (.str (repS z n)) H
theorem repS_length (z : Str) (n : Int) : (repS z n).length = n.toNat * z.length := by
  have h := folded_size z.cps n.toNat #[]
  rw [Array.size_empty, Nat.zero_add] at h
  exact h
theorem repS_fits {z : Str} {n : Int} (h1 : n ≤ 1000) (h2 : z.length ≤ 1000) : (repS z n).length ≤ sizeLine := by
  rw [repS_length, sizeLine_eq]
  have : n.toNat * z.length ≤ 1000 * 1000 := Nat.mul_le_mul (by omega) h2
  omega
theorem op_mulS : OpR X (binaryOp .Mult) rMulS := by
  intro pins s σ H x y v u Q I rx ry h
  obtain ⟨z, n, rfl, rfl, h0, h1, h2, h3, q⟩ := h
  obtain ⟨t, rfl⟩ := rx
  obtain ⟨t', rfl⟩ := ry
  have hlen : z.length * n.toNat ≤ 1000 * 1000 := Nat.mul_le_mul h2 (by omega)
  have hr : (decide (n < -(2 ^ 63 : Int)) || decide (n ≥ 2 ^ 63)) = false := by
    rw [decide_eq_false (by omega), decide_eq_false (by omega)]; rfl
  refine PySem.P.mul_str hr ?_ ?_ ?_
  · intro hn _ hgt
    have e : (1000 : Int) ≤ (2 ^ 63 - 1) / n := by
      rw [Int.le_ediv_iff_mul_le (by omega)]
      omega
    omega
  · intro _ _
    unfold Builtin.Str.tooLong
    rw [decide_eq_false_iff_not, sizeLine_eq]
    omega
  · by_cases c1 : n < 1
    · rw [if_pos c1]
      have e0 : n = 0 := by omega
      subst e0
      refine ⟨by decide, .str (repS z 0), H, I.tok _, ⟨_, rfl⟩, q⟩
    · rw [if_neg c1]
      by_cases c2 : (n == 1 || z.length == 0) = true
      · rw [if_pos c2]
        have e1 : n = 1 := by
          rcases Bool.or_eq_true _ _ |>.mp c2 with h | h
          · exact eq_of_beq h
          · have := eq_of_beq h
            omega
        subst e1
        have e2 : repS z 1 = z := by
          unfold repS
          show (⟨#[] ++ z.cps⟩ : Str) = z
          rw [Array.empty_append]
        rw [e2] at q
        exact ⟨.str z, H, I, ⟨_, rfl⟩, q⟩
      · rw [if_neg c2]
        exact ⟨repS_fits h1 h2, .str (repS z n), H, I.tok _, ⟨_, rfl⟩, q⟩

/-! ### X(): an own error without arguments -/
theorem pmk_own0 {C : Addr} {bmB : List Value} {B newId initId : String} {x : Str} {p pos : Pos} (F : ExcBaseFacts B newId initId bmB)
    (q : PySem.W.excIn X.K C bmB newId = true) (gC : X.mg x = some (.ref C)) (kC : PySem.W.keepIn X.K (.ref C) = true)
    (r : Raises X (.ref C)) (hg : Gl X x) (hdb : (x == ("__debug__" : Str)) = false := by decide) :
    PMk X (.Call (.Name x p) [] [] pos) (fun _ H Q => Q (.ref C) none H) := by
  intro pins s σ H Q I h
  refine wpAny_Call_Name_kw (ld_glob I hg gC (PySem.W.callWith_K0 I.kIn kC ?_) hdb)
  obtain ⟨bm, N, nm, qn, bs, hdct, sn, sub, ab, col, dd, k0, k1, k2, k3, k5, mN, hC, hN, hni, T⟩ := exc_obj I.kIn q
  exact wpAny_call_exc_subT F T hC hN hni (fun h' e hm => mk_of I hm r h (I.hok.gone hm.new)) (Nat.zero_le _)

/-! ### f(k = v, ..) by names alone; what it lets out is wished at the slots -/
def tKw (m : Nat) (sp : Sp) (gV : List V → List V) (E : L2.St → XK) (tk : TA) : TE := fun σ H Q =>
  tk σ H fun zs H2 => zs.length = m ∧ sp (gV zs) H2 Q (E σ)
theorem pe_kw {CX : CXT} {k : Nat} {f : Addr} {fd : FuncData} {ps ks : List Str} {sp : Sp} {E : L2.St → XK} {x : Str} {p pos : Pos} {kws : List Keyword} {tk : TA}
    {g : List Value → List Value} {gV : List V → List V} (F : FnOk X.prog X.w X.K X.mg X.base CX k f fd ps sp) (hr : Room k X.A) (hg : Gl X x)
    (hm : X.mg x = some (.ref f)) (hk : PySem.W.keepIn X.K (.ref f) = true)
    (hto : ∀ (s : Shared) (ws : List Value), ws.length = ks.length → BindsTo s fd ⟨[], ks.zip ws⟩ (ps.zip (g ws)))
    (hrel : ∀ {zs : List V} {ws : List Value}, zs.length = ks.length → Vals zs ws → Vals (gV zs) (g ws))
    (hx : ∀ σ, PassesAt CX X σ (E σ)) (hkw : PK X kws tk)
    (hall : (backToKw pos (keywordEach kws X.env)).all (·.1.isSome) = true := by rfl)
    (hks : (backToKw pos (keywordEach kws X.env)).filterMap (·.1) = ks := by rfl)
    (hdb : (x == ("__debug__" : Str)) = false := by decide)
    (hpl : ((backTo pos (starEach [] X.env)).any (·.1) || (backToKw pos (keywordEach kws X.env)).any (·.1.isNone)) = false := by rfl) :
    PE X (.Call (.Name x p) [] kws pos) (tKw ks.length sp gV E tk) := by
  refine ⟨fun pins s σ H Q I h => ?_⟩
  refine wpAny_Call_Name_kw (ld_glob I hg hm (PySem.W.callWith_KW0 (h₀ := X.base) I.ok.mod.kin hk hall ?_ hpl) hdb)
  refine thn (hkw.run pos pins s σ H _ I h) fun ws s2 ⟨zs, H2, I2, rz, l2, q2⟩ => ⟨I2.kIn, ?_⟩
  rw [hks]
  have hl : (g ws).length = ps.length := by
    rw [← (hrel l2 rz).length]
    exact F.len _ _ _ _ q2
  refine wpAny_call (codeAny_mono (F.run X.A X.stack s2 H2 ⟨[], ks.zip ws⟩ (g ws) (gV zs) Q (E σ) hr I2.env0
    (hto s2 ws (rz.length.symm.trans l2)) (hrel l2 rz) q2) fun r s' hq => ?_)
  match r, hq with
  | .error e, hq => exact hx σ pins H2 s2 e s' I2 hq
  | .ok (.ret u), hq => exact I2.after hq

/-! ### where nothing is being shown -/
structure FnG (P : Program) (w : World) (K : PySem.W.Frag) (mg : Str → Option Value) (base : Heap) (k : Nat) (f : Addr) (fd : FuncData)
    (ps : List Str) (sp : Sp) : Prop where
  len : ∀ vs H Q E, sp vs H Q E → vs.length = ps.length
  run : ∀ (A : Around) (outer : List Env) (s : Shared) (H : Hp) (args : Args) (us : List Value) (vs : List V) (Q : VK) (E : XK),
    Room k A → A.guards = some [] → Env0 P w K mg base A outer s H → BindsTo s fd args (ps.zip us) → Vals vs us → sp vs H Q E →
    codeAny (model P w) A (.call (.ref f) args) (CR CX0 outer P w H s Q E) s
theorem FnG.mono {P : Program} {w : World} {K : PySem.W.Frag} {mg : Str → Option Value} {base : Heap} {j k : Nat} {f : Addr} {fd : FuncData}
    {ps : List Str} {sp : Sp} (F : FnG P w K mg base j f fd ps sp) (h : j ≤ k) : FnG P w K mg base k f fd ps sp :=
  ⟨F.len, fun A outer s H args us vs Q E hr => F.run A outer s H args us vs Q E (hr.mono h)⟩
theorem pe_callG {k : Nat} {f : Addr} {fd : FuncData} {ps : List Str} {sp : Sp} {x : Str} {p pos : Pos} {e : Expr} {es : List Expr} {t : TA}
    (F : FnG X.prog X.w X.K X.mg X.base k f fd ps sp) (hr : Room k X.A) (h0 : X.A.guards = some []) (hg : Gl X x)
    (hm : X.mg x = some (.ref f)) (hk : PySem.W.keepIn X.K (.ref f) = true) (hb : Binds X.K fd ps []) (ha : PA X (e :: es) t)
    (hdb : (x == ("__debug__" : Str)) = false := by decide)
    (he : starEach (e :: es) X.env = (false, eval e X.env) :: starEach es X.env := by rfl)
    (hpl : (backTo pos (starEach es X.env)).any (·.1) = false := by rfl) :
    PE X (.Call (.Name x p) (e :: es) [] pos) (tCall sp [] E0 t) := by
  refine ⟨fun pins s σ H Q I h => ?_⟩
  refine wpAny_Call_Name_kw (ld_glob I hg hm (PySem.W.callWith_K (h₀ := X.base) I.ok.mod.kin hk
    (thn (ha.run pos pins s σ H _ I h) fun us s1 hu => ?_) he hpl) hdb)
  obtain ⟨vs, H1, I1, r, q⟩ := hu
  rw [List.append_nil] at q
  refine ⟨I1.kIn, wpAny_call ?_⟩
  have hl : us.length = ps.length := by
    rw [← r.length]
    exact F.len _ _ _ _ q
  have b := hb s1 us I1.kIn (by rw [List.append_nil]; exact hl)
  rw [List.append_nil] at b
  refine codeAny_mono (F.run X.A X.stack s1 H1 ⟨us, []⟩ us vs Q E0 hr h0 I1.env0 b r q) fun r s' hq => ?_
  match r, hq with
  | .error e, hq => exact False.elim hq
  | .ok (.ret u), hq => exact I1.after hq
end
section
variable {P : Program} {w : World} {K : PySem.W.Frag} {mg : Str → Option Value} {base : Heap}
theorem okG {x qual : Str} {st : Stmt} {f : Addr} {fd : FuncData} {N ps : List Str} {k : Nat} {sp : Sp} (F : Fun K x qual st f fd)
    (S : FnScope N ps (defScope st)) (len : ∀ vs H Q E, sp vs H Q E → vs.length = ps.length)
    (hbody : ∀ (cdv : Value) (A : Around) (outer : List Env) (s : Shared) (H : Hp) (vs : List V) (Q : VK) (E : XK),
      Room k (A.deeper (envOfC qual (defScope st) s.heap.objs.size f cdv)) → A.guards = some [] → sp vs H Q E →
      ∃ t, PSs (cxOf CX0 P w K mg base N qual (defScope st) f cdv A outer s H E).nox (defBody st) t ∧
        t { nx := fun _ H' => Q .non H', rt := Q } (start N vs) H) : FnG P w K mg base (k + 1) f fd ps sp := by
  obtain ⟨oc, od, kV, doc, pm, an, cdv, ct, osl, rfl, lk, hcd⟩ := F.ex
  refine ⟨len, fun A outer s H args us vs Q E hr h0 e0 hb r hsp => ?_⟩
  have KX : K.In s.heap := e0.mod.kin.keeps fun b o e => (e0.bs b o e).1
  have lim : s.heap.NoLimit := e0.mod.nolimit.keeps fun b o e => (e0.bs b o e).1
  refine codeAny_call_function hr.depth (KX _ _ lk) rfl S.co S.gen rfl (PySem.W.codeRec_of KX hcd) (hb _ _ _ _
    (wpAny_newFunctionEnv_cells S.kind (fun y hy => ?_) fun env he s1 y => ?_))
  · obtain ⟨n, v⟩ := y
    exact (S.par n (List.of_mem_zip hy).1).imp id fun z => ⟨z, PySem.W.cellsFrom_some _ _ _ (.inl z)⟩
  · subst he
    refine ⟨lim.keeps y.toInCall.keep, codeAny_func ?_⟩
    obtain ⟨t, ht, hq⟩ := hbody cdv A outer s H vs Q E (hr.deeper _) h0 hsp
    have I : Inv (cxOf CX0 P w K mg base N qual (defScope st) f cdv A outer s H E) [] (start N vs) H s1 :=
      inv_start S hr.hd e0 (len _ _ _ _ hsp) r y
    refine wpAny_mono (ht.nox.run [] s1 (start N vs) H _ I hq) (fun fl s' hs => ?_) fun e s' hs => hs
    match fl, hs with
    | .ret u, ⟨v, σ', H', J, rv, q⟩ => exact ⟨v, H', J.os, J.bare, J.base, J.hok, rv, q⟩
    | .next, ⟨σ', H', J, q⟩ => exact ⟨V.non, H', J.os, J.bare, J.base, J.hok, rfl, q⟩
    | .brk, ⟨_, _, _, q⟩ => exact False.elim q
    | .cont, ⟨_, _, _, q⟩ => exact False.elim q
end
end Ea
set_option Elab.async false
set_option linter.all false
set_option maxRecDepth 100000
set_option maxHeartbeats 4000000
/-! The law's own call, from a promise that needs that nothing is being shown. -/
namespace Ea
open PySem PySem.Spec PyProof.Rows L2

section
variable {P : Program} {w : World} {K : PySem.W.Frag} {mg mb : Str → Option Value} {k : Nat} {fa a : Addr} {fd : FuncData} {x : Str} {sp : Sp}
  {s₁ : Shared} {vs : List Value} {ns : List Int}
/-- what the call is to end with -/
abbrev Fine (s₁ : Shared) : Result → Shared → Prop := fun r s' => r = .ok (.ret (.bool true)) ∧ OldK s₁.heap s'.heap ∧ s'.os = s₁.os ∧ AllBare s'.gens

theorem call_from (KX : K.In s₁.heap) (hns : s₁.heap.Ns mainGlobals mg) (hb : s₁.heap.Ns builtinsNs mb)
    (hbb : ∀ x : Str, x ≠ "__name__" → mb x = bootBuiltins x) (hlim : s₁.heap.NoLimit) (hg : s₁.gens = #[])
    (ha : s₁.heap.get? a = some { cls := .type "list", data := .seq vs.toArray }) (hr : Room k callerA)
    (F : ∀ base : Heap, K.In base → base.Ns mainGlobals mg → FnG P w K mg base k fa fd [x] sp)
    (hbind : ∀ (s : Shared) (u : Value), BindsTo s fd ⟨[u], []⟩ [(x, u)])
    {H : Hp} (hO : Only H) (hok : HOk P w H s₁.heap) (hA : ∀ b, H b ≠ none → b = a) (hK : H a ≠ none → K.lookup a = none)
    (h : sp [.ref a] H (fun v _ => v = .bl true) fun _ _ _ => False) :
    codeAny (model P w) callerA (.call (.ref fa) ⟨[.ref a], []⟩) (Fine s₁) s₁ := by
  have out : ∀ {b : Addr}, (∃ u, H b = some u) → b = a := fun {b} ⟨u, e⟩ => hA b (by rw [e]; exact nofun)
  have free : ∀ {b : Addr} {o : Obj} {es : Array DictEntry} {ep : Nat}, s₁.heap.get? b = some o → o.data = .dict es ep → H b = none := by
    intro b o es ep e d
    cases q : H b with
    | none => rfl
    | some u =>
      obtain rfl := out ⟨u, q⟩
      rw [ha] at e
      cases e
      cases d
  have nsK : ∀ {b : Addr} {m : Str → Option Value}, s₁.heap.Ns b m → (hidT s₁.heap H).Ns b m :=
    fun {b m} ⟨o, es, ep, e, d, r⟩ => ⟨o, es, ep, hidT_get e (free e d), d, r⟩
  have hKb : K.In (hidT s₁.heap H) := by
    intro b o e
    refine hidT_get (KX b o e) ?_
    cases q : H b with
    | none => rfl
    | some u =>
      obtain rfl := out ⟨u, q⟩
      rw [hK (by rw [q]; exact nofun)] at e
      cases e
  have lim : (hidT s₁.heap H).NoLimit := by
    obtain ⟨mc, h1, h2⟩ := hlim
    exact ⟨mc, nsK h1, h2⟩
  have e0 : Env0 P w K mg (hidT s₁.heap H) callerA [] s₁ H :=
    ⟨rfl, ⟨hKb, nsK hns, ⟨mb, nsK hb, hbb⟩, lim⟩, fun b o e => of_hidT e, Nat.le_of_eq (hidT_size _ _), trivial, nofun, hok, .of_eq hg⟩
  have run := (F _ hKb (nsK hns)).run callerA [] s₁ H ⟨[.ref a], []⟩ [.ref a] [.ref a] (fun v _ => v = .bl true) (fun _ _ _ => False) hr rfl e0
    (hbind s₁ (.ref a)) (.cons rfl .nil) h
  refine codeAny_mono run fun r s' hq => ?_
  match r, hq with
  | .error e, hq => exact False.elim hq
  | .ok (.ret u), ⟨v, H', os, bare, un, hok', r', (q' : v = .bl true)⟩ =>
    subst q'
    obtain rfl : u = Value.bool true := r'
    refine ⟨rfl, OldK.of_keep fun b o e => ?_, os, bare⟩
    cases q : H b with
    | none => exact un.keep b o e q nofun nofun
    | some u =>
      rcases hO b with z | ⟨ob, xs, z⟩
      · rw [q] at z
        cases z
      · obtain ⟨e1, _⟩ := hok b _ z
        obtain ⟨e2, _⟩ := hok' b _ (un.frzs b ob _ z)
        rw [e] at e1
        cases e1
        exact e2

theorem call_law (KX : K.In s₁.heap) (hns : s₁.heap.Ns mainGlobals mg) (hb : s₁.heap.Ns builtinsNs mb)
    (hbb : ∀ x : Str, x ≠ "__name__" → mb x = bootBuiltins x) (hlim : s₁.heap.NoLimit) (hg : s₁.gens = #[])
    (ha : s₁.heap.get? a = some { cls := .type "list", data := .seq vs.toArray }) (hi : IntsAre vs ns) (hl : ns.length ≤ sizeLine) (hr : Room k callerA)
    (F : ∀ base : Heap, K.In base → base.Ns mainGlobals mg → FnG P w K mg base k fa fd [x] sp)
    (hbind : ∀ (s : Shared) (u : Value), BindsTo s fd ⟨[u], []⟩ [(x, u)])
    (hsp : ∀ H : Hp, Only H → SqL K H a (ns.map V.int) → sp [.ref a] H (fun v _ => v = .bl true) fun _ _ _ => False) :
    codeAny (model P w) callerA (.call (.ref fa) ⟨[.ref a], []⟩) (Fine s₁) s₁ := by
  have rv := vals_ints hi
  cases hk : K.lookup a with
  | some o =>
    have e := KX a o hk
    rw [ha] at e
    cases e
    have hS : SqL K (fun _ => none) a (ns.map V.int) :=
      .inr ⟨_, vs.toArray, _, hk, rfl, rfl, rfl, by rw [List.size_toArray, hi.length]; exact hl, by simpa using rv⟩
    exact call_from KX hns hb hbb hlim hg ha hr F hbind (H := fun _ => none) (fun _ => .inl rfl) nofun (fun b z => absurd rfl z) (fun z => absurd rfl z) (hsp _ (fun _ => .inl rfl) hS)
  | none =>
    let one : HO := .frz { cls := .type "list", data := .seq vs.toArray } (.lst (ns.map V.int))
    let H : Hp := fun b => if b = a then some one else none
    have at_ : H a = some one := if_pos rfl
    have off : ∀ {b : Addr}, b ≠ a → H b = none := fun h => if_neg h
    have hO : Only H := fun b => by
      by_cases e : b = a
      · subst e
        exact .inr ⟨_, _, at_⟩
      · exact .inl (off e)
    have hS : SqL K H a (ns.map V.int) := .inl (.inr ⟨_, at_⟩)
    refine call_from KX hns hb hbb hlim hg ha hr F hbind hO (fun b u z => ?_) (fun b z => ?_) (fun _ => hk) (hsp H hO hS)
    · by_cases e : b = a
      · subst e
        rw [at_] at z
        cases z
        exact ⟨ha, by rw [List.length_map]; exact hl, vs, _, rv, ha⟩
      · rw [off e] at z
        cases z
    · by_cases e : b = a
      · exact e
      · exact absurd (off e) z
end
theorem walk_G {l : PySem.W.OpenLaw} {n k : Nat} {q : Program} {loose : List Str} {XP : (Str → Option Value) → Heap → Prop} {YP : World → Heap → Prop}
    {d : DefRec} {K : Params → PySem.W.Frag} {sp : World → Sp} {x : Str}
    (hn : l.most = some n) (hn2 : n ≤ sizeLine) (hdf : d.params.defaults = []) (hr : Room k callerA)
    (hY : ∀ (w : World) (h : Heap), YP w h → (K w.params).In h)
    (F : ∀ (w : World) (mg : Str → Option Value) (fa : Addr) (h : Heap), (K w.params).In h → h.Ns mainGlobals mg → mg d.name = some (.ref fa) →
      ∃ fd : FuncData, (∀ (s : Shared) (u : Value), BindsTo s fd ⟨[u], []⟩ [(x, u)]) ∧
        ∀ base : Heap, (K w.params).In base → base.Ns mainGlobals mg → FnG l.prog w (K w.params) mg base k fa fd [x] (sp w))
    (hsp : ∀ (w : World) (H : Hp) (a : Addr) (ns : List Int), ns.length ≤ n → Only H → SqL (K w.params) H a (ns.map V.int) →
      sp w [.ref a] H (fun v _ => v = .bl true) fun _ _ _ => False) :
    PySem.W.WalkO q loose XP YP l.row.toRowW d [] (fun f vs => PySem.call f vs) := by
  refine Att.attach_call hn hdf fun w s₀ s₁ mg mb fa o pm cd doc a vs ns G Y ho hd hcd hmg hobj hints hlen hg => ?_
  obtain ⟨fd, hb, hF⟩ := F w mg fa _ (hY w _ Y) G.T.g hmg
  exact call_law (hY w _ Y) G.T.g G.T.b G.T.builtins G.T.nolimit hg hobj hints (Nat.le_trans hlen hn2) hr hF hb fun H hO hS => hsp w H a ns hlen hO hS
end Ea
set_option Elab.async false
set_option linter.all false
set_option maxRecDepth 100000
set_option maxHeartbeats 4000000
/-! Readings gone through from the left: one lemma for each shape; a deck of draws (a dict). -/
namespace Ea
open PySem PySem.Spec PyProof.Rows L2

/-! ### built-ins by names of their own -/
def rInt : List V → Hp → VK → Prop := fun xs H Q => (∃ i, xs = [.int i] ∧ Q (.int i) H) ∨ ∃ k, xs = [.bl k] ∧ Q (.int (if k then 1 else 0)) H
def rAbs : List V → Hp → VK → Prop := fun xs H Q => ∃ i, xs = [.int i] ∧ Q (.int (if i < 0 then -i else i)) H
def rMin2 : List V → Hp → VK → Prop := fun xs H Q => ∃ i j, xs = [.int i, .int j] ∧ Q (.int (if j < i then j else i)) H
def rMax2 : List V → Hp → VK → Prop := fun xs H Q => ∃ i j, xs = [.int i, .int j] ∧ Q (.int (if j > i then j else i)) H
def rLenQ (K : PySem.W.Frag) : List V → Hp → VK → Prop := fun xs H Q => ∃ p ys, xs = [.ref p] ∧ (SqL K H p ys ∨ SqT K H p ys) ∧ Q (.int ys.length) H
def rLenS : List V → Hp → VK → Prop := fun xs H Q => ∃ z, xs = [.str z] ∧ z.length ≤ sizeLine ∧ Q (.int z.length) H
def rTupOf (K : PySem.W.Frag) : List V → Hp → VK → Prop := fun xs H Q => ∃ p ys, xs = [.ref p] ∧ ((SqL K H p ys ∧ ∀ l, H l = none → Q (.ref l) (upd H l (.tup ys))) ∨ (SqT K H p ys ∧ Q (.ref p) H))
def rListOf (K : PySem.W.Frag) : List V → Hp → VK → Prop := fun xs H Q => ∃ p ys, xs = [.ref p] ∧ (SqL K H p ys ∨ SqT K H p ys) ∧ ∀ l, H l = none → Q (.ref l) (upd H l (.lst ys))
section
variable {X : Cx}
theorem c_int : CallR X (.type "int") rInt := call_int1
theorem c_abs : CallR X (.builtin "abs") rAbs := call_abs
theorem c_min2 (hc : X.calm = true) : CallR X (.builtin "min") rMin2 := call_min2 hc
theorem c_max2 (hc : X.calm = true) : CallR X (.builtin "max") rMax2 := call_max2 hc
theorem c_len {K : PySem.W.Frag} (h : X.K = K) : CallR X (.builtin "len") (rLenQ K) := h ▸ call_len_seq
theorem c_lenS : CallR X (.builtin "len") rLenS := call_len_str
theorem c_tuple {K : PySem.W.Frag} (h : X.K = K) : CallR X (.type "tuple") (rTupOf K) := h ▸ call_tuple_of
theorem c_list {K : PySem.W.Frag} (h : X.K = K) : CallR X (.type "list") (rListOf K) := h ▸ call_list_of
theorem c_sum {K : PySem.W.Frag} (h : X.K = K) (hc : X.calm = true) : CallR X (.builtin "sum") (rSum K) := h ▸ cr_sum hc
theorem c_max {K : PySem.W.Frag} (h : X.K = K) (hc : X.calm = true) : CallR X (.builtin "max") (rMax K) := h ▸ cr_max hc
theorem c_min {K : PySem.W.Frag} (h : X.K = K) (hc : X.calm = true) : CallR X (.builtin "min") (rMin K) := h ▸ cr_min hc
theorem c_sorted {K : PySem.W.Frag} (h : X.K = K) : CallR X (.builtin "sorted") (rSortedI K) := h ▸ cr_sortedI
theorem c_repr {K : PySem.W.Frag} (h : X.K = K) (hg : X.A.guards = some []) (hu : X.A.units + 64 < cLine) : CallR X (.builtin "repr") (rRepr K) := h ▸ cr_repr hg hu
theorem c_set {K : PySem.W.Frag} {w : World} (h : X.K = K) (h2 : X.w = w) (hc : X.calm = true) : CallR X (.type "set") (rSetI K w) := h ▸ h2 ▸ cr_setI hc
theorem ik_list {K : PySem.W.Frag} (h : X.K = K) : IxR X (rIxL K) := h ▸ ix_list
theorem ik_tup {K : PySem.W.Frag} (h : X.K = K) : IxR X (rIxT K) := h ▸ ix_tup
theorem ik_dict {K : PySem.W.Frag} {w : World} (h : X.K = K) (h2 : X.w = w) : IxR X (rIxD K w) := h ▸ h2 ▸ ix_kdict
theorem sk_list {K : PySem.W.Frag} (h : X.K = K) : SlR X (rSlL K) := h ▸ sl_list
theorem sk_tup {K : PySem.W.Frag} (h : X.K = K) : SlR X (rSlA K) := h ▸ sl_tupA
theorem ok_in {K : PySem.W.Frag} (h : X.K = K) : OpR X (compareOp .In) (rIn K false) := h ▸ op_in_seq
theorem ok_notIn {K : PySem.W.Frag} (h : X.K = K) : OpR X (compareOp .NotIn) (rIn K true) := h ▸ op_notIn_seq
theorem ok_eqD {K : PySem.W.Frag} (h : X.K = K) (hu : X.A.units + 64 < cLine) : OpR X (compareOp .Eq) (rEqD K) := h ▸ op_eqD hu
theorem ok_neD {K : PySem.W.Frag} (h : X.K = K) (hu : X.A.units + 64 < cLine) : OpR X (compareOp .NotEq) (rNeD K) := h ▸ op_neD hu
theorem ok_catT {K : PySem.W.Frag} (h : X.K = K) : OpR X (binaryOp .Add) (rCatA K) := h ▸ op_catA
theorem ok_sin {w : World} (h : X.w = w) : OpR X (compareOp .In) (rSIn w) := h ▸ or_sin
theorem ok_snotin {w : World} (h : X.w = w) : OpR X (compareOp .NotIn) (rSNotIn w) := h ▸ or_snotin
theorem ik_tupI {K : PySem.W.Frag} (h : X.K = K) {tg l : Expr} {tl : TE} (hl : PE X l tl) : PI X tg l (iTup K tl) := h ▸ pi_tup hl
theorem ik_listI {K : PySem.W.Frag} (h : X.K = K) {tg l : Expr} {tl : TE} (hl : PE X l tl) : PI X tg l (iList K tl) := h ▸ pi_list hl
def tTruK (K : PySem.W.Frag) (ta : TE) : TT := fun σ H Q => ta σ H fun x H' => ∃ k, TruV K x H' k ∧ Q k H'
theorem pk_truth {K : PySem.W.Frag} (h : X.K = K) {a : Expr} {ta : TE} (ha : PE X a ta)
    (he : ∀ whole, isTrue a X.env whole = (do let v ← whole; standAt a.pos; holding [v] (truthy v))) : PT X a (tTruK K ta) := h ▸ pt_truth ha he
end
section
variable {K : PySem.W.Frag} {σ σ' : L2.St} {H : Hp} {Q : VK} {QB : Bool → Hp → Prop} {QA : List V → Hp → Prop} {D : Ends} {i j : Nat} {x y v w : V}
  {ta tb te td ty : TE} {tt tu : TT} {r : R2} {a b : Int} {ts tz : TS} {g : Int → Int → V} {gi : Int → V} {C : Int → Int → Prop} {tr : TA} {tl th : TO}
theorem rd_start {t : TS} (e : σ = σ') (h : t D σ' H) : t D σ H := by
  subst e
  exact h
theorem rd_seq (h : ts { D with nx := tz D } σ H) : tSeq ts tz D σ H := h
theorem rd_if (h : tt σ H fun c H1 => if c = true then ts D σ H1 else tz D σ H1) : tIfS tt ts tz D σ H := h
theorem rd_next (h : D.nx σ H) : tNext D σ H := h
theorem rd_ret (h : te σ H D.rt) : tRet te D σ H := h
theorem rd_drop (h : te σ H fun _ H1 => D.nx σ H1) : tDrop te D σ H := h
theorem rd_asg {tg : TG} (h : te σ H fun x H1 => tg x σ H1 D.nx) : tAsg te tg D σ H := h
theorem rd_name {N : L2.St → Hp → Prop} (hs : σ.set i (some v) = σ') (h : N σ' H) : gName i v σ H N := by
  subst hs
  exact h
theorem rd_var (hv : σ[i]? = some (some v)) (h : Q v H) : tVar i σ H Q := ⟨v, hv, h⟩
theorem rd_c (h : Q v H) : tC v σ H Q := h
theorem rd_op (h : ta σ H fun x H1 => tb σ H1 fun y H2 => r x y H2 Q) : tOp r ta tb σ H Q := h
theorem rd_un {ru : V → Hp → VK → Prop} (h : ta σ H fun x H1 => ru x H1 Q) : tUn ru ta σ H Q := h
theorem rd_I0 (h : Q (g a b) H) : rI0 g (.int a) (.int b) H Q := ⟨a, b, rfl, rfl, h⟩
theorem rd_I (hc : C a b) (h : Q (g a b) H) : rI C g (.int a) (.int b) H Q := ⟨a, b, rfl, rfl, hc, h⟩
theorem rd_U (h : Q (gi a) H) : rU gi (.int a) H Q := ⟨a, rfl, h⟩
theorem rd_eq (hs : scal x y = true) (h : Q (.bl (decide (x = y))) H) : rEq x y H Q := ⟨hs, h⟩
theorem rd_ne (hs : scal x y = true) (h : Q (.bl (!decide (x = y))) H) : rNe x y H Q := ⟨hs, h⟩
theorem rd_test (h : te σ H fun x H' => ∃ k, x = .bl k ∧ QB k H') : tTest te σ H QB := h
theorem rd_B (h : te σ H fun x H' => ∃ k, x = .bl k ∧ QB k H') : tB te σ H QB := h
theorem rd_not (h : tt σ H fun c H1 => QB (!c) H1) : tNot tt σ H QB := h
theorem rd_and (h : tt σ H fun c H1 => if c = true then tu σ H1 QB else QB false H1) : tAnd tt tu σ H QB := h
theorem rd_or (h : tt σ H fun c H1 => if c = true then QB true H1 else tu σ H1 QB) : tOr tt tu σ H QB := h
theorem rd_k {b : Bool} {P : Bool → Prop} (h : P b) : ∃ k, V.bl b = V.bl k ∧ P k := ⟨b, rfl, h⟩
theorem rd_ite {p : Prop} {_ : Decidable p} {A B : Prop} (h1 : p → A) (h2 : ¬ p → B) : if decide p = true then A else B := by
  by_cases h : p
  · rw [if_pos (decide_eq_true h)]
    exact h1 h
  · rw [if_neg (by rw [decide_eq_true_eq]; exact h)]
    exact h2 h
theorem rd_iten {p : Prop} {_ : Decidable p} {A B : Prop} (h1 : ¬ p → A) (h2 : p → B) : if (!decide p) = true then A else B := by
  by_cases h : p
  · rw [decide_eq_true h]
    exact h2 h
  · rw [decide_eq_false h]
    exact h1 h
theorem rd_iteb {b : Bool} {A B : Prop} (h1 : b = true → A) (h2 : b = false → B) : if b = true then A else B := by
  cases b with
  | true => exact h1 rfl
  | false => exact h2 rfl
theorem rd_ifE (h : tt σ H fun c H1 => if c = true then ta σ H1 Q else tb σ H1 Q) : tIf tt ta tb σ H Q := h
theorem rd_nil (h : QA [] H) : tNil σ H QA := h
theorem rd_cons (h : te σ H fun x H1 => tr σ H1 fun xs H2 => QA (x :: xs) H2) : tCons te tr σ H QA := h
theorem rd_call {sp : Sp} {ds : List V} {E : XK} (h : tr σ H fun vs H1 => sp (vs ++ ds) H1 Q E) : tCall sp ds E tr σ H Q := h
theorem rd_cb {rc : List V → Hp → VK → Prop} (h : tr σ H fun vs H1 => rc vs H1 Q) : tCB rc tr σ H Q := h
theorem rd_tup (h : tr σ H fun xs H1 => xs.length ≤ sizeLine ∧ ∀ p, H1 p = none → Q (.ref p) (upd H1 p (.tup xs))) : tTup tr σ H Q := h
theorem rd_lst (h : tr σ H fun xs H1 => xs.length ≤ sizeLine ∧ ∀ p, H1 p = none → Q (.ref p) (upd H1 p (.lst xs))) : tLst tr σ H Q := h
theorem rd_dget (h : td σ H fun x H1 => ty σ H1 fun y H2 => ∃ a v, x = .ref a ∧ DGet H2 a y (some v) ∧ Q v H2) : tDGet td ty σ H Q := h
theorem rd_sl {rs : V → Option Int → Option Int → Hp → VK → Prop} (h : te σ H fun x H1 => tl σ H1 fun l H2 => th σ H2 fun u H3 => rs x l u H3 Q) : tSl rs te tl th σ H Q := h
theorem rd_nopart {QO : Option Int → Hp → Prop} (h : QO none H) : tNoPart σ H QO := h
theorem rd_part {QO : Option Int → Hp → Prop} (h : te σ H fun x H1 => ∃ i, x = .int i ∧ QO (some i) H1) : tPart te σ H QO := h
theorem rd_parti {P : Int → Prop} (h : P a) : ∃ i, V.int a = .int i ∧ P i := ⟨a, rfl, h⟩
theorem rd_bm {T : String} {rm : V → List V → Hp → VK → Prop} (h : te σ H fun x H1 => tyV K T x H1 ∧ tr σ H1 fun xs H2 => rm x xs H2 Q) : tBM K T rm te tr σ H Q := h
theorem rd_bm0 {T : String} {rm : V → List V → Hp → VK → Prop} (h : te σ H fun x H1 => tyV K T x H1 ∧ rm x [] H1 Q) : tBM0 K T rm te σ H Q := h
theorem rd_dput (h : te σ H fun v H1 => td σ H1 fun x H2 => ty σ H2 fun y H3 => ∃ a H4, x = .ref a ∧ DPut H3 a y v H4 ∧ D.nx σ H4) : sDPut td ty te D σ H := h
theorem rd_par {t : TA} (h : t σ H fun vs H1 => ∃ v w, vs = [v, w] ∧ D.nx ((σ.set i (some v)).set j (some w)) H1) : tPar i j t D σ H := h
theorem rd_par2 {N : L2.St → Hp → Prop} (hs : (σ.set i (some v)).set j (some w) = σ') (h : N σ' H) :
    ∃ v' w', ([v, w] : List V) = [v', w'] ∧ N ((σ.set i (some v')).set j (some w')) H := by
  subst hs
  exact ⟨v, w, rfl, h⟩
/-- while, by a word that falls -/
theorem rd_while (W : Nat → L2.St → Hp → Prop) (m : Nat) (h0 : W m σ H)
    (hs : ∀ m σ1 H1, W m σ1 H1 → tt σ1 H1 fun b H2 => if b = true then
      ts { D with nx := fun σ' H' => ∃ m', m' < m ∧ W m' σ' H', ct := fun σ' H' => ∃ m', m' < m ∧ W m' σ' H', bk := D.nx } σ1 H2 else D.nx σ1 H2)
    (mono : ∀ σ H Q Q', (∀ b H1, Q b H1 → Q' b H1) → tt σ H Q → tt σ H Q') : tWhile tt ts D σ H :=
  ⟨W, ⟨m, h0⟩, fun m σ1 H1 w => mono _ _ _ _ (fun b H2 h => by
    cases b with
    | true => exact ⟨_, fun _ _ z => z, h⟩
    | false => exact h) (hs m σ1 H1 w)⟩
theorem rd_whileE (h : ∃ W : Nat → L2.St → Hp → Prop, (∃ m, W m σ H) ∧ ∀ m σ H, W m σ H → tt σ H fun b H1 => if b = true then ∃ N : L2.St → Hp → Prop,
    (∀ σ' H', N σ' H' → ∃ m', m' < m ∧ W m' σ' H') ∧ ts { D with nx := N, ct := N, bk := D.nx } σ H1 else D.nx σ H1) : tWhile tt ts D σ H := h
theorem rd_tru (h : ta σ H fun x H' => ∃ k, TruV K x H' k ∧ QB k H') : tTruK K ta σ H QB := h
theorem rd_truI {P : Bool → Prop} (h : P (a != 0)) : ∃ k, TruV K (.int a) H k ∧ P k := ⟨_, rfl, h⟩
theorem rd_int1 (h : Q (.int a) H) : (∃ i, ([.int a] : List V) = [.int i] ∧ Q (.int i) H) ∨ ∃ k, ([.int a] : List V) = [.bl k] ∧ Q (.int (if k then 1 else 0)) H := .inl ⟨a, rfl, h⟩
end

section
variable {K : PySem.W.Frag} {H : Hp} {Q : VK} {a b : Int} {k : Bool} {p : Addr} {ys : List V} {z : Str}
theorem rd_int (h : Q (.int a) H) : rInt [.int a] H Q := .inl ⟨a, rfl, h⟩
theorem rd_intb (h : Q (.int (if k then 1 else 0)) H) : rInt [.bl k] H Q := .inr ⟨k, rfl, h⟩
theorem rd_abs (h : Q (.int (a.natAbs : Int)) H) : rAbs [.int a] H Q := ⟨a, rfl, by
  rw [show (if a < 0 then -a else a) = (a.natAbs : Int) by split <;> omega]
  exact h⟩
theorem rd_min2 (h : Q (.int (if b < a then b else a)) H) : rMin2 [.int a, .int b] H Q := ⟨a, b, rfl, h⟩
theorem rd_max2 (h : Q (.int (if b > a then b else a)) H) : rMax2 [.int a, .int b] H Q := ⟨a, b, rfl, h⟩
theorem rd_lenL (s : SqL K H p ys) (h : Q (.int ys.length) H) : rLenQ K [.ref p] H Q := ⟨p, ys, rfl, .inl s, h⟩
theorem rd_lenT (s : SqT K H p ys) (h : Q (.int ys.length) H) : rLenQ K [.ref p] H Q := ⟨p, ys, rfl, .inr s, h⟩
theorem rd_lenS (s : z.length ≤ sizeLine) (h : Q (.int z.length) H) : rLenS [.str z] H Q := ⟨z, rfl, s, h⟩
theorem rd_tupL (s : SqL K H p ys) (h : ∀ l, H l = none → Q (.ref l) (upd H l (.tup ys))) : rTupOf K [.ref p] H Q := ⟨p, ys, rfl, .inl ⟨s, h⟩⟩
theorem rd_tupT (s : SqT K H p ys) (h : Q (.ref p) H) : rTupOf K [.ref p] H Q := ⟨p, ys, rfl, .inr ⟨s, h⟩⟩
theorem rd_listL (s : SqL K H p ys) (h : ∀ l, H l = none → Q (.ref l) (upd H l (.lst ys))) : rListOf K [.ref p] H Q := ⟨p, ys, rfl, .inl s, h⟩
theorem rd_listT (s : SqT K H p ys) (h : ∀ l, H l = none → Q (.ref l) (upd H l (.lst ys))) : rListOf K [.ref p] H Q := ⟨p, ys, rfl, .inr s, h⟩
theorem rd_ixL {x : V} {i : Int} (s : SqL K H p ys) (e : atI ys i = some x) (h : Q x H) : rIxL K (.ref p) (.int i) H Q := ⟨p, ys, i, x, rfl, rfl, s, e, h⟩
theorem rd_ixT {x : V} {i : Int} (s : SqT K H p ys) (e : atI ys i = some x) (h : Q x H) : rIxT K (.ref p) (.int i) H Q := ⟨p, ys, i, x, rfl, rfl, s, e, h⟩
theorem rd_ixS {c : Nat} {i : Int} (s : z.length ≤ sizeLine) (e : atI z.cps.toList i = some c) (h : Q (.str ⟨#[c]⟩) H) : rIxS (.str z) (.int i) H Q := ⟨z, i, c, rfl, rfl, s, e, h⟩
end

/-! ### a deck of draws, a dict -/
def DeckB (d l : Addr) (H : Hp) : Prop := ∃ (ns : List Int) (s : Int),
  H d = some (.dK [(.inr "deep", .ref l), (.inr "state", .int s)]) ∧ H l = some (.lst (ns.map V.int)) ∧ ns.length ≤ 63 ∧ (∀ n ∈ ns, 0 ≤ n) ∧ 0 ≤ s ∧ s < 2305843009213693951
/-- what is left as it was by draws: all but the deck -/
structure Go (d l : Addr) (H H' : Hp) : Prop where
  dk : DeckB d l H'
  kp : ∀ a o, a ≠ d → a ≠ l → H a = some o → H' a = some o
section
variable {d l : Addr} {H H1 H2 : Hp}
theorem DeckB.ne (h : DeckB d l H) : d ≠ l := by
  obtain ⟨ns, s, e1, e2, _⟩ := h
  exact ne_of e1 e2 nofun
theorem Go.refl (h : DeckB d l H) : Go d l H H := ⟨h, fun _ _ _ _ e => e⟩
theorem Go.trans (a : Go d l H H1) (b : Go d l H1 H2) : Go d l H H2 := ⟨b.dk, fun p o n1 n2 e => b.kp p o n1 n2 (a.kp p o n1 n2 e)⟩
theorem DeckB.off (h : DeckB d l H) {p : Addr} (e : H p = none) : p ≠ d ∧ p ≠ l := by
  obtain ⟨ns, s, e1, e2, _⟩ := h
  exact ⟨fun z => (by rw [z, e1] at e; cases e), fun z => (by rw [z, e2] at e; cases e)⟩
theorem DeckB.upd (h : DeckB d l H) {p : Addr} {o : HO} (n1 : p ≠ d) (n2 : p ≠ l) : DeckB d l (upd H p o) := by
  obtain ⟨ns, s, e1, e2, r⟩ := h
  exact ⟨ns, s, by rw [upd_ne n1.symm]; exact e1, by rw [upd_ne n2.symm]; exact e2, r⟩
theorem Go.new (h : DeckB d l H) {p : Addr} {o : HO} (e : H p = none) : Go d l H (upd H p o) := by
  obtain ⟨n1, n2⟩ := h.off e
  exact ⟨h.upd n1 n2, fun q u _ _ eq => by rw [upd_ne (ne_of_none eq e)]; exact eq⟩
/-- an object that H does not know may change -/
theorem Go.mut (g : Go d l H H1) (h : DeckB d l H) {p : Addr} {o : HO} (e : H p = none) : Go d l H (upd H1 p o) := by
  obtain ⟨n1, n2⟩ := h.off e
  exact ⟨g.dk.upd n1 n2, fun q u m1 m2 eq => by rw [upd_ne (ne_of_none eq e)]; exact g.kp q u m1 m2 eq⟩
theorem Go.back (g : Go d l H H1) (h : DeckB d l H) {p : Addr} (e : H1 p = none) : H p = none := by
  obtain ⟨n1, n2⟩ := g.dk.off e
  cases q : H p with
  | none => rfl
  | some o =>
    rw [g.kp p o n1 n2 q] at e
    cases e
/-- a tuple stays -/
theorem Go.tup {K : PySem.W.Frag} (g : Go d l H H1) (h : DeckB d l H) {a : Addr} {xs : List V} (t : SqT K H a xs) : SqT K H1 a xs := by
  obtain ⟨ns, s, e1, e2, _⟩ := h
  have hn : ∀ {o : HO}, H a = some o → (∀ kv, o ≠ .dK kv) → (∀ ys, o ≠ .lst ys) → H1 a = some o := fun e c1 c2 =>
    g.kp a _ (fun z => (by rw [z, e1] at e; cases e; exact c1 _ rfl)) (fun z => (by rw [z, e2] at e; cases e; exact c2 _ rfl)) e
  rcases t with (t | ⟨o, t⟩) | t
  · exact .inl (.inl (hn t nofun nofun))
  · exact .inl (.inr ⟨o, hn t nofun nofun⟩)
  · exact .inr t
end
end Ea
set_option Elab.async false
set_option linter.all false
set_option maxRecDepth 100000
set_option maxHeartbeats 4000000
/-! Data that can be shown, compared: how great they are. -/
namespace Ea
open PySem PySem.Spec PyProof.Rows L2

structure Nice (n k : Nat) (d : PyData) : Prop where
  bulk : d.bulk ≤ n
  depth : d.depth ≤ k
  lay : d.canLay0 = true
  show_ : d.showable = true
  short : d.leavesShort 13 = true
  dict : d.hasDict = false
structure NiceAll (n k : Nat) (ds : List PyData) : Prop where
  bulk : PyData.bulkAll ds ≤ n
  depth : PyData.depthAll ds ≤ k
  lay : PyData.canLayAll0 ds = true
  show_ : PyData.showableAll ds = true
  short : PyData.leavesShortAll 13 ds = true
  dict : PyData.hasDictAll ds = false
theorem Nice.mono {n k m j : Nat} {d : PyData} (h : Nice n k d) (a : n ≤ m) (b : k ≤ j) : Nice m j d := ⟨Nat.le_trans h.bulk a, Nat.le_trans h.depth b, h.lay, h.show_, h.short, h.dict⟩
theorem NiceAll.mono {n k m j : Nat} {d : List PyData} (h : NiceAll n k d) (a : n ≤ m) (b : k ≤ j) : NiceAll m j d := ⟨Nat.le_trans h.bulk a, Nat.le_trans h.depth b, h.lay, h.show_, h.short, h.dict⟩
theorem Nice.non : Nice 0 0 .none := ⟨Nat.le_refl _, Nat.le_refl _, rfl, rfl, rfl, rfl⟩
theorem Nice.bool (b : Bool) : Nice 0 0 (.bool b) := ⟨Nat.le_refl _, Nat.le_refl _, rfl, rfl, rfl, rfl⟩
theorem log2_small {n : Nat} (h : n < 10 ^ 12) : n.log2 < 1920 := by
  by_cases h0 : n = 0
  · subst h0
    decide
  · rw [Nat.log2_lt h0]
    exact Nat.lt_trans h (by decide +kernel)
theorem Nice.int {i : Int} (h : i.natAbs < 10 ^ 12) : Nice 0 0 (.int i) :=
  ⟨Nat.le_refl _, Nat.le_refl _, rfl, decide_eq_true (log2_small h), decide_eq_true (PyData.shown_int_le h), rfl⟩
theorem Nice.str {x : Str} {n : Nat} (h : x.cps.size ≤ n) (hs : ∀ c ∈ x.cps.toList, c < 1114112) (ho : PyData.canLay0 (.str x) = true) : Nice n 0 (.str x) :=
  ⟨h, Nat.le_refl _, ho, rfl, by
    show (x.cps.toList.all fun c => decide (c < 16 ^ 8)) = true
    rw [List.all_eq_true]
    exact fun c hc => decide_eq_true (Nat.lt_of_lt_of_le (hs c hc) (by decide)), rfl⟩
theorem NiceAll.nil {k : Nat} : NiceAll 0 k [] := ⟨Nat.le_refl _, Nat.zero_le _, rfl, rfl, rfl, rfl⟩
theorem NiceAll.cons {n m k : Nat} {d : PyData} {ds : List PyData} (h : Nice n k d) (hs : NiceAll m k ds) : NiceAll (n + 1 + m) k (d :: ds) := by
  refine ⟨?_, ?_, ?_, ?_, ?_, ?_⟩
  · show d.bulk + 1 + PyData.bulkAll ds ≤ _
    have := h.bulk
    have := hs.bulk
    omega
  · show max d.depth (PyData.depthAll ds) ≤ _
    have := h.depth
    have := hs.depth
    omega
  · show (d.canLay0 && PyData.canLayAll0 ds) = true
    rw [h.lay, hs.lay] <;> rfl
  · show (d.showable && PyData.showableAll ds) = true
    rw [h.show_, hs.show_] <;> rfl
  · show (d.leavesShort 13 && PyData.leavesShortAll 13 ds) = true
    rw [h.short, hs.short] <;> rfl
  · show (d.hasDict || PyData.hasDictAll ds) = false
    rw [h.dict, hs.dict] <;> rfl
theorem Nice.cons2 {n m k : Nat} {d e : PyData} (h : Nice n k d) (h2 : Nice m k e) : NiceAll (n + 1 + (m + 1 + 0)) k [d, e] := NiceAll.cons h (NiceAll.cons h2 NiceAll.nil)
theorem Nice.cons3 {n m o k : Nat} {d e f : PyData} (h : Nice n k d) (h2 : Nice m k e) (h3 : Nice o k f) : NiceAll (n + 1 + (m + 1 + (o + 1 + 0))) k [d, e, f] := NiceAll.cons h (NiceAll.cons h2 (NiceAll.cons h3 NiceAll.nil))
theorem Nice.cons1 {n k : Nat} {d : PyData} (h : Nice n k d) : NiceAll (n + 1 + 0) k [d] := NiceAll.cons h NiceAll.nil
theorem Nice.tup {n k : Nat} {ds : List PyData} (h : NiceAll n k ds) : Nice n (k + 1) (.tuple ds) := ⟨h.bulk, Nat.succ_le_succ h.depth, h.lay, h.show_, h.short, h.dict⟩
theorem Nice.lst {n k : Nat} {ds : List PyData} (h : NiceAll n k ds) : Nice n (k + 1) (.list ds) := ⟨h.bulk, Nat.succ_le_succ h.depth, h.lay, h.show_, h.short, h.dict⟩
def dI (ns : List Int) : List PyData := ns.map PyData.int
theorem NiceAll.ints : ∀ {ns : List Int}, (∀ n ∈ ns, n.natAbs < 10 ^ 12) → NiceAll ns.length 0 (dI ns)
  | [], _ => NiceAll.nil
  | n :: r, h => by
    have z := NiceAll.cons (Nice.int (h n List.mem_cons_self)) (NiceAll.ints (ns := r) fun m hm => h m (List.mem_cons_of_mem _ hm))
    exact z.mono (by rw [List.length_cons]; omega) (Nat.le_refl _)
theorem dp_ints {K : PySem.W.Frag} {H : Hp} : ∀ (ns : List Int), DpAll K H (ns.map V.int) (dI ns)
  | [] => .nil
  | n :: r => .cons (.int n) (dp_ints r)
theorem dp_T {K : PySem.W.Frag} {H : Hp} {a : Addr} {ns : List Int} (h : SqT K H a (ns.map V.int)) : Dp K H (.ref a) (.tuple (dI ns)) := .tup h (dp_ints ns)
theorem dp_L {K : PySem.W.Frag} {H : Hp} {a : Addr} {ns : List Int} (h : SqL K H a (ns.map V.int)) : Dp K H (.ref a) (.list (dI ns)) := .lst h (dp_ints ns)
theorem Nice.shaped {n k : Nat} {d : PyData} (h : Nice n k d) (hk : k ≤ 64) : SeqAt.shaped d = true := by
  show (d.canLay0 && decide (d.depth ≤ 64)) = true
  rw [h.lay, decide_eq_true (Nat.le_trans h.depth hk)] <;> rfl

theorem lay_ints : ∀ ns : List Int, PyData.canLayAll0 (dI ns) = true ∧ PyData.depthAll (dI ns) = 0
  | [] => ⟨rfl, rfl⟩
  | n :: r => by
    obtain ⟨h1, h2⟩ := lay_ints r
    refine ⟨?_, ?_⟩
    · show (true && PyData.canLayAll0 (dI r)) = true
      rw [h1] <;> rfl
    · show max 0 (PyData.depthAll (dI r)) = 0
      rw [h2] <;> rfl
theorem shaped_ints (ns : List Int) : SeqAt.shaped (.list (dI ns)) = true := by
  obtain ⟨h1, h2⟩ := lay_ints ns
  show (PyData.canLayAll0 (dI ns) && decide (PyData.depthAll (dI ns) + 1 ≤ 64)) = true
  rw [h1, h2] <;> rfl
section
variable {K : PySem.W.Frag} {H : Hp} {Q : VK} {x y : V} {d e : PyData} {n k m j : Nat}
theorem rd_repr (hx : Dp K H x d) (h : Nice n k d) (hn : n ≤ 2 ^ 20) (hk : k ≤ 40) (hd : isDisplay d = true) (q : Q (.str d.shown) H) : rRepr K [x] H Q :=
  ⟨x, d, rfl, hx, h.show_, hd, h.dict, Nat.le_trans h.depth hk, PyData.shown_fits_bulk (by decide) (by decide) h.short (Nat.le_trans h.bulk hn), q⟩
theorem rd_eqD (hx : Dp K H x d) (hy : Dp K H y e) (h1 : Nice n k d) (h2 : Nice m j e) (hk : k ≤ 64) (hj : j ≤ 64) (q : Q (.bl (PyData.eqv d e)) H) : rEqD K x y H Q :=
  ⟨d, e, hx, hy, h1.shaped hk, h2.shaped hj, q⟩
theorem rd_neD (hx : Dp K H x d) (hy : Dp K H y e) (h1 : Nice n k d) (h2 : Nice m j e) (hk : k ≤ 64) (hj : j ≤ 64) (q : Q (.bl (!PyData.eqv d e)) H) : rNeD K x y H Q :=
  ⟨d, e, hx, hy, h1.shaped hk, h2.shaped hj, q⟩
/-- xs != [] -/
theorem rd_full {p : Addr} {a : Addr} {vs : List V} {ds : List PyData} (hx : SqL K H a vs) (hv : DpAll K H vs ds) (h : SeqAt.shaped (.list ds) = true) (hp : SqL K H p [])
    (q : Q (.bl (!vs.isEmpty)) H) : rNeD K (.ref a) (.ref p) H Q := by
  refine ⟨.list ds, .list [], .lst hx hv, .lst hp .nil, h, rfl, ?_⟩
  cases hv with
  | nil => exact q
  | cons a b => exact q
end
section
variable {K : PySem.W.Frag} {H : Hp} {Q : VK} {l : Addr} {xs : List V} {y : V} {A : Prop}
theorem rd_tyL (h : H l = some (.lst xs)) (q : A) : tyV K "list" (.ref l) H ∧ A := ⟨.inl ⟨rfl, _, SqL.of h⟩, q⟩
theorem rd_append (h : H l = some (.lst xs)) (hz : xs.length < 100000) (q : Q .non (upd H l (.lst (xs ++ [y])))) : rAppend (.ref l) [y] H Q :=
  ⟨l, xs, y, rfl, rfl, h, Evl.sz_lt hz, q⟩
theorem rd_pop (h : H l = some (.lst (xs ++ [y]))) (q : Q y (upd H l (.lst xs))) : rPop (.ref l) [] H Q :=
  ⟨l, xs ++ [y], y, rfl, rfl, h, by rw [List.length_append, List.length_singleton, Nat.add_sub_cancel, List.getElem?_append_right (Nat.le_refl _), Nat.sub_self] <;> rfl, by
    rw [List.dropLast_concat]
    exact q⟩
theorem rd_popAt {k : Nat} {i : Int} (h : H l = some (.lst xs)) (e : i = (k : Int)) (hk : xs[k]? = some y) (hz : xs.length ≤ 100000) (q : Q y (upd H l (.lst (xs.eraseIdx k)))) : rPopAt (.ref l) [.int i] H Q := by
  have hk' : k < xs.length := (List.getElem?_eq_some_iff.mp hk).1
  refine ⟨l, xs, i, k, y, rfl, rfl, h, by omega, by omega, ?_, hk, q⟩
  subst e
  have z := seqIndex_of (k := (k : Int)) (n := xs.length) (Int.natCast_nonneg k) (by exact_mod_cast hk')
  simpa using z
theorem at_nat {ys : List V} {i : Int} {k : Nat} (e : i = (k : Int)) (h : ys[k]? = some y) : atI ys i = some y := by
  rw [e]
  exact atI_nat h
end
/-! ### the draws' deck read -/
theorem kv_text {x : Str} : kV (Sum.inr x) = V.str x := rfl
theorem deck_deep {d l : Addr} {s : Int} {H : Hp} (h : H d = some (.dK [(.inr "deep", .ref l), (.inr "state", .int s)])) : DGet H d (.str "deep") (some (.ref l)) :=
  DGet.k (k := Sum.inr "deep") h
theorem deck_state {d l : Addr} {s : Int} {H : Hp} (h : H d = some (.dK [(.inr "deep", .ref l), (.inr "state", .int s)])) : DGet H d (.str "state") (some (.int s)) :=
  DGet.k (k := Sum.inr "state") h
theorem deck_put {d l : Addr} {s t : Int} {H : Hp} (h : H d = some (.dK [(.inr "deep", .ref l), (.inr "state", .int s)])) :
    DPut H d (.str "state") (.int t) (upd H d (.dK [(.inr "deep", .ref l), (.inr "state", .int t)])) :=
  DPut.k (k := Sum.inr "state") (v := .int t) h (by show 2 < sizeLine; rw [sizeLine_eq]; omega)
end Ea
set_option Elab.async false
set_option linter.all false
set_option maxRecDepth 100000
set_option maxHeartbeats 4000000
/-! Comprehensions and loops among draws; texts of owners. -/
namespace Ea
open PySem PySem.Spec PyProof.Rows L2

/-- what a comprehension's walk asks, by its iterator -/
def LcR (g : TG) (tt : TT) (te : TE) (vs : List Nat) (σ : L2.St) (Q : VK) (J : It) (H1 : Hp) : Prop :=
  ∀ D, H1 D = none → ∃ W : Nat → Nat → Hp → Prop, (∃ m, W 0 m (upd H1 D (.lst []))) ∧ ∀ i m H, W i m H →
    (J.stop i H ∧ Q (.ref D) H) ∨
    (J.go i H ∧ ∃ Nx : Hp → Prop, (∀ H', Nx H' → ∃ m', m' < m ∧ W (i + 1) m' H') ∧
      ∀ x H', J.yld i H x H' → g x (wipe σ vs) H' fun σ2 H2 => wipe σ2 vs = wipe σ vs ∧ tt σ2 H2 fun b H3 =>
        if b = true then te σ2 H3 fun y H4 => ∃ acc, H4 D = some (.lst acc) ∧ acc.length < sizeLine ∧ Nx (upd H4 D (.lst (acc ++ [y]))) else Nx H3)
section
variable {K : PySem.W.Frag} {σ : L2.St} {H : Hp} {Q : VK} {QB : Bool → Hp → Prop} {g : TG} {tt : TT} {te tl : TE} {ta : TA} {vs : List Nat} {wi : TI} {R : It → Hp → Prop} {a b : Int}
theorem rd_lc (h : wi σ H (LcR g tt te vs σ Q)) : tLc wi g tt te vs σ H Q := h
theorem rd_iTup (h : tl σ H fun x H1 => ∃ a, x = .ref a ∧ (∃ xs, SqT K H1 a xs) ∧ R (Itt K a) H1) : iTup K tl σ H R := h
theorem rd_iList (h : tl σ H fun x H1 => ∃ a, x = .ref a ∧ (∃ xs, SqL K H1 a xs) ∧ R (Itl K a) H1) : iList K tl σ H R := h
theorem rd_iRng1 (h : ta σ H fun vs H1 => ∃ j : Int, vs = [.int j] ∧ -(2 ^ 62) ≤ j ∧ j < 2 ^ 62 ∧ R (Itr 0 j.toNat) H1) : iRng1 ta σ H R := h
theorem rd_rng1 (h1 : -(2 ^ 62) ≤ a) (h2 : a < 2 ^ 62) (h : R (Itr 0 a.toNat) H) : ∃ j : Int, ([.int a] : List V) = [.int j] ∧ -(2 ^ 62) ≤ j ∧ j < 2 ^ 62 ∧ R (Itr 0 j.toNat) H := ⟨a, rfl, h1, h2, h⟩
theorem rd_ref {p : Addr} {xs : List V} {P : Addr → Prop} (s : SqT K H p xs) (h : P p) : ∃ a, V.ref p = .ref a ∧ (∃ xs, SqT K H a xs) ∧ P a := ⟨p, rfl, ⟨xs, s⟩, h⟩
theorem rd_refL {p : Addr} {xs : List V} {P : Addr → Prop} (s : SqL K H p xs) (h : P p) : ∃ a, V.ref p = .ref a ∧ (∃ xs, SqL K H a xs) ∧ P a := ⟨p, rfl, ⟨xs, s⟩, h⟩
theorem rd_yes (h : QB true H) : tYes σ H QB := h
theorem rd_true {A B : Prop} (h : A) : if true = true then A else B := by
  rw [if_pos rfl]
  exact h
theorem rd_false {A B : Prop} (h : B) : if false = true then A else B := h
end

section
variable {d l : Addr} {K : PySem.W.Frag} {σ : L2.St} {H : Hp} {Q : VK} {tt : TT} {te : TE} {vs : List Nat} {j : Nat} {σx : V → L2.St} {a : Addr} {xs : List V}
/-- a turn of a comprehension among draws -/
abbrev Turn (d l : Addr) (H : Hp) (tt : TT) (te : TE) (σx : V → L2.St) (Pv : Nat → List V → Prop) (i : Nat) (x : V) : Prop :=
  ∀ (acc : List V) (H' : Hp) (N : VK) (S : Hp → Prop), Go d l H H' → Pv i acc →
    (∀ y H3, Go d l H' H3 → Pv (i + 1) (acc ++ [y]) → N y H3) → (∀ H3, Go d l H' H3 → Pv (i + 1) acc → S H3) →
    tt (σx x) H' fun b H2 => if b = true then te (σx x) H2 N else S H2
def Cg (d l : Addr) (H : Hp) (Pv : Nat → List V → Prop) (D : Addr) (i : Nat) (H' : Hp) : Prop :=
  ∃ acc, H D = none ∧ Go d l H H' ∧ H' D = some (.lst acc) ∧ acc.length ≤ i ∧ Pv i acc
theorem cg_start {Pv : Nat → List V → Prop} (hD : DeckB d l H) (h0 : Pv 0 []) {D : Addr} (e : H D = none) : Cg d l H Pv D 0 (upd H D (.lst [])) :=
  ⟨[], e, Go.new hD e, upd_same, Nat.le_refl _, h0⟩
theorem cg_turn {Pv : Nat → List V → Prop} {D : Addr} {i : Nat} {x : V} {H' : Hp} (hD : DeckB d l H) (hi : i < 100000) (ht : Turn d l H tt te σx Pv i x) (p : Cg d l H Pv D i H') :
    tt (σx x) H' fun b H3 => if b = true then te (σx x) H3 fun y H4 => ∃ acc, H4 D = some (.lst acc) ∧ acc.length < sizeLine ∧ Cg d l H Pv D (i + 1) (upd H4 D (.lst (acc ++ [y]))) else Cg d l H Pv D (i + 1) H3 := by
  obtain ⟨acc, e, g, ea, hl, hp⟩ := p
  obtain ⟨n1, n2⟩ := hD.off e
  refine ht acc H' _ _ g hp (fun y H3 g3 hp3 => ?_) fun H3 g3 hp3 => ?_
  · refine ⟨acc, g3.kp D _ n1 n2 ea, Evl.sz_lt (by omega), acc ++ [y], e, Go.mut (g.trans g3) hD e, upd_same, ?_, hp3⟩
    rw [List.length_append, List.length_singleton]
    omega
  · exact ⟨acc, e, g.trans g3, g3.kp D _ n1 n2 ea, by omega, hp3⟩
theorem lc_goT (Pv : Nat → List V → Prop) (hD : DeckB d l H) (hx : SqT K H a xs) (hz : xs.length ≤ 40000) (hσ : ∀ x, (wipe σ vs).set j (some x) = σx x) (hw : ∀ x, wipe (σx x) vs = wipe σ vs)
    (h0 : Pv 0 []) (hs : ∀ i x, xs[i]? = some x → Turn d l H tt te σx Pv i x)
    (hd : ∀ D acc H', Go d l H H' → H D = none → H' D = some (.lst acc) → Pv xs.length acc → Q (.ref D) H') : LcR (gName j) tt te vs σ Q (Itt K a) H := fun D hn =>
  lc_tup (xs := xs) (Cg d l H Pv D) (cg_start hD h0 hn) (fun i H' _ ⟨_, _, g, _⟩ => g.tup hD hx) (fun i x H' hi p => by
    rw [show gName j x (wipe σ vs) H' = fun N => N (σx x) H' from funext fun N => by rw [← hσ x] <;> rfl]
    refine ⟨hw x, ?_⟩
    have := (List.getElem?_eq_some_iff.mp hi).1
    exact cg_turn hD (by omega) (hs i x hi) p) fun H' p => by
    obtain ⟨acc, e, g, ea, _, hp⟩ := p
    exact hd D acc H' g e ea hp
theorem lc_goL (Pv : Nat → List V → Prop) (hD : DeckB d l H) (hx : ∀ H', Go d l H H' → SqL K H' a xs) (hz : xs.length ≤ 40000) (hσ : ∀ x, (wipe σ vs).set j (some x) = σx x) (hw : ∀ x, wipe (σx x) vs = wipe σ vs)
    (h0 : Pv 0 []) (hs : ∀ i x, xs[i]? = some x → Turn d l H tt te σx Pv i x)
    (hd : ∀ D acc H', Go d l H H' → H D = none → H' D = some (.lst acc) → Pv xs.length acc → Q (.ref D) H') : LcR (gName j) tt te vs σ Q (Itl K a) H := fun D hn =>
  lc_list (xs := xs) (Cg d l H Pv D) (cg_start hD h0 hn) (fun i H' _ ⟨_, _, g, _⟩ => hx H' g) (fun i x H' hi p => by
    rw [show gName j x (wipe σ vs) H' = fun N => N (σx x) H' from funext fun N => by rw [← hσ x] <;> rfl]
    refine ⟨hw x, ?_⟩
    have := (List.getElem?_eq_some_iff.mp hi).1
    exact cg_turn hD (by omega) (hs i x hi) p) fun H' p => by
    obtain ⟨acc, e, g, ea, _, hp⟩ := p
    exact hd D acc H' g e ea hp
theorem lc_goR {lo : Int} {n : Nat} (Pv : Nat → List V → Prop) (hD : DeckB d l H) (hz : n ≤ 40000) (hσ : ∀ x, (wipe σ vs).set j (some x) = σx x) (hw : ∀ x, wipe (σx x) vs = wipe σ vs)
    (h0 : Pv 0 []) (hs : ∀ i, i < n → Turn d l H tt te σx Pv i (.int (lo + i)))
    (hd : ∀ D acc H', Go d l H H' → H D = none → H' D = some (.lst acc) → Pv n acc → Q (.ref D) H') : LcR (gName j) tt te vs σ Q (Itr lo n) H := fun D hn =>
  lc_range (Cg d l H Pv D) (cg_start hD h0 hn) (fun i H' hi p => by
    rw [show gName j (.int (lo + i)) (wipe σ vs) H' = fun N => N (σx (.int (lo + i))) H' from funext fun N => by rw [← hσ (.int (lo + i))] <;> rfl]
    exact ⟨hw _, cg_turn hD (by omega) (hs i hi) p⟩) fun H' p => by
    obtain ⟨acc, e, g, ea, _, hp⟩ := p
    exact hd D acc H' g e ea hp
end

/-! ### texts of "e" and "s" -/
def OwnS (n : Nat) (z : Str) : Prop := z.length = n ∧ ∀ c ∈ z.cps.toList, c = 101 ∨ c = 115
theorem folded_mem (z : Array Nat) : ∀ (n : Nat) (acc : Array Nat) (c : Nat), c ∈ ((List.replicate n z).foldl (· ++ ·) acc).toList → c ∈ acc.toList ∨ c ∈ z.toList
  | 0, acc, c, h => .inl h
  | n + 1, acc, c, h => by
    rw [List.replicate_succ, List.foldl_cons] at h
    rcases folded_mem z n _ c h with h | h
    · rw [Array.toList_append] at h
      exact List.mem_append.mp h
    · exact .inr h
theorem own_rep {z : Str} {k : Nat} {n : Int} (h : OwnS k z) (h0 : 0 ≤ n) : OwnS (n.toNat * k) (repS z n) := by
  refine ⟨by rw [repS_length, h.1], fun c hc => ?_⟩
  rcases folded_mem z.cps n.toNat #[] c hc with q | q
  · simp at q
  · exact h.2 c q
theorem own_add {y z : Str} {k m : Nat} (h1 : OwnS k y) (h2 : OwnS m z) : OwnS (k + m) (y ++ z) := by
  refine ⟨by rw [Str.length_append, h1.1, h2.1], fun c hc => ?_⟩
  have e : (y ++ z).cps.toList = y.cps.toList ++ z.cps.toList := by
    rw [Str.cps_append, Array.toList_append]
  rw [e] at hc
  exact (List.mem_append.mp hc).elim (h1.2 c) (h2.2 c)
theorem own_cut {z : Str} {k n : Nat} (h : OwnS k z) (hn : n ≤ k) : OwnS n (cutS z none (some (n : Int))) := by
  have e1 : HT.sIx z.length 0 none = 0 := HT.sIx_none _ _
  have e2 : HT.sIx z.length z.length (some (n : Int)) = min n z.length := HT.sIx_nat _ _ _
  refine ⟨?_, fun c hc => h.2 c ?_⟩
  · show (cutS z none (some (n : Int))).cps.size = n
    unfold cutS
    rw [e1, e2, List.drop_zero, List.size_toArray, List.length_take, Nat.sub_zero]
    have e3 : z.cps.toList.length = k := h.1
    have e4 : z.length = k := h.1
    rw [e3, e4]
    omega
  · unfold cutS at hc
    rw [List.toList_toArray] at hc
    exact List.mem_of_mem_drop (List.mem_of_mem_take hc)
theorem own_e : OwnS 1 "e" := ⟨rfl, by decide⟩
theorem own_s : OwnS 1 "s" := ⟨rfl, by decide⟩
theorem own_fold : ∀ (ys : List Str) (acc : Array Nat) (m : Nat), (∀ y ∈ ys, OwnS 1 y) → OwnS m ⟨acc⟩ →
    OwnS (m + ys.length) ⟨ys.foldl (fun acc p => acc ++ (Str.ofString "").cps ++ p.cps) acc⟩
  | [], acc, m, _, h => h
  | y :: r, acc, m, hy, h => by
    rw [List.foldl_cons, List.length_cons, show m + (r.length + 1) = (m + 1) + r.length by omega]
    refine own_fold r _ (m + 1) (fun z hz => hy z (List.mem_cons_of_mem _ hz)) ?_
    have e : (⟨acc ++ (Str.ofString "").cps ++ y.cps⟩ : Str) = (⟨acc⟩ : Str) ++ y := by
      show (⟨acc ++ #[] ++ y.cps⟩ : Str) = _
      rw [Array.append_empty]
      rfl
    rw [e]
    exact own_add h (hy y List.mem_cons_self)
theorem own_join {ys : List Str} (h : ∀ y ∈ ys, OwnS 1 y) : OwnS ys.length (Txt.join "" ys) := by
  cases ys with
  | nil => exact ⟨rfl, by decide⟩
  | cons y r =>
    have z := own_fold r y.cps 1 (fun z hz => h z (List.mem_cons_of_mem _ hz)) (h y List.mem_cons_self)
    rw [List.length_cons, Nat.add_comm]
    exact z
theorem own_sum {ys : List Str} (h : ∀ y ∈ ys, OwnS 1 y) : (ys.map (·.length)).sum = ys.length := by
  induction ys with
  | nil => rfl
  | cons y r ih =>
    rw [List.map_cons, List.sum_cons, ih fun z hz => h z (List.mem_cons_of_mem _ hz), (h y List.mem_cons_self).1, List.length_cons]
    omega
/-! ### + of texts, in -/
def rAddSt : R2 := fun x y H Q => ∃ i j, x = .str i ∧ y = .str j ∧ i.length + j.length ≤ sizeLine ∧ Q (.str (i ++ j)) H
theorem op_addSt {X : Cx} : OpR X (binaryOp .Add) rAddSt := op_add_str
section
variable {K : PySem.W.Frag} {H : Hp} {Q : VK} {a : Int} {p : Addr} {ns : List Int} {y z : Str}
theorem rd_addSt (hz : y.length + z.length ≤ sizeLine) (h : Q (.str (y ++ z)) H) : rAddSt (.str y) (.str z) H Q := ⟨y, z, rfl, rfl, hz, h⟩
theorem flat_ints : ∀ ns : List Int, (ns.map V.int).all flatV = true
  | [] => rfl
  | _ :: r => flat_ints r
theorem inV_ints (a : Int) : ∀ ns : List Int, inV (.int a) (ns.map V.int) = decide (a ∈ ns)
  | [] => rfl
  | n :: r => by
    show ((n == a) || inV (.int a) (r.map V.int)) = _
    rw [inV_ints a r]
    by_cases h : n = a
    · subst h
      simp
    · have h' : ¬ a = n := fun e => h e.symm
      have e1 : (n == a) = false := beq_eq_false_iff_ne.mpr h
      rw [e1, Bool.false_or]
      simp [h']
theorem rd_inT (s : SqT K H p (ns.map V.int)) (h : Q (.bl (decide (a ∈ ns))) H) : rIn K false (.int a) (.ref p) H Q :=
  ⟨p, ns.map V.int, rfl, .inr s, rfl, flat_ints ns, by rw [inV_ints]; exact h⟩
theorem rd_inL (s : SqL K H p (ns.map V.int)) (h : Q (.bl (decide (a ∈ ns))) H) : rIn K false (.int a) (.ref p) H Q :=
  ⟨p, ns.map V.int, rfl, .inl s, rfl, flat_ints ns, by rw [inV_ints]; exact h⟩
theorem rd_notInT (s : SqT K H p (ns.map V.int)) (h : Q (.bl (!decide (a ∈ ns))) H) : rIn K true (.int a) (.ref p) H Q :=
  ⟨p, ns.map V.int, rfl, .inr s, rfl, flat_ints ns, by rw [inV_ints]; exact h⟩
theorem rd_notInL (s : SqL K H p (ns.map V.int)) (h : Q (.bl (!decide (a ∈ ns))) H) : rIn K true (.int a) (.ref p) H Q :=
  ⟨p, ns.map V.int, rfl, .inl s, rfl, flat_ints ns, by rw [inV_ints]; exact h⟩
end
/-! ### join -/
def rJoin (K : PySem.W.Frag) : V → List V → Hp → VK → Prop := fun x xs H Q =>
  ∃ (a : Str) (p : Addr) (ys : List Str), x = .str a ∧ xs = [.ref p] ∧ (SqL K H p (ys.map V.str) ∨ SqT K H p (ys.map V.str)) ∧
    (ys.map (·.length)).sum + ys.length * a.length ≤ 16777216 ∧ Q (.str (Txt.join a ys)) H
section
variable {X : Cx} {o e : Expr} {to te : TE} {apos pos : Pos}
theorem pe_joinN (ho : PE X o to) (he : PE X e te) (hs : starEach [e] X.env = [(false, eval e X.env)] := by rfl)
    (hbase : attributeBase o "join" X.env (eval o X.env) = eval o X.env := by rfl) (hline : (apos.endLine == pos.line) = true := by rfl) :
    PE X (.Call (.Attribute o "join" apos) [e] [] pos) (tM1 (rJoin X.K) to te) := pe_join ho he hs hbase hline
end
section
variable {K : PySem.W.Frag} {σ : L2.St} {H : Hp} {Q : VK} {to te : TE} {r : V → List V → Hp → VK → Prop} {z : Str} {P : Prop}
theorem rd_m1 (h : to σ H fun x H1 => (∃ a, x = .str a) ∧ te σ H1 fun y H2 => r x [y] H2 Q) : tM1 r to te σ H Q := h
theorem rd_isS (h : P) : (∃ a, V.str z = .str a) ∧ P := ⟨⟨z, rfl⟩, h⟩
theorem rd_join {p : Addr} {ys : List Str} (s : SqL K H p (ys.map V.str)) (hz : (ys.map (·.length)).sum + ys.length * z.length ≤ 16777216) (h : Q (.str (Txt.join z ys)) H) : rJoin K (.str z) [.ref p] H Q :=
  ⟨z, p, ys, rfl, rfl, .inl s, hz, h⟩
theorem rd_mulS {n : Int} (h0 : 0 ≤ n) (h1 : n ≤ 1000) (h2 : z.length ≤ 1000) (h3 : 1 ≤ z.length) (h : Q (.str (repS z n)) H) : rMulS (.str z) (.int n) H Q := ⟨z, n, rfl, rfl, h0, h1, h2, h3, h⟩
theorem rd_addS {y : Str} (hz : y.length + z.length ≤ sizeLine) (h : Q (.str (y ++ z)) H) : (∃ i j, V.str y = .str i ∧ V.str z = .str j ∧ i.length + j.length ≤ sizeLine ∧ Q (.str (i ++ j)) H) := ⟨y, z, rfl, rfl, hz, h⟩
theorem rd_slS {lo hi : Option Int} (hz : z.length ≤ sizeLine) (h : Q (.str (cutS z lo hi)) H) : rSlS (.str z) lo hi H Q := ⟨z, rfl, hz, h⟩
end
end Ea
set_option Elab.async false
set_option linter.all false
set_option maxRecDepth 100000
set_option maxHeartbeats 4000000
/-! Slices, sums of tuples, sorted lists of ints, ranges as lists; rows of literals. -/
namespace Ea
open PySem PySem.Spec PyProof.Rows L2

/-! ### slices -/
theorem take_min {α : Type} (xs : List α) (k : Nat) : xs.take (min k xs.length) = xs.take k := by
  by_cases h : k ≤ xs.length
  · rw [Nat.min_eq_left h]
  · rw [Nat.min_eq_right (by omega), List.take_of_length_le (Nat.le_refl _), List.take_of_length_le (by omega)]
theorem drop_min {α : Type} (xs : List α) (k : Nat) : xs.drop (min k xs.length) = xs.drop k := by
  by_cases h : k ≤ xs.length
  · rw [Nat.min_eq_left h]
  · rw [Nat.min_eq_right (by omega), List.drop_of_length_le (Nat.le_refl _), List.drop_of_length_le (by omega)]
section
variable {ns : List Int} {xs : List V} {a b : Int}
theorem sIx_int (n e : Nat) (h : 0 ≤ a) : HT.sIx n e (some a) = min a.toNat n := by
  have z := HT.sIx_nat n e a.toNat
  rw [Int.toNat_of_nonneg h] at z
  exact z
theorem cut_take (h : 0 ≤ b) : cutV xs none (some b) = xs.take b.toNat := by
  unfold cutV
  rw [HT.sIx_none, sIx_int _ _ h, List.drop_zero, Nat.sub_zero, take_min]
theorem cut_drop (h : 0 ≤ a) : cutV xs (some a) none = xs.drop a.toNat := by
  unfold cutV
  rw [HT.sIx_none, sIx_int _ _ h, drop_min]
  exact List.take_of_length_le (by rw [List.length_drop]; omega)
theorem cut_mid (h : 0 ≤ a) (h2 : 0 ≤ b) : cutV xs (some a) (some b) = (xs.drop a.toNat).take (b.toNat - a.toNat) := by
  unfold cutV
  rw [sIx_int _ _ h, sIx_int _ _ h2, drop_min]
  by_cases c : b.toNat ≤ xs.length
  · rw [Nat.min_eq_left c]
    by_cases c2 : a.toNat ≤ xs.length
    · rw [Nat.min_eq_left c2]
    · rw [List.drop_of_length_le (by omega), List.take_nil, List.take_nil]
  · rw [Nat.min_eq_right (by omega)]
    by_cases c2 : a.toNat ≤ xs.length
    · rw [Nat.min_eq_left c2, List.take_of_length_le (by rw [List.length_drop]; omega), List.take_of_length_le (by rw [List.length_drop]; omega)]
    · rw [List.drop_of_length_le (by omega), List.take_nil, List.take_nil]
theorem cut_whole {lo hi : Option Int} (h : HT.sIx xs.length 0 lo = 0 ∧ HT.sIx xs.length xs.length hi = xs.length) : cutV xs lo hi = xs := by
  unfold cutV
  rw [h.1, h.2, List.drop_zero, Nat.sub_zero]
  exact List.take_of_length_le (Nat.le_refl _)
end
section
variable {d l : Addr} {K : PySem.W.Frag} {σ : L2.St} {H H' : Hp} {Q : VK} {p p2 : Addr} {xs ys : List V} {lo hi : Option Int} {ns : List Int} {a b : Int}
theorem Go.ex (e : Evl.Ex H H') (h : DeckB d l H) : Go d l H H' := by
  obtain ⟨ns, s, e1, e2, r⟩ := h
  exact ⟨⟨ns, s, e _ _ e1, e _ _ e2, r⟩, fun a o _ _ q => e a o q⟩
theorem rd_slT (s : SqT K H p xs) (h : ∀ (q : Addr) (H' : Hp), Evl.Ex H H' → SqT K H' q (cutV xs lo hi) → Q (.ref q) H') : rSlA K (.ref p) lo hi H Q :=
  ⟨p, xs, rfl, s, fun e => h p H (Evl.Ex.refl H) (by rw [cut_whole e]; exact s), fun _ q hq => h q _ (Evl.Ex.new hq) (SqT.of upd_same)⟩
theorem rd_slL (s : SqL K H p xs) (h : ∀ q, H q = none → Q (.ref q) (upd H q (.lst (cutV xs lo hi)))) : rSlL K (.ref p) lo hi H Q := ⟨p, xs, rfl, s, h⟩
theorem rd_catT (s : SqT K H p xs) (s2 : SqT K H p2 ys) (hz : xs.length + ys.length ≤ sizeLine)
    (h : ∀ (q : Addr) (H' : Hp), Evl.Ex H H' → SqT K H' q (xs ++ ys) → Q (.ref q) H') : rCatA K (.ref p) (.ref p2) H Q := by
  refine ⟨p, p2, xs, ys, rfl, rfl, s, s2, hz, fun e => ?_, fun _ e => ?_, fun _ _ q hq => h q _ (Evl.Ex.new hq) (SqT.of upd_same)⟩
  · subst e
    exact h p2 H (Evl.Ex.refl H) s2
  · subst e
    exact h p H (Evl.Ex.refl H) (by rw [List.append_nil]; exact s)
theorem rd_catL (s : H p = some (.lst xs)) (s2 : H p2 = some (.lst ys)) (hz : xs.length + ys.length ≤ sizeLine) (h : ∀ q, H q = none → Q (.ref q) (upd H q (.lst (xs ++ ys)))) : rCat (.ref p) (.ref p2) H Q :=
  ⟨p, p2, xs, ys, rfl, rfl, s, s2, hz, h⟩
theorem rd_sorted (s : SqL K H p (ns.map V.int)) (h : ∀ (ms : List Int) (q : Addr), ms.Perm ns → ms.Pairwise (· ≤ ·) → H q = none → Q (.ref q) (upd H q (.lst (ms.map V.int)))) : rSortedI K [.ref p] H Q :=
  ⟨p, ns, rfl, s, h⟩
def rgI (a b : Int) : List Int := (List.range (b - a).toNat).map fun i => a + (i : Nat)
theorem rgV_ints (a b : Int) : rgV a b = (rgI a b).map V.int := by
  unfold rgV rgI
  rw [List.map_map]
  rfl
theorem rd_listRg {te : L2.St → Hp → (Int → Int → Hp → Prop) → Prop} (h : te σ H fun a b H1 => RgOk a b ∧ ∀ q, H1 q = none → Q (.ref q) (upd H1 q (.lst (rgV a b)))) : tLstRg te σ H Q := h
theorem rd_rg2 {ta tb : TE} {R : Int → Int → Hp → Prop} (h : ta σ H fun x H1 => tb σ H1 fun y H2 => ∃ i j, x = .int i ∧ y = .int j ∧ R i j H2) : tRg2 ta tb σ H R := h
theorem rd_rgk {R : Int → Int → Prop} (h : R a b) : ∃ i j, V.int a = .int i ∧ V.int b = .int j ∧ R i j := ⟨a, b, rfl, rfl, h⟩
theorem rgI_mem {a b x : Int} : x ∈ rgI a b ↔ a ≤ x ∧ x < b := by
  unfold rgI
  rw [List.mem_map]
  constructor
  · rintro ⟨i, hi, rfl⟩
    have := List.mem_range.mp hi
    omega
  · rintro ⟨h1, h2⟩
    exact ⟨(x - a).toNat, List.mem_range.mpr (by omega), by omega⟩
theorem rgI_lt (a b : Int) : (rgI a b).Pairwise (· < ·) := by
  unfold rgI
  rw [List.pairwise_map]
  exact List.pairwise_lt_range.imp fun {i j} h => by omega
theorem rgI_length (a b : Int) : (rgI a b).length = (b - a).toNat := by
  unfold rgI
  rw [List.length_map, List.length_range]
end
theorem nodup_of_lt {ns : List Int} (h : ns.Pairwise (· < ·)) : ns.Nodup := h.imp fun {a b} q => by omega
theorem lt_of_sorted {ns : List Int} (h : ns.Pairwise (· ≤ ·)) (hn : ns.Nodup) : ns.Pairwise (· < ·) := by
  refine (h.and hn).imp fun {a b} q => ?_
  obtain ⟨q1, q2⟩ := q
  have q2 : a ≠ b := q2
  omega

/-! ### rows -/
/-- a clause of n letters -/
def Row (n : Nat) (ns : List Int) : Prop := ns.Pairwise (fun x y => x.natAbs < y.natAbs) ∧ ∀ x ∈ ns, 1 ≤ x.natAbs ∧ x.natAbs ≤ n
theorem Row.nil {n : Nat} : Row n [] := ⟨List.Pairwise.nil, nofun⟩
theorem Row.sub {n : Nat} {xs ys : List Int} (h : Row n ys) (s : xs.Sublist ys) : Row n xs := ⟨h.1.sublist s, fun x hx => h.2 x (s.subset hx)⟩
theorem Row.abs {n : Nat} {xs ys : List Int} (h : Row n ys) (e : xs.map Int.natAbs = ys.map Int.natAbs) : Row n xs := by
  have h1 : (ys.map Int.natAbs).Pairwise (· < ·) := by
    rw [List.pairwise_map]
    exact h.1
  rw [← e, List.pairwise_map] at h1
  refine ⟨h1, fun x hx => ?_⟩
  have : x.natAbs ∈ ys.map Int.natAbs := by
    rw [← e]
    exact List.mem_map_of_mem hx
  obtain ⟨y, hy, e2⟩ := List.mem_map.mp this
  rw [← e2]
  exact h.2 y hy
theorem Row.of_letters {n : Nat} {ns : List Int} (h : ns.Pairwise (· < ·)) (hm : ∀ x ∈ ns, 1 ≤ x ∧ x ≤ (n : Int)) : Row n ns := by
  refine ⟨?_, fun x hx => ?_⟩
  · refine List.Pairwise.imp_of_mem (fun {a b} ha hb q => ?_) h
    have := hm a ha
    have := hm b hb
    omega
  · have := hm x hx
    omega
theorem Row.length {n : Nat} : ∀ {ns : List Int}, Row n ns → ns.length ≤ n := by
  have key : ∀ (ns : List Int) (k : Nat), ns.Pairwise (fun x y => x.natAbs < y.natAbs) → (∀ x ∈ ns, k < x.natAbs ∧ x.natAbs ≤ n) → k ≤ n → ns.length + k ≤ n := by
    intro ns
    induction ns with
    | nil => intro k _ _ h; simpa using h
    | cons x r ih =>
      intro k hp hm hk
      obtain ⟨h1, h2⟩ := List.pairwise_cons.mp hp
      have hx := hm x List.mem_cons_self
      have z := ih x.natAbs h2 (fun y hy => ⟨h1 y hy, (hm y (List.mem_cons_of_mem _ hy)).2⟩) hx.2
      rw [List.length_cons]
      omega
  intro ns h
  have z := key ns 0 h.1 (fun x hx => ⟨by have := (h.2 x hx).1; omega, (h.2 x hx).2⟩) (Nat.zero_le _)
  omega
end Ea
set_option Elab.async false
set_option linter.all false
set_option maxHeartbeats 4000000
/-! Rows dropped, clashing and met: plain lists. -/
namespace Ea
/-- without what holds at the end -/
def dropTail (f : Int → Bool) (ns : List Int) : List Int := (ns.reverse.dropWhile f).reverse
theorem dropTail_nil (f : Int → Bool) : dropTail f [] = [] := rfl
theorem dropTail_snoc_pos {f : Int → Bool} {ns : List Int} {x : Int} (h : f x = true) : dropTail f (ns ++ [x]) = dropTail f ns := by
  unfold dropTail
  rw [List.reverse_append, List.reverse_singleton, List.singleton_append, List.dropWhile_cons, if_pos h]
theorem dropTail_snoc_neg {f : Int → Bool} {ns : List Int} {x : Int} (h : f x = false) : dropTail f (ns ++ [x]) = ns ++ [x] := by
  unfold dropTail
  rw [List.reverse_append, List.reverse_singleton, List.singleton_append, List.dropWhile_cons, if_neg (by rw [h]; decide), List.reverse_cons, List.reverse_reverse]
theorem take_snoc {ns : List Int} {k : Nat} (h : k < ns.length) : ns.take (k + 1) = ns.take k ++ [ns[k]] := by
  rw [List.take_add_one, List.getElem?_eq_getElem h]
  rfl
theorem dropTail_idem (f : Int → Bool) (ns : List Int) : dropTail f (dropTail f ns) = dropTail f ns := by
  rcases List.eq_nil_or_concat (dropTail f ns) with e | ⟨m, z, e⟩
  · rw [e]
    rfl
  · have e : dropTail f ns = m ++ [z] := by simpa using e
    rw [e]
    refine dropTail_snoc_neg ?_
    have h : ns.reverse.dropWhile f = z :: m.reverse := by
      have h2 := congrArg List.reverse e
      unfold dropTail at h2
      rw [List.reverse_reverse, List.reverse_append] at h2
      simpa using h2
    have h3 := List.head?_dropWhile_not f ns.reverse
    rw [h] at h3
    simpa using h3
theorem dropTail_sub (f : Int → Bool) (ns : List Int) : (dropTail f ns).Sublist ns := by
  have h : (ns.reverse.dropWhile f).Sublist ns.reverse := List.dropWhile_sublist f
  have h2 := h.reverse
  rw [List.reverse_reverse] at h2
  exact h2
/-- the greatest letter of the other party's -/
def lastOf (f : Int → Bool) (ns : List Int) : List Int := (ns.filter fun x => !f x).map fun x => (x.natAbs : Int)
theorem short_eq {n : Nat} {f : Int → Bool} {m : Int} : ∀ {ns : List Int}, Row n ns → (m ∈ lastOf f ns ++ [0]) → (∀ y ∈ lastOf f ns ++ [0], y ≤ m) →
    (ns.filter fun x => !f x || decide ((x.natAbs : Int) < m)) = dropTail f ns := by
  intro ns
  generalize hk : ns.length = k
  induction k generalizing ns with
  | zero =>
    intro _ _ _
    rw [List.length_eq_zero_iff.mp hk]
    rfl
  | succ k ih =>
    intro hr hm hb
    obtain ⟨r, x, e⟩ : ∃ r x, ns = r ++ [x] := by
      rcases List.eq_nil_or_concat ns with e | ⟨r, x, e⟩
      · rw [e] at hk
        cases hk
      · exact ⟨r, x, by simpa using e⟩
    subst e
    have hlt : ∀ y ∈ r, y.natAbs < x.natAbs := fun y hy => (List.pairwise_append.mp hr.1).2.2 y hy x List.mem_cons_self
    have hx1 := (hr.2 x (List.mem_append_right _ List.mem_cons_self)).1
    have hr' : Row n r := hr.sub (List.sublist_append_left _ _)
    rw [List.filter_append]
    cases hf : f x with
    | false =>
      rw [dropTail_snoc_neg hf]
      have e2 : ([x].filter fun x => !f x || decide ((x.natAbs : Int) < m)) = [x] := by simp [hf]
      rw [e2]
      have hxm : (x.natAbs : Int) ≤ m := hb _ (List.mem_append_left _ (by
        unfold lastOf
        exact List.mem_map.mpr ⟨x, List.mem_filter.mpr ⟨List.mem_append_right _ List.mem_cons_self, by rw [hf]; rfl⟩, rfl⟩))
      congr 1
      refine List.filter_eq_self.mpr fun y hy => ?_
      have := hlt y hy
      rw [Bool.or_eq_true]
      exact .inr (decide_eq_true (by omega))
    | true =>
      rw [dropTail_snoc_pos hf]
      have el : lastOf f (r ++ [x]) = lastOf f r := by
        unfold lastOf
        rw [List.filter_append]
        have : ([x].filter fun x => !f x) = [] := by simp [hf]
        rw [this, List.append_nil]
      rw [el] at hm hb
      have hxm : ¬ (x.natAbs : Int) < m := by
        rcases List.mem_append.mp hm with h | h
        · obtain ⟨y, hy, e⟩ := List.mem_map.mp h
          have := hlt y (List.mem_filter.mp hy).1
          omega
        · rw [List.mem_singleton.mp h]
          omega
      have e2 : ([x].filter fun x => !f x || decide ((x.natAbs : Int) < m)) = [] := by simp [hf, hxm]
      rw [e2, List.append_nil]
      refine ih (ns := r) ?_ hr' hm hb
      rw [List.length_append, List.length_singleton] at hk
      omega

/-! ### letters in which rows clash -/
def against (one other : List Int) : List Int := (one.filter fun x => decide (-x ∈ other)).map fun x => (x.natAbs : Int)
theorem against_mem {one other : List Int} {k : Int} : k ∈ against one other ↔ ∃ x ∈ one, -x ∈ other ∧ (x.natAbs : Int) = k := by
  unfold against
  rw [List.mem_map]
  constructor
  · rintro ⟨x, hx, e⟩
    have h := List.mem_filter.mp hx
    exact ⟨x, h.1, of_decide_eq_true h.2, e⟩
  · rintro ⟨x, hx, h, e⟩
    exact ⟨x, List.mem_filter.mpr ⟨hx, decide_eq_true h⟩, e⟩
theorem against_lt {n : Nat} {one other : List Int} (h : Row n one) : (against one other).Pairwise (· < ·) := by
  unfold against
  rw [List.pairwise_map]
  exact (h.1.sublist List.filter_sublist).imp fun {a b} q => by omega
theorem eq_of_lt : ∀ {xs ys : List Int}, xs.Pairwise (· < ·) → ys.Pairwise (· < ·) → (∀ x, x ∈ xs ↔ x ∈ ys) → xs = ys
  | [], [], _, _, _ => rfl
  | [], y :: r, _, _, h => absurd ((h y).mpr List.mem_cons_self) nofun
  | x :: r, [], _, _, h => absurd ((h x).mp List.mem_cons_self) nofun
  | x :: r, y :: t, h1, h2, h => by
    obtain ⟨a1, a2⟩ := List.pairwise_cons.mp h1
    obtain ⟨b1, b2⟩ := List.pairwise_cons.mp h2
    have e : x = y := by
      rcases List.mem_cons.mp ((h x).mp List.mem_cons_self) with e | e
      · exact e
      · rcases List.mem_cons.mp ((h y).mpr List.mem_cons_self) with e2 | e2
        · exact e2.symm
        · have := a1 y e2
          have := b1 x e
          omega
    subst e
    congr 1
    refine eq_of_lt a2 b2 fun z => ⟨fun hz => ?_, fun hz => ?_⟩
    · rcases List.mem_cons.mp ((h z).mp (List.mem_cons_of_mem _ hz)) with e | e
      · have := a1 z hz
        omega
      · exact e
    · rcases List.mem_cons.mp ((h z).mpr (List.mem_cons_of_mem _ hz)) with e | e
      · have := b1 z hz
        omega
      · exact e
theorem against_comm {n m : Nat} {one other : List Int} (h1 : Row n one) (h2 : Row m other) : against other one = against one other := by
  refine eq_of_lt (against_lt h2) (against_lt h1) fun k => ?_
  rw [against_mem, against_mem]
  constructor
  · rintro ⟨x, hx, hn, e⟩
    exact ⟨-x, hn, by rw [Int.neg_neg]; exact hx, by omega⟩
  · rintro ⟨x, hx, hn, e⟩
    exact ⟨-x, hn, by rw [Int.neg_neg]; exact hx, by omega⟩
theorem against_pos {n : Nat} {one other : List Int} (h : Row n one) {k : Int} (hk : k ∈ against one other) : 1 ≤ k ∧ k ≤ n := by
  obtain ⟨x, hx, _, e⟩ := against_mem.mp hk
  have := h.2 x hx
  omega

/-! ### rows that meet -/
def IsJoin (one other r : List Int) : Prop := r.Pairwise (fun x y => x.natAbs < y.natAbs) ∧ ∀ x, x ∈ r ↔ (x ∈ one ∨ x ∈ other) ∧ (x.natAbs : Int) ∉ against one other
theorem eq_of_asc : ∀ {xs ys : List Int}, xs.Pairwise (fun x y => x.natAbs < y.natAbs) → ys.Pairwise (fun x y => x.natAbs < y.natAbs) → (∀ x, x ∈ xs ↔ x ∈ ys) → xs = ys
  | [], [], _, _, _ => rfl
  | [], y :: r, _, _, h => absurd ((h y).mpr List.mem_cons_self) nofun
  | x :: r, [], _, _, h => absurd ((h x).mp List.mem_cons_self) nofun
  | x :: r, y :: t, h1, h2, h => by
    obtain ⟨a1, a2⟩ := List.pairwise_cons.mp h1
    obtain ⟨b1, b2⟩ := List.pairwise_cons.mp h2
    have e : x = y := by
      rcases List.mem_cons.mp ((h x).mp List.mem_cons_self) with e | e
      · exact e
      · rcases List.mem_cons.mp ((h y).mpr List.mem_cons_self) with e2 | e2
        · exact e2.symm
        · have := a1 y e2
          have := b1 x e
          omega
    subst e
    congr 1
    refine eq_of_asc a2 b2 fun z => ⟨fun hz => ?_, fun hz => ?_⟩
    · rcases List.mem_cons.mp ((h z).mp (List.mem_cons_of_mem _ hz)) with e | e
      · have := a1 z hz
        rw [e] at this
        omega
      · exact e
    · rcases List.mem_cons.mp ((h z).mpr (List.mem_cons_of_mem _ hz)) with e | e
      · have := b1 z hz
        rw [e] at this
        omega
      · exact e
theorem IsJoin.eq {one other r t : List Int} (h1 : IsJoin one other r) (h2 : IsJoin one other t) : r = t :=
  eq_of_asc h1.1 h2.1 fun x => (h1.2 x).trans (h2.2 x).symm
theorem IsJoin.comm {n m : Nat} {one other r : List Int} (a : Row n one) (b : Row m other) (h : IsJoin other one r) : IsJoin one other r :=
  ⟨h.1, fun x => by rw [h.2 x, against_comm a b, or_comm]⟩
theorem IsJoin.row {n : Nat} {one other r : List Int} (a : Row n one) (b : Row n other) (h : IsJoin one other r) : Row n r :=
  ⟨h.1, fun x hx => ((h.2 x).mp hx).1.elim (a.2 x) (b.2 x)⟩
/-- literals of one letter in both are the same, where they do not clash in it -/
theorem same_of {n : Nat} {one other : List Int} (a : Row n one) (b : Row n other) {x y : Int} (hx : x ∈ one ∨ x ∈ other) (hy : y ∈ one ∨ y ∈ other) (e : x.natAbs = y.natAbs)
    (hn : (x.natAbs : Int) ∉ against one other) : x = y := by
  have key : ∀ {xs : List Int}, Row n xs → x ∈ xs → y ∈ xs → x = y := fun {xs} h h1 h2 => by
    obtain ⟨i, hi, e1⟩ := List.mem_iff_getElem.mp h1
    obtain ⟨j, hj, e2⟩ := List.mem_iff_getElem.mp h2
    have hp := List.pairwise_iff_getElem.mp h.1
    rcases Nat.lt_trichotomy i j with q | q | q
    · have := hp i j hi hj q
      rw [e1, e2] at this
      omega
    · subst q
      rw [← e1, ← e2]
    · have := hp j i hj hi q
      rw [e1, e2] at this
      omega
  have opp : x = y ∨ y = -x := by omega
  rcases opp with q | q
  · exact q
  · subst q
    rcases hx with hx | hx <;> rcases hy with hy | hy
    · exact key a hx hy
    · exact absurd (against_mem.mpr ⟨x, hx, hy, rfl⟩) hn
    · exact absurd (against_mem.mpr ⟨-x, hy, by rw [Int.neg_neg]; exact hx, by omega⟩) hn
    · exact key b hx hy
end Ea
set_option Elab.async false
set_option linter.all false
set_option maxRecDepth 100000
set_option maxHeartbeats 4000000
/-! Comprehensions over ints where nothing is changed; greatest, texts' places. -/
namespace Ea
open PySem PySem.Spec PyProof.Rows L2
section
variable {K : PySem.W.Frag} {σ : L2.St} {H : Hp} {Q : VK} {tt : TT} {te : TE} {vs : List Nat} {j : Nat} {σx : V → L2.St} {a : Addr} {ns : List Int} {f : Int → Bool} {g : Int → V}
/-- a turn: f tells whether x gives, g what -/
abbrev TurnF (H : Hp) (tt : TT) (te : TE) (σx : V → L2.St) (f : Int → Bool) (g : Int → V) (x : Int) : Prop :=
  ∀ (H' : Hp) (N : VK) (S : Hp → Prop), Evl.Ex H H' → (f x = true → ∀ H3, Evl.Ex H' H3 → N (g x) H3) → (f x = false → ∀ H3, Evl.Ex H' H3 → S H3) →
    tt (σx (.int x)) H' fun b H2 => if b = true then te (σx (.int x)) H2 N else S H2
def Cf (H : Hp) (ns : List Int) (f : Int → Bool) (g : Int → V) (D : Addr) (i : Nat) (H' : Hp) : Prop :=
  H D = none ∧ Evl.Ex H H' ∧ H' D = some (.lst (((ns.take i).filter f).map g))
theorem cf_turn {D : Addr} {i : Nat} {x : Int} {H' : Hp} (hi : ns[i]? = some x) (hz : ns.length ≤ 40000) (ht : TurnF H tt te σx f g x) (p : Cf H ns f g D i H') :
    tt (σx (.int x)) H' fun b H3 => if b = true then te (σx (.int x)) H3 fun y H4 => ∃ acc, H4 D = some (.lst acc) ∧ acc.length < sizeLine ∧ Cf H ns f g D (i + 1) (upd H4 D (.lst (acc ++ [y]))) else Cf H ns f g D (i + 1) H3 := by
  obtain ⟨e, ex, ea⟩ := p
  have hl : ((((ns.take i).filter f).map g)).length < 100000 := by
    rw [List.length_map]
    have h1 := List.length_filter_le f (ns.take i)
    have h2 := List.length_take_le i ns
    have h3 := List.length_take (i := i) (l := ns)
    omega
  refine ht H' _ _ ex (fun hf H3 e3 => ?_) fun hf H3 e3 => ?_
  · refine ⟨_, e3 D _ ea, Evl.sz_lt hl, e, Evl.Ex.mut (ex.trans e3) e, ?_⟩
    rw [upd_same, List.take_add_one, hi, List.filter_append, List.map_append]
    have : ((some x).toList.filter f) = [x] := by simp [hf]
    rw [this] <;> rfl
  · refine ⟨e, ex.trans e3, ?_⟩
    rw [List.take_add_one, hi, List.filter_append]
    have : ((some x).toList.filter f) = [] := by simp [hf]
    rw [this, List.append_nil]
    exact e3 D _ ea
theorem lc_fmT (f : Int → Bool) (g : Int → V) (hx : SqT K H a (ns.map V.int)) (hz : ns.length ≤ 40000) (hσ : ∀ x, (wipe σ vs).set j (some x) = σx x) (hw : ∀ x, wipe (σx x) vs = wipe σ vs)
    (hs : ∀ x ∈ ns, TurnF H tt te σx f g x)
    (hd : ∀ D H', Evl.Ex H H' → H D = none → H' D = some (.lst ((ns.filter f).map g)) → Q (.ref D) H') : LcR (gName j) tt te vs σ Q (Itt K a) H := fun D hn =>
  lc_tup (xs := ns.map V.int) (Cf H ns f g D) ⟨hn, Evl.Ex.new hn, upd_same⟩ (fun i H' _ ⟨_, ex, _⟩ => Evl.ex_t ex hx) (fun i x H' hi p => by
    rw [List.getElem?_map] at hi
    obtain ⟨y, hy, rfl⟩ := Option.map_eq_some_iff.mp hi
    rw [show gName j (.int y) (wipe σ vs) H' = fun N => N (σx (.int y)) H' from funext fun N => by rw [← hσ (.int y)] <;> rfl]
    exact ⟨hw _, cf_turn hy hz (hs y (List.mem_of_getElem? hy)) p⟩) fun H' p => by
    obtain ⟨e, ex, ea⟩ := p
    rw [List.length_map, List.take_of_length_le (Nat.le_refl _)] at ea
    exact hd D H' ex e ea
theorem lc_fmL (f : Int → Bool) (g : Int → V) (hx : SqL K H a (ns.map V.int)) (hz : ns.length ≤ 40000) (hσ : ∀ x, (wipe σ vs).set j (some x) = σx x) (hw : ∀ x, wipe (σx x) vs = wipe σ vs)
    (hs : ∀ x ∈ ns, TurnF H tt te σx f g x)
    (hd : ∀ D H', Evl.Ex H H' → H D = none → H' D = some (.lst ((ns.filter f).map g)) → Q (.ref D) H') : LcR (gName j) tt te vs σ Q (Itl K a) H := fun D hn =>
  lc_list (xs := ns.map V.int) (Cf H ns f g D) ⟨hn, Evl.Ex.new hn, upd_same⟩ (fun i H' _ ⟨_, ex, _⟩ => Evl.ex_l ex hx) (fun i x H' hi p => by
    rw [List.getElem?_map] at hi
    obtain ⟨y, hy, rfl⟩ := Option.map_eq_some_iff.mp hi
    rw [show gName j (.int y) (wipe σ vs) H' = fun N => N (σx (.int y)) H' from funext fun N => by rw [← hσ (.int y)] <;> rfl]
    exact ⟨hw _, cf_turn hy hz (hs y (List.mem_of_getElem? hy)) p⟩) fun H' p => by
    obtain ⟨e, ex, ea⟩ := p
    rw [List.length_map, List.take_of_length_le (Nat.le_refl _)] at ea
    exact hd D H' ex e ea
theorem rd_maxL {m : List Int} (s : SqL K H a (m.map V.int)) (h0 : 0 < m.length) (h : ∀ x, x ∈ m → (∀ y, y ∈ m → y ≤ x) → Q (.int x) H) : rMax K [.ref a] H Q := ⟨a, m, rfl, s, h0, h⟩
end
theorem rd_iteC {p : Prop} {_ : Decidable p} {σ : L2.St} {H : Hp} {Q : VK} {u v x : V} (e1 : p → u = x) (e2 : ¬ p → v = x) (h : Q x H) : if decide p = true then tC u σ H Q else tC v σ H Q := by
  by_cases c : p
  · rw [if_pos (decide_eq_true c), e1 c]
    exact h
  · rw [if_neg (by rw [decide_eq_true_eq]; exact c), e2 c]
    exact h
theorem bor_l {a b : Bool} (h : a = true) : (a || b) = true := by rw [h, Bool.true_or]
theorem bor_r {a b : Bool} (h : b = true) : (a || b) = true := by rw [h, Bool.or_true]
theorem bor_f {a b : Bool} (h : a = false) (h2 : b = false) : (a || b) = false := by rw [h, h2, Bool.or_false]
/-- the sign of a literal's letter -/
def sgn (z : Str) (x : Int) : Nat := z.cps.toList.getD (x.natAbs - 1) 0
def heldBy (z h : Str) (x : Int) : Bool := decide (V.str ⟨#[sgn z x]⟩ = V.str h)
theorem at_sgn {n : Nat} {z : Str} {x : Int} (h : OwnS n z) (h1 : 1 ≤ x.natAbs) (h2 : x.natAbs ≤ n) : atI z.cps.toList ((x.natAbs : Int) - 1) = some (sgn z x) := by
  have e : (x.natAbs : Int) - 1 = ((x.natAbs - 1 : Nat) : Int) := by omega
  have hl : x.natAbs - 1 < z.cps.toList.length := by
    have : z.cps.toList.length = n := h.1
    omega
  rw [e]
  refine atI_nat ?_
  unfold sgn
  rw [List.getElem?_eq_getElem hl, List.getD_eq_getElem?_getD, List.getElem?_eq_getElem hl]
  rfl
end Ea
set_option Elab.async false
set_option linter.all false
set_option maxRecDepth 100000
set_option maxHeartbeats 4000000
/-! Loops over tuples; dicts of literals by their letters. -/
namespace Ea
open PySem PySem.Spec PyProof.Rows L2

/-! ### a for, by its iterator -/
def ForR (g : TG) (tb : TS) (D : Ends) (σ : L2.St) (J : It) (H1 : Hp) : Prop :=
  ∃ W : Nat → Nat → L2.St → Hp → Prop, (∃ m, W 0 m σ H1) ∧ ∀ i m σ H, W i m σ H →
    (J.stop i H ∧ D.nx σ H) ∨
    (J.go i H ∧ ∃ N : L2.St → Hp → Prop, (∀ σ' H', N σ' H' → ∃ m', m' < m ∧ W (i + 1) m' σ' H') ∧
      ∀ x H', J.yld i H x H' → g x σ H' fun σ2 H2 => tb { D with nx := N, ct := N, bk := D.nx } σ2 H2)
section
variable {K : PySem.W.Frag} {σ : L2.St} {H : Hp} {g : TG} {tb : TS} {D : Ends} {wi : TI} {a : Addr} {xs : List V} {j : Nat}
theorem rd_for (h : wi σ H (ForR g tb D σ)) : tFor wi g tb D σ H := h
theorem fr_tup (Pv : Nat → L2.St → Hp → Prop) (h0 : Pv 0 σ H) (hl : ∀ i σ H, i ≤ xs.length → Pv i σ H → SqT K H a xs)
    (hs : ∀ i x σ H, xs[i]? = some x → Pv i σ H → tb { D with nx := Pv (i + 1), ct := Pv (i + 1), bk := D.nx } (σ.set j (some x)) H) (hd : ∀ σ H, Pv xs.length σ H → D.nx σ H) :
    ForR (gName j) tb D σ (Itt K a) H := for_tup Pv h0 hl (fun i x σ H hi p => hs i x σ H hi p) hd
theorem fr_list (Pv : Nat → L2.St → Hp → Prop) (h0 : Pv 0 σ H) (hl : ∀ i σ H, i ≤ xs.length → Pv i σ H → SqL K H a xs)
    (hs : ∀ i x σ H, xs[i]? = some x → Pv i σ H → tb { D with nx := Pv (i + 1), ct := Pv (i + 1), bk := D.nx } (σ.set j (some x)) H) (hd : ∀ σ H, Pv xs.length σ H → D.nx σ H) :
    ForR (gName j) tb D σ (Itl K a) H := for_list Pv h0 hl (fun i x σ H hi p => hs i x σ H hi p) hd
theorem fr_range {lo : Int} {n : Nat} (Pv : Nat → L2.St → Hp → Prop) (h0 : Pv 0 σ H)
    (hs : ∀ i σ H, i < n → Pv i σ H → tb { D with nx := Pv (i + 1), ct := Pv (i + 1), bk := D.nx } (σ.set j (some (.int (lo + i)))) H) (hd : ∀ σ H, Pv n σ H → D.nx σ H) :
    ForR (gName j) tb D σ (Itr lo n) H := for_range Pv h0 (fun i σ H hi p => hs i σ H hi p) hd
end

theorem rd_dnew {σ : L2.St} {H : Hp} {Q : VK} (h : ∀ p, H p = none → Q (.ref p) (upd H p (.dK []))) : tDNewK σ H Q := h
theorem rd_gtup2 {K : PySem.W.Frag} {σ σ' : L2.St} {H : Hp} {p : Addr} {x y : V} {n i j : Nat} {N : L2.St → Hp → Prop} (s : SqT K H p [x, y]) (hn : n = 2) (hs : (σ.set i (some x)).set j (some y) = σ') (h : N σ' H) :
    gTup K n (gCons (gName i) (gCons (gName j) gNil)) (.ref p) σ H N := ⟨p, [x, y], rfl, s, hn.symm, x, [y], rfl, y, [], rfl, rfl, by subst hs; exact h⟩
/-! ### sorted of a dict by its keys -/
def rSortD : List V → Hp → VK → Prop := fun xs H Q => ∃ (a : Addr) (kvs : List (Key × V)) (ks : List Int), xs = [.ref a] ∧ Rd H a (.dK kvs) ∧ kvs.map (·.1) = ks.map Sum.inl ∧ ks.length < 64 ∧
  ∀ (ys : List Int) (p : Addr), ys.Perm ks → ys.Pairwise (· ≤ ·) → H p = none → Q (.ref p) (upd H p (.lst (ys.map V.int)))
theorem c_sortedD {X : Cx} (h : X.calm = true) : CallR X (.builtin "sorted") rSortD := call_sortedDI h
theorem rd_sortD {H : Hp} {Q : VK} {a : Addr} {kvs : List (Key × V)} {ks : List Int} (h : H a = some (.dK kvs)) (e : kvs.map (·.1) = ks.map Sum.inl) (hl : ks.length < 64)
    (q : ∀ (ys : List Int) (p : Addr), ys.Perm ks → ys.Pairwise (· ≤ ·) → H p = none → Q (.ref p) (upd H p (.lst (ys.map V.int)))) : rSortD [.ref a] H Q := ⟨a, kvs, ks, rfl, .inl h, e, hl, q⟩

/-! ### a dict of literals by letters -/
abbrev lk (x : Int) : Key := Sum.inl (x.natAbs : Int)
structure Dic (ws : List Int) (kvs : List (Key × V)) : Prop where
  ks : ∃ ks : List Int, kvs.map (·.1) = ks.map Sum.inl ∧ ks.Nodup ∧ ∀ k, k ∈ ks ↔ ∃ x ∈ ws, (x.natAbs : Int) = k
  val : ∀ k : Int, (∃ x ∈ ws, (x.natAbs : Int) = k) → ∃ x ∈ ws, (x.natAbs : Int) = k ∧ valV kvs (.inl k) = some (.int x)
  len : kvs.length ≤ ws.length
theorem Dic.nil : Dic [] [] := by
  refine ⟨⟨[], rfl, List.nodup_nil, fun k => ⟨fun h => (nomatch h), ?_⟩⟩, ?_, Nat.le_refl _⟩
  · rintro ⟨x, h, _⟩
    cases h
  · rintro k ⟨x, h, _⟩
    cases h
theorem keys_put {kvs : List (Key × V)} {k : Key} {v : V} : (putK kvs k v).map (·.1) = if (kvs.any fun kv => decide (kv.1 = k)) = true then kvs.map (·.1) else kvs.map (·.1) ++ [k] := by
  unfold putK
  split
  · rw [List.map_map]
    refine List.map_congr_left fun p _ => ?_
    show (if p.1 = k then (p.1, v) else p).1 = p.1
    split <;> rfl
  · rw [List.map_append]
    rfl
theorem any_key {kvs : List (Key × V)} {k : Key} : (kvs.any fun kv => decide (kv.1 = k)) = true ↔ k ∈ kvs.map (·.1) := by
  rw [List.any_eq_true, List.mem_map]
  constructor
  · rintro ⟨p, hp, e⟩
    exact ⟨p, hp, of_decide_eq_true e⟩
  · rintro ⟨p, hp, e⟩
    exact ⟨p, hp, decide_eq_true e⟩
theorem Dic.put {ws : List Int} {kvs : List (Key × V)} (h : Dic ws kvs) (x : Int) : Dic (ws ++ [x]) (putK kvs (lk x) (.int x)) := by
  obtain ⟨⟨ks, e, nd, hm⟩, hv, hl⟩ := h
  refine ⟨?_, fun k hk => ?_, ?_⟩
  · rw [keys_put]
    by_cases c : (kvs.any fun kv => decide (kv.1 = lk x)) = true
    · rw [if_pos c]
      have hx : (x.natAbs : Int) ∈ ks := by
        have z := any_key.mp c
        rw [e] at z
        obtain ⟨k, hk, e2⟩ := List.mem_map.mp z
        cases e2
        exact hk
      refine ⟨ks, e, nd, fun k => ⟨fun hk => ?_, fun ⟨y, hy, e2⟩ => ?_⟩⟩
      · obtain ⟨y, hy, e2⟩ := (hm k).mp hk
        exact ⟨y, List.mem_append_left _ hy, e2⟩
      · rcases List.mem_append.mp hy with hy | hy
        · exact (hm k).mpr ⟨y, hy, e2⟩
        · rw [List.mem_singleton.mp hy] at e2
          rw [← e2]
          exact hx
    · rw [if_neg c]
      have hx : (x.natAbs : Int) ∉ ks := fun hx => c (any_key.mpr (by rw [e]; exact List.mem_map_of_mem hx))
      refine ⟨ks ++ [(x.natAbs : Int)], by rw [e, List.map_append] <;> rfl, ?_, fun k => ⟨fun hk => ?_, fun ⟨y, hy, e2⟩ => ?_⟩⟩
      · rw [List.nodup_append]
        exact ⟨nd, by simp, fun a ha b hb => by rw [List.mem_singleton.mp hb]; exact fun q => hx (q ▸ ha)⟩
      · rcases List.mem_append.mp hk with hk | hk
        · obtain ⟨y, hy, e2⟩ := (hm k).mp hk
          exact ⟨y, List.mem_append_left _ hy, e2⟩
        · exact ⟨x, List.mem_append_right _ List.mem_cons_self, (List.mem_singleton.mp hk).symm⟩
      · rcases List.mem_append.mp hy with hy | hy
        · exact List.mem_append_left _ ((hm k).mpr ⟨y, hy, e2⟩)
        · rw [List.mem_singleton.mp hy] at e2
          exact List.mem_append_right _ (by rw [← e2]; exact List.mem_cons_self)
  · rw [valV_put]
    by_cases c : (Sum.inl k : Key) = lk x
    · rw [if_pos c]
      have c2 : k = (x.natAbs : Int) := Sum.inl.inj c
      exact ⟨x, List.mem_append_right _ List.mem_cons_self, c2.symm, rfl⟩
    · rw [if_neg c]
      obtain ⟨y, hy, e2⟩ := hk
      have hy' : y ∈ ws := by
        rcases List.mem_append.mp hy with hy | hy
        · exact hy
        · rw [List.mem_singleton.mp hy] at e2
          exact absurd (congrArg Sum.inl e2.symm) c
      obtain ⟨z, hz, e3, e4⟩ := hv k ⟨y, hy', e2⟩
      exact ⟨z, List.mem_append_left _ hz, e3, e4⟩
  · have h1 := congrArg List.length (keys_put (kvs := kvs) (k := lk x) (v := .int x))
    rw [List.length_map] at h1
    rw [h1, List.length_append, List.length_singleton]
    split
    · rw [List.length_map]
      omega
    · rw [List.length_append, List.length_map, List.length_singleton]
      omega
/-- the literal that a dict has for a letter -/
def litOf (kvs : List (Key × V)) (k : Int) : Int := match valV kvs (.inl k) with
  | some (.int x) => x
  | _ => 0
theorem Dic.lit {ws : List Int} {kvs : List (Key × V)} (h : Dic ws kvs) {k : Int} (hk : ∃ x ∈ ws, (x.natAbs : Int) = k) :
    valV kvs (.inl k) = some (.int (litOf kvs k)) ∧ litOf kvs k ∈ ws ∧ ((litOf kvs k).natAbs : Int) = k := by
  obtain ⟨x, hx, e, hv⟩ := h.val k hk
  have : litOf kvs k = x := by
    unfold litOf
    rw [hv]
  rw [this]
  exact ⟨hv, hx, e⟩
theorem Dic.join {n : Nat} {one other : List Int} {kvs : List (Key × V)} (h : Dic (one ++ other) kvs) (a : Row n one) (b : Row n other) {ys : List Int} (so : ys.Pairwise (· < ·))
    (hy : ∀ k, k ∈ ys ↔ (∃ x ∈ one ++ other, (x.natAbs : Int) = k) ∧ k ∉ against one other) : IsJoin one other (ys.map (litOf kvs)) := by
  have hl : ∀ k ∈ ys, litOf kvs k ∈ one ++ other ∧ ((litOf kvs k).natAbs : Int) = k := fun k hk => (h.lit ((hy k).mp hk).1).2
  refine ⟨?_, fun x => ⟨fun hx => ?_, fun ⟨hx, hn⟩ => ?_⟩⟩
  · rw [List.pairwise_map]
    refine List.Pairwise.imp_of_mem (fun {p q} hp hq hlt => ?_) so
    have h1 := (hl p hp).2
    have h2 := (hl q hq).2
    omega
  · obtain ⟨k, hk, rfl⟩ := List.mem_map.mp hx
    obtain ⟨h1, h2⟩ := hl k hk
    exact ⟨List.mem_append.mp h1, by rw [h2]; exact ((hy k).mp hk).2⟩
  · have hk : (x.natAbs : Int) ∈ ys := (hy _).mpr ⟨⟨x, List.mem_append.mpr hx, rfl⟩, hn⟩
    obtain ⟨h1, h2⟩ := hl _ hk
    refine List.mem_map.mpr ⟨_, hk, ?_⟩
    exact (same_of a b hx (List.mem_append.mp h1) (by omega) hn).symm
theorem valV_drop {kvs : List (Key × V)} {k j : Key} (h : j ≠ k) : valV (dropK kvs k) j = valV kvs j := by
  induction kvs with
  | nil => rfl
  | cons p r ih =>
    by_cases e : p.1 = k
    · rw [dropK_pos e, ih, valV_neg (fun z => h (z.symm.trans e))]
    · rw [dropK_neg e]
      by_cases e2 : p.1 = j
      · rw [valV_pos e2, valV_pos e2]
      · rw [valV_neg e2, valV_neg e2, ih]
theorem keys_drop {kvs : List (Key × V)} {ks : List Int} {c : Int} (h : kvs.map (·.1) = ks.map Sum.inl) : (dropK kvs (.inl c)).map (·.1) = (ks.filter fun k => decide (k ≠ c)).map Sum.inl := by
  induction kvs generalizing ks with
  | nil =>
    cases ks with
    | nil => rfl
    | cons k r => cases h
  | cons p r ih =>
    cases ks with
    | nil => cases h
    | cons k t =>
      have h1 : p.1 = Sum.inl k := (List.cons.inj h).1
      have h2 := ih (List.cons.inj h).2
      by_cases e : k = c
      · subst e
        rw [dropK_pos h1, h2]
        simp
      · have e1 : ¬ p.1 = Sum.inl c := fun z => e (Sum.inl.inj (h1.symm.trans z))
        rw [dropK_neg e1, List.map_cons, h2, h1]
        simp [e]
theorem dK_not {kvs : List (Key × V)} : ∀ zs : List V, HO.dK kvs ≠ .tup zs ∧ ∀ f, HO.dK kvs ≠ .frz f (.tup zs) := fun zs => ⟨fun h => (by cases h), fun f h => (by cases h)⟩
theorem lst_not {ys : List V} : ∀ zs : List V, HO.lst ys ≠ .tup zs ∧ ∀ f, HO.lst ys ≠ .frz f (.tup zs) := fun zs => ⟨fun h => (by cases h), fun f h => (by cases h)⟩
theorem tup_upd {K : PySem.W.Frag} {H : Hp} {p a : Addr} {o u : HO} {xs : List V} (h : H p = some o) (hn : ∀ zs, o ≠ .tup zs ∧ ∀ f, o ≠ .frz f (.tup zs)) (s : SqT K H a xs) : SqT K (upd H p u) a xs := by
  rcases s with (s | ⟨f, s⟩) | s
  · refine .inl (.inl ?_)
    rw [upd_ne (ne_of s h fun e => (hn xs).1 e.symm)]
    exact s
  · refine .inl (.inr ⟨f, ?_⟩)
    rw [upd_ne (ne_of s h fun e => (hn xs).2 f e.symm)]
    exact s
  · exact .inr s
theorem nodup_le : ∀ {n : Nat} {ks : List Int}, ks.Nodup → (∀ k ∈ ks, 1 ≤ k ∧ k ≤ (n : Int)) → ks.length ≤ n
  | 0, ks, _, hm => by
    cases ks with
    | nil => exact Nat.le_refl _
    | cons k r =>
      have := hm k List.mem_cons_self
      omega
  | n + 1, ks, h, hm => by
    have h1 : (ks.erase ((n + 1 : Nat) : Int)).length ≤ n := nodup_le (h.erase _) fun k hk => by
      obtain ⟨a, b⟩ := (List.Nodup.mem_erase_iff h).mp hk
      have := hm k b
      omega
    have h2 := List.length_erase (a := ((n + 1 : Nat) : Int)) (l := ks)
    split at h2 <;> omega
section
variable {X : Cx} {st : List Stmt} {t : TS} {p : Prop}
theorem pss_guard (h : p → PSs X st t) : PSs X st (fun D σ H => p ∧ t D σ H) := ⟨fun pins s σ H D I hq => (h hq.1).run pins s σ H D I hq.2⟩
end
end Ea
set_option Elab.async false
set_option linter.all false
set_option maxRecDepth 100000
set_option maxHeartbeats 400000
/-! Dict comprehensions of literals; own errors' facts; data that stays. -/
namespace Ea
open PySem PySem.Spec PyProof.Rows L2

def DcR (g : TG) (tt : TT) (tk tv : TE) (vs : List Nat) (σ : L2.St) (Q : VK) (J : It) (H1 : Hp) : Prop :=
  ∀ D, H1 D = none → ∃ W : Nat → Nat → Hp → Prop, (∃ m, W 0 m (upd H1 D (.dK []))) ∧ ∀ i m H, W i m H →
    (J.stop i H ∧ Q (.ref D) H) ∨
    (J.go i H ∧ ∃ Nx : Hp → Prop, (∀ H', Nx H' → ∃ m', m' < m ∧ W (i + 1) m' H') ∧
      ∀ x H', J.yld i H x H' → g x (wipe σ vs) H' fun σ2 H2 => wipe σ2 vs = wipe σ vs ∧ tt σ2 H2 fun b H3 =>
        if b = true then tk σ2 H3 fun y H4 => tv σ2 H4 fun z H5 => ∃ kvs k, y = kV k ∧ H5 D = some (.dK kvs) ∧ kvs.length < sizeLine ∧ Nx (upd H5 D (.dK (putK kvs k z))) else Nx H3)
section
variable {K : PySem.W.Frag} {σ : L2.St} {H : Hp} {Q : VK} {g : TG} {tt : TT} {tk tv : TE} {vs : List Nat} {wi : TI} {j : Nat} {σx : V → L2.St} {a : Addr} {ws : List Int}
theorem rd_dc (h : wi σ H (DcR g tt tk tv vs σ Q)) : tDc wi g tt tk tv vs σ H Q := h
theorem dc_dicT (hx : SqT K H a (ws.map V.int)) (hz : ws.length ≤ 1000) (hσ : ∀ x, (wipe σ vs).set j (some x) = σx x) (hw : ∀ x, wipe (σx x) vs = wipe σ vs)
    (hk : ∀ (x : Int) (H' : Hp) (R : VK), R (.int (x.natAbs : Int)) H' → tk (σx (.int x)) H' R) (hv : ∀ (x : Int) (H' : Hp) (R : VK), R (.int x) H' → tv (σx (.int x)) H' R)
    (hd : ∀ D kvs H', Evl.Ex H H' → H D = none → H' D = some (.dK kvs) → Dic ws kvs → Q (.ref D) H') : DcR (gName j) tYes tk tv vs σ Q (Itt K a) H := fun D hn =>
  dc_tup (xs := ws.map V.int) (fun i H' => Evl.Ex H H' ∧ ∃ kvs, H' D = some (.dK kvs) ∧ Dic (ws.take i) kvs) ⟨Evl.Ex.new hn, [], upd_same, Dic.nil⟩ (fun i H' _ p => Evl.ex_t p.1 hx) (fun i x H' hi p => by
    rw [List.getElem?_map] at hi
    obtain ⟨y, hy, rfl⟩ := Option.map_eq_some_iff.mp hi
    rw [show gName j (.int y) (wipe σ vs) H' = fun N => N (σx (.int y)) H' from funext fun N => by rw [← hσ (.int y)] <;> rfl]
    refine ⟨hw _, rd_yes (rd_true (hk y H' _ (hv y H' _ ?_)))⟩
    obtain ⟨ex, kvs, e, dd⟩ := p
    have hl := dd.len
    rw [List.length_take] at hl
    refine ⟨kvs, lk y, rfl, e, by rw [sizeLine_eq]; omega, Evl.Ex.mut ex hn, _, upd_same, ?_⟩
    rw [List.take_add_one, hy]
    exact dd.put y) fun H' p => by
    obtain ⟨ex, kvs, e, dd⟩ := p
    rw [List.length_map, List.take_of_length_le (Nat.le_refl _)] at dd
    exact hd D kvs H' ex hn e dd
end
theorem rd_ddel {td ty : TE} {D : Ends} {σ : L2.St} {H : Hp} (h : td σ H fun x H1 => ty σ H1 fun y H2 => ∃ a kvs k, x = .ref a ∧ H2 a = some (.dK kvs) ∧ y = kV k ∧ (valV kvs k).isSome = true ∧ D.nx σ (upd H2 a (.dK (dropK kvs k)))) : sDDel td ty D σ H := h
theorem rd_kw {m : Nat} {sp : Sp} {gV : List V → List V} {E : L2.St → XK} {tk : TA} {σ : L2.St} {H : Hp} {Q : VK} (h : tk σ H fun zs H2 => zs.length = m ∧ sp (gV zs) H2 Q (E σ)) : tKw m sp gV E tk σ H Q := h
theorem rd_callS {sp : Sp} {E : L2.St → XK} {t : TA} {σ : L2.St} {H : Hp} {Q : VK} (h : t σ H fun vs H1 => sp vs H1 Q (E σ)) : tCallS sp E t σ H Q := h
theorem rd_ite2 {b : Bool} {te1 te2 : TE} {σ : L2.St} {H : Hp} {Q : VK} (P : V → Hp → Prop) (h1 : ∀ Q : VK, (∀ v H', P v H' → Q v H') → te1 σ H Q) (h2 : ∀ Q : VK, (∀ v H', P v H' → Q v H') → te2 σ H Q)
    (h : ∀ v H', P v H' → Q v H') : if b = true then te1 σ H Q else te2 σ H Q := by
  cases b with
  | true => exact h1 Q h
  | false => exact h2 Q h
theorem nice_row {n : Nat} {ns : List Int} (h : Row n ns) (hn : n ≤ 60) : Nice 60 1 (.tuple (dI ns)) :=
  (Nice.tup (NiceAll.ints fun x hx => by
    have := h.2 x hx
    have : (10 : Nat) ^ 12 = 1000000000000 := by decide
    omega)).mono (by have := h.length; omega) (Nat.le_refl _)
theorem rel_rev : ∀ {zs : List V} {ws : List Value}, Vals zs ws → Vals zs.reverse ws.reverse
  | _, _, .nil => .nil
  | _, _, .cons h t => by
    rw [List.reverse_cons, List.reverse_cons]
    exact (rel_rev t).append (.cons h .nil)
/-- what stands behind a body of the text -/
theorem passAt0 {X : Cx} {σ : L2.St} {E : XK} : PassesAt CX0 X σ E := fun _ _ _ _ _ _ h => h.elim
/-- what stands of an own error class behind the top -/
structure ExcF (K : PySem.W.Frag) (mg : Str → Option Value) (x : Str) (C : Addr) : Prop where
  g : mg x = some (.ref C)
  x : PySem.W.excIn K C [.type "ValueError", .type "Exception", .type "BaseException", .type "object"] "ValueError.__new__" = true
  k : PySem.W.keepIn K (.ref C) = true
  b : PySem.W.subIn K (.ref C) (.type "BaseException") = some true
  t : PySem.W.typeIn K (.ref C) = some (.type "type")
mutual
theorem dp_ex {K : PySem.W.Frag} {H H' : Hp} (e : Evl.Ex H H') : ∀ (d : PyData) (v : V), Dp K H v d → Dp K H' v d
  | .none, _, h => by cases h; exact .non
  | .bool b, _, h => by cases h; exact .bl b
  | .int i, _, h => by cases h; exact .int i
  | .str x, _, h => by cases h; exact .str x
  | .list ds, _, h => by
    cases h with
    | lst hs ha => exact .lst (Evl.ex_l e hs) (dpAll_ex e ds _ ha)
  | .tuple ds, _, h => by
    cases h with
    | tup hs ha => exact .tup (Evl.ex_t e hs) (dpAll_ex e ds _ ha)
  | .dict _, _, h => by cases h
theorem dpAll_ex {K : PySem.W.Frag} {H H' : Hp} (e : Evl.Ex H H') : ∀ (ds : List PyData) (vs : List V), DpAll K H vs ds → DpAll K H' vs ds
  | [], _, h => by cases h; exact .nil
  | d :: ds, _, h => by
    cases h with
    | cons h1 h2 => exact .cons (dp_ex e d _ h1) (dpAll_ex e ds _ h2)
end
end Ea
set_option Elab.async false
set_option linter.all false
set_option maxRecDepth 100000
set_option maxHeartbeats 400000
/-! sorted of a tuple of ints. -/
namespace Ea
open PySem PySem.Spec PyProof.Rows L2
def rSortedT (K : PySem.W.Frag) : List V → Hp → VK → Prop := fun xs H Q => ∃ (a : Addr) (ns : List Int), xs = [.ref a] ∧ SqT K H a (ns.map V.int) ∧ ns.length < 64 ∧
  ∀ (ys : List Int) (p : Addr), ys.Perm ns → ys.Pairwise (· ≤ ·) → H p = none → Q (.ref p) (upd H p (.lst (ys.map V.int)))
theorem cr_sortedT {X : Cx} {K : PySem.W.Frag} (hK : X.K = K) : CallR X (.builtin "sorted") (rSortedT K) := by
  subst hK
  intro pins s σ H xs us Q I r q
  obtain ⟨a, ns, ex, hd, h64, q⟩ := q
  subst ex
  obtain ⟨u, eu, rx⟩ := vals1 r
  subst eu
  cases rx
  obtain ⟨its, rv, ⟨o, ho, hc, n, hds⟩, hz⟩ := I.tuple hd
  have hal : its.length = ns.length := by rw [← rv.length, List.length_map]
  have hS : IntsAre its ns := rv.ints
  refine Calls.call_function_entry PyProof.Rows.kind_sorted PyProof.Rows.plain_sorted PyProof.Rows.entry_sorted (PyProof.Rows.args_sorted1 _) ?_
  unfold Builtin.«sorted»
  refine wpAny_bind (m := checkCount "sorted" 1 1 _) (wpAny_pure ?_)
  refine wpAny_bind (wpAny_collect_seq a (.inr rfl) ho hc hds (fun h' hk => ?_) (by rw [List.size_toArray, hal, sizeLine_eq]; omega))
  have I1 : Inv X pins σ H { s with heap := h' } := I.kept hk
  refine wpAny_bind (wpAny_newList ?_ (by rw [List.toList_toArray, hal, sizeLine_eq]; omega))
  have hoL : (h'.push (seqObj "list" its.toArray.toList.toArray 0)).get? h'.objs.size = some (seqObj "list" its.toArray.toList.toArray 0) := Heap.get?_push_size _ rfl
  show wpAny _ _ _ _ _ { s with heap := h'.push (seqObj "list" its.toArray.toList.toArray 0) }
  refine wpAny_bind (wpAny_holding (wpAny_call_entry PyProof.Rows.slot_list_sort ⟨_, hoL, rfl⟩ PyProof.Rows.entry_list_sort
    (PyProof.Rows.list_sort_tree (s := { s with heap := h'.push (seqObj "list" its.toArray.toList.toArray 0) }) hoL (by rw [List.toList_toArray]; exact hS) (by rw [List.toList_toArray, hal]; exact h64) fun out ys g1 g2 g3 => ⟨_, rfl, ?_⟩) (PyProof.Rows.args_list_sort _)))
  obtain ⟨e', he'⟩ := PyProof.Rows.sortedHeap_at (vs := its.toArray.toList) (out := out) hoL
  have hlen : (ys.map V.int).length ≤ sizeLine := by
    rw [List.length_map, g2.length_eq]
    exact Nat.le_trans (Nat.le_of_lt h64) (by decide)
  refine wpAny_pure ⟨_, rfl, .ref h'.objs.size, upd H h'.objs.size (.lst (ys.map V.int)), I1.laid (t' := s.toks) (fun b u e => ?_) (Nat.le_refl _)
    (show ObjOk X.prog X.w _ _ _ (.lst (ys.map V.int)) from ⟨hlen, out.toList, e', vals_of_ints g1, by rw [Array.toArray_toList]; exact he'⟩), rfl, q ys _ g2 g3 (I1.hok.fresh (Nat.le_refl _))⟩
  have hb : b < h'.objs.size := Heap.lt_size e
  rw [PyProof.Rows.sortedHeap_old (Nat.ne_of_lt hb) (by rw [size_push']; exact Nat.lt_succ_of_lt hb)]
  exact Heap.get?_push_of_some _ e
theorem rd_sortT {K : PySem.W.Frag} {H : Hp} {Q : VK} {a : Addr} {ns : List Int} (s : SqT K H a (ns.map V.int)) (hz : ns.length < 64)
    (h : ∀ (ms : List Int) (q : Addr), ms.Perm ns → ms.Pairwise (· ≤ ·) → H q = none → Q (.ref q) (upd H q (.lst (ms.map V.int)))) : rSortedT K [.ref a] H Q :=
  ⟨a, ns, rfl, s, hz, h⟩
/-- sorted of what ascends -/
theorem sorted_same {ms ns : List Int} (p : ms.Perm ns) (s : ms.Pairwise (· ≤ ·)) (h : ns.Pairwise (· < ·)) : ms = ns := by
  refine List.Perm.eq_of_pairwise (fun a b _ _ h1 h2 => by omega) s (h.imp fun {a b} q => by omega) p
theorem rd_ite2p {p : Prop} {_ : Decidable p} {te1 te2 : TE} {σ : L2.St} {H : Hp} {Q : VK} (P : V → Hp → Prop) (h1 : p → ∀ Q : VK, (∀ v H', P v H' → Q v H') → te1 σ H Q) (h2 : ¬ p → ∀ Q : VK, (∀ v H', P v H' → Q v H') → te2 σ H Q)
    (h : ∀ v H', P v H' → Q v H') : if decide p = true then te1 σ H Q else te2 σ H Q := by
  by_cases c : p
  · rw [if_pos (decide_eq_true c)]
    exact h1 c Q h
  · rw [if_neg (by rw [decide_eq_true_eq]; exact c)]
    exact h2 c Q h
theorem rd_mulL {H : Hp} {Q : VK} {l : Addr} {k : Int} {xs : List V} (h : H l = some (.lst xs)) (h1 : 0 ≤ k ∧ k < 2 ^ 63) (hz : xs.length * k.toNat ≤ sizeLine) (q : ∀ p, H p = none → Q (.ref p) (upd H p (.lst (List.replicate k.toNat xs).flatten))) : rRep (.ref l) (.int k) H Q :=
  ⟨l, k, xs, rfl, rfl, h, by omega, h1.2, hz, q⟩
theorem rd_andV {ta tb : TE} {σ : L2.St} {H : Hp} {Q : VK} (h : ta σ H fun x H1 => ∃ c, x = .bl c ∧ if c = true then tb σ H1 Q else Q (.bl false) H1) : tAndV ta tb σ H Q := h
theorem rd_orV {ta tb : TE} {σ : L2.St} {H : Hp} {Q : VK} (h : ta σ H fun x H1 => ∃ c, x = .bl c ∧ if c = true then Q (.bl true) H1 else tb σ H1 Q) : tOrV ta tb σ H Q := h
theorem rd_notV {ta : TE} {σ : L2.St} {H : Hp} {Q : VK} (h : ta σ H fun x H1 => ∃ c, x = .bl c ∧ Q (.bl (!c)) H1) : tNotV ta σ H Q := h
theorem rd_bc {b : Bool} {P : Bool → Prop} (h : P b) : ∃ c, V.bl b = V.bl c ∧ P c := ⟨b, rfl, h⟩
/-- if, its ends brought together -/
theorem rd_meet {p : Prop} {_ : Decidable p} {t1 t2 : TS} {D : Ends} {σ : L2.St} {H : Hp} (I : L2.St → Hp → Prop) (h1 : p → ∀ N : L2.St → Hp → Prop, (∀ σ' H', I σ' H' → N σ' H') → t1 { D with nx := N } σ H)
    (h2 : ¬ p → ∀ N : L2.St → Hp → Prop, (∀ σ' H', I σ' H' → N σ' H') → t2 { D with nx := N } σ H) (h : ∀ σ' H', I σ' H' → D.nx σ' H') : if decide p = true then t1 D σ H else t2 D σ H := by
  by_cases c : p
  · rw [if_pos (decide_eq_true c)]
    exact h1 c D.nx h
  · rw [if_neg (by rw [decide_eq_true_eq]; exact c)]
    exact h2 c D.nx h
end Ea
set_option Elab.async false
set_option linter.all false
set_option maxRecDepth 100000
set_option maxHeartbeats 400000
/-! A deck of draws that is a list: what draws leave as it was; comprehensions among them. -/
namespace Ea
open PySem PySem.Spec PyProof.Rows L2
/-- a deck: a list of what is left to be drawn, a number, how often it was drawn from that -/
def DeckL (d l : Addr) (H : Hp) : Prop := ∃ (ns : List Int) (m c : Int),
  H d = some (.lst [.ref l, .int m, .int c]) ∧ H l = some (.lst (ns.map V.int)) ∧ ns.length ≤ 63 ∧ (∀ n ∈ ns, 0 ≤ n) ∧ 0 ≤ m ∧ m < 4294967291
theorem deck_ne {l : Addr} {m c : Int} {ns : List Int} {d : Addr} {H : Hp} (e1 : H d = some (.lst [.ref l, .int m, .int c])) (e2 : H l = some (.lst (ns.map V.int))) : d ≠ l := by
  intro e
  rw [e, e2] at e1
  cases ns with
  | nil => cases e1
  | cons x r => cases e1
structure Gl (d l : Addr) (H H' : Hp) : Prop where
  dk : DeckL d l H'
  kp : ∀ a o, a ≠ d → a ≠ l → H a = some o → H' a = some o
section
variable {d l : Addr} {H H1 H2 : Hp}
theorem DeckL.ne (h : DeckL d l H) : d ≠ l := by
  obtain ⟨ns, m, c, e1, e2, _⟩ := h
  exact deck_ne e1 e2
theorem Gl.refl (h : DeckL d l H) : Gl d l H H := ⟨h, fun _ _ _ _ e => e⟩
theorem Gl.trans (a : Gl d l H H1) (b : Gl d l H1 H2) : Gl d l H H2 := ⟨b.dk, fun p o n1 n2 e => b.kp p o n1 n2 (a.kp p o n1 n2 e)⟩
theorem DeckL.off (h : DeckL d l H) {p : Addr} (e : H p = none) : p ≠ d ∧ p ≠ l := by
  obtain ⟨ns, m, c, e1, e2, _⟩ := h
  exact ⟨fun z => (by rw [z, e1] at e; cases e), fun z => (by rw [z, e2] at e; cases e)⟩
theorem DeckL.upd (h : DeckL d l H) {p : Addr} {o : HO} (n1 : p ≠ d) (n2 : p ≠ l) : DeckL d l (upd H p o) := by
  obtain ⟨ns, m, c, e1, e2, r⟩ := h
  exact ⟨ns, m, c, by rw [upd_ne n1.symm]; exact e1, by rw [upd_ne n2.symm]; exact e2, r⟩
theorem Gl.new (h : DeckL d l H) {p : Addr} {o : HO} (e : H p = none) : Gl d l H (upd H p o) := by
  obtain ⟨n1, n2⟩ := h.off e
  exact ⟨h.upd n1 n2, fun q u _ _ eq => by rw [upd_ne (ne_of_none eq e)]; exact eq⟩
/-- an object that H does not know may change -/
theorem Gl.mut (g : Gl d l H H1) (h : DeckL d l H) {p : Addr} {o : HO} (e : H p = none) : Gl d l H (upd H1 p o) := by
  obtain ⟨n1, n2⟩ := h.off e
  exact ⟨g.dk.upd n1 n2, fun q u m1 m2 eq => by rw [upd_ne (ne_of_none eq e)]; exact g.kp q u m1 m2 eq⟩
theorem Gl.back (g : Gl d l H H1) (h : DeckL d l H) {p : Addr} (e : H1 p = none) : H p = none := by
  obtain ⟨n1, n2⟩ := g.dk.off e
  cases q : H p with
  | none => rfl
  | some o =>
    rw [g.kp p o n1 n2 q] at e
    cases e
/-- a tuple stays -/
theorem Gl.tup {K : PySem.W.Frag} (g : Gl d l H H1) (h : DeckL d l H) {a : Addr} {xs : List V} (t : SqT K H a xs) : SqT K H1 a xs := by
  obtain ⟨ns, m, c, e1, e2, _⟩ := h
  have hn : ∀ {o : HO}, H a = some o → (∀ kv, o ≠ .dK kv) → (∀ ys, o ≠ .lst ys) → H1 a = some o := fun e c1 c2 =>
    g.kp a _ (fun z => (by rw [z, e1] at e; cases e; exact c2 _ rfl)) (fun z => (by rw [z, e2] at e; cases e; exact c2 _ rfl)) e
  rcases t with (t | ⟨o, t⟩) | t
  · exact .inl (.inl (hn t nofun nofun))
  · exact .inl (.inr ⟨o, hn t nofun nofun⟩)
  · exact .inr t
end
section
variable {d l : Addr} {K : PySem.W.Frag} {σ : L2.St} {H : Hp} {Q : VK} {tt : TT} {te : TE} {vs : List Nat} {j : Nat} {σx : V → L2.St} {a : Addr} {xs : List V}
/-- a turn of a comprehension among draws -/
abbrev TurnL (d l : Addr) (H : Hp) (tt : TT) (te : TE) (σx : V → L2.St) (Pv : Nat → List V → Prop) (i : Nat) (x : V) : Prop :=
  ∀ (acc : List V) (H' : Hp) (N : VK) (S : Hp → Prop), Gl d l H H' → Pv i acc →
    (∀ y H3, Gl d l H' H3 → Pv (i + 1) (acc ++ [y]) → N y H3) → (∀ H3, Gl d l H' H3 → Pv (i + 1) acc → S H3) →
    tt (σx x) H' fun b H2 => if b = true then te (σx x) H2 N else S H2
def Cl (d l : Addr) (H : Hp) (Pv : Nat → List V → Prop) (D : Addr) (i : Nat) (H' : Hp) : Prop :=
  ∃ acc, H D = none ∧ Gl d l H H' ∧ H' D = some (.lst acc) ∧ acc.length ≤ i ∧ Pv i acc
theorem cl_start {Pv : Nat → List V → Prop} (hD : DeckL d l H) (h0 : Pv 0 []) {D : Addr} (e : H D = none) : Cl d l H Pv D 0 (upd H D (.lst [])) :=
  ⟨[], e, Gl.new hD e, upd_same, Nat.le_refl _, h0⟩
theorem cl_turn {Pv : Nat → List V → Prop} {D : Addr} {i : Nat} {x : V} {H' : Hp} (hD : DeckL d l H) (hi : i < 100000) (ht : TurnL d l H tt te σx Pv i x) (p : Cl d l H Pv D i H') :
    tt (σx x) H' fun b H3 => if b = true then te (σx x) H3 fun y H4 => ∃ acc, H4 D = some (.lst acc) ∧ acc.length < sizeLine ∧ Cl d l H Pv D (i + 1) (upd H4 D (.lst (acc ++ [y]))) else Cl d l H Pv D (i + 1) H3 := by
  obtain ⟨acc, e, g, ea, hl, hp⟩ := p
  obtain ⟨n1, n2⟩ := hD.off e
  refine ht acc H' _ _ g hp (fun y H3 g3 hp3 => ?_) fun H3 g3 hp3 => ?_
  · refine ⟨acc, g3.kp D _ n1 n2 ea, Evl.sz_lt (by omega), acc ++ [y], e, Gl.mut (g.trans g3) hD e, upd_same, ?_, hp3⟩
    rw [List.length_append, List.length_singleton]
    omega
  · exact ⟨acc, e, g.trans g3, g3.kp D _ n1 n2 ea, by omega, hp3⟩
theorem lc_glT (Pv : Nat → List V → Prop) (hD : DeckL d l H) (hx : SqT K H a xs) (hz : xs.length ≤ 40000) (hσ : ∀ x, (wipe σ vs).set j (some x) = σx x) (hw : ∀ x, wipe (σx x) vs = wipe σ vs)
    (h0 : Pv 0 []) (hs : ∀ i x, xs[i]? = some x → TurnL d l H tt te σx Pv i x)
    (hd : ∀ D acc H', Gl d l H H' → H D = none → H' D = some (.lst acc) → Pv xs.length acc → Q (.ref D) H') : LcR (gName j) tt te vs σ Q (Itt K a) H := fun D hn =>
  lc_tup (xs := xs) (Cl d l H Pv D) (cl_start hD h0 hn) (fun i H' _ ⟨_, _, g, _⟩ => g.tup hD hx) (fun i x H' hi p => by
    rw [show gName j x (wipe σ vs) H' = fun N => N (σx x) H' from funext fun N => by rw [← hσ x] <;> rfl]
    refine ⟨hw x, ?_⟩
    have := (List.getElem?_eq_some_iff.mp hi).1
    exact cl_turn hD (by omega) (hs i x hi) p) fun H' p => by
    obtain ⟨acc, e, g, ea, _, hp⟩ := p
    exact hd D acc H' g e ea hp
theorem lc_glL (Pv : Nat → List V → Prop) (hD : DeckL d l H) (hx : ∀ H', Gl d l H H' → SqL K H' a xs) (hz : xs.length ≤ 40000) (hσ : ∀ x, (wipe σ vs).set j (some x) = σx x) (hw : ∀ x, wipe (σx x) vs = wipe σ vs)
    (h0 : Pv 0 []) (hs : ∀ i x, xs[i]? = some x → TurnL d l H tt te σx Pv i x)
    (hd : ∀ D acc H', Gl d l H H' → H D = none → H' D = some (.lst acc) → Pv xs.length acc → Q (.ref D) H') : LcR (gName j) tt te vs σ Q (Itl K a) H := fun D hn =>
  lc_list (xs := xs) (Cl d l H Pv D) (cl_start hD h0 hn) (fun i H' _ ⟨_, _, g, _⟩ => hx H' g) (fun i x H' hi p => by
    rw [show gName j x (wipe σ vs) H' = fun N => N (σx x) H' from funext fun N => by rw [← hσ x] <;> rfl]
    refine ⟨hw x, ?_⟩
    have := (List.getElem?_eq_some_iff.mp hi).1
    exact cl_turn hD (by omega) (hs i x hi) p) fun H' p => by
    obtain ⟨acc, e, g, ea, _, hp⟩ := p
    exact hd D acc H' g e ea hp
theorem lc_glR {lo : Int} {n : Nat} (Pv : Nat → List V → Prop) (hD : DeckL d l H) (hz : n ≤ 40000) (hσ : ∀ x, (wipe σ vs).set j (some x) = σx x) (hw : ∀ x, wipe (σx x) vs = wipe σ vs)
    (h0 : Pv 0 []) (hs : ∀ i, i < n → TurnL d l H tt te σx Pv i (.int (lo + i)))
    (hd : ∀ D acc H', Gl d l H H' → H D = none → H' D = some (.lst acc) → Pv n acc → Q (.ref D) H') : LcR (gName j) tt te vs σ Q (Itr lo n) H := fun D hn =>
  lc_range (Cl d l H Pv D) (cl_start hD h0 hn) (fun i H' hi p => by
    rw [show gName j (.int (lo + i)) (wipe σ vs) H' = fun N => N (σx (.int (lo + i))) H' from funext fun N => by rw [← hσ (.int (lo + i))] <;> rfl]
    exact ⟨hw _, cl_turn hD (by omega) (hs i hi) p⟩) fun H' p => by
    obtain ⟨acc, e, g, ea, _, hp⟩ := p
    exact hd D acc H' g e ea hp
end

section
variable {d l : Addr} {H H' : Hp}
theorem Gl.ex (e : Evl.Ex H H') (h : DeckL d l H) : Gl d l H H' := by
  obtain ⟨ns, m, c, e1, e2, r⟩ := h
  exact ⟨⟨ns, m, c, e _ _ e1, e _ _ e2, r⟩, fun a o _ _ q => e a o q⟩
end
theorem rd_gsub {to ti : TE} {t : TSet} {v : V} {σ : L2.St} {H : Hp} {N : L2.St → Hp → Prop} (h : to σ H fun o H1 => ti σ H1 fun i H2 => t o i v H2 fun H3 => N σ H3) : gSub to ti t v σ H N := h
end Ea
set_option Elab.async false
set_option linter.all false
set_option maxRecDepth 100000
set_option maxHeartbeats 1000000
/-! enumerate of a tuple; zip of a tuple and a list. -/
namespace Ea
open PySem PySem.Spec PyProof.Rows L2
/-- enumerate(v), v told by how its iterator begins -/
theorem meets_enum1 {v : Value} {o : Obj} {Hh : Heap → Prop} (B : Begins v o Hh) :
    Meets (Builtin.«enumerate.__new__» ⟨[.type "enumerate", v], []⟩) (fun _ R s => Hh s.heap ∧
      R (.ok (.ret (.ref (s.heap.push o).objs.size))) { s with heap := (s.heap.push o).push { cls := .type "enumerate", data := .fields #[.none, .bool false, .ref s.heap.objs.size, rawInt 0, .none, .none] } }) :=
  .of_wp fun prog w A R s h => by
    obtain ⟨hp, g, d, tk, os⟩ := s
    obtain ⟨h1, h⟩ := h
    have hsub := sub_enumerate
    have q1 : ∀ {A' : Around} {E : Value → Shared → Prop} {Q : Value → Shared → Prop}, Q (.ref hp.objs.size) ⟨hp.push o, g, d, tk, os⟩ → wpAny (model prog w) A' (pyIter v) Q E ⟨hp, g, d, tk, os⟩ :=
      fun q => B.iter prog w _ _ ⟨hp, g, d, tk, os⟩ _ h1 q
    wp_walk using q1
    refine wpAny_stack_any fun st => wpAny_pure ?_
    split
    · rename_i c _ _ _ _ _
      cases (c == Value.type "enumerate") <;> (wp_walk using q1; exact ⟨_, rfl, h⟩)
    · wp_walk using q1
      exact ⟨_, rfl, h⟩
theorem call_enum1 {prog : Program} {w : World} {A : Around} {E : Value → Shared → Prop} {s : Shared} {v : Value} {o : Obj} {Hh : Heap → Prop} {Q : Value → Shared → Prop} (B : Begins v o Hh) (h1 : Hh s.heap)
    (h : ∀ h', IsEnum h' (s.heap.objs.size + 1) s.heap.objs.size 0 .none → h'.get? s.heap.objs.size = some o → (∀ b o, s.heap.get? b = some o → h'.get? b = some o) → Q (.ref (s.heap.objs.size + 1)) { s with heap := h' }) :
    wpAny (model prog w) A (call (.type "enumerate") [v]) Q E s := by
  refine callType_new F.called_enumerate (by decide) (F.typeCall_enumerate_1 _) (F.newCall_enumerate_1 _) (fun obj => F.args_object_init_2 obj _) F.entry_enumerate_new (meets_enum1 B) ⟨h1, ?_⟩
  have hz : (s.heap.push o).objs.size = s.heap.objs.size + 1 := Heap.size_push ..
  show _ ∧ _
  rw [hz]
  have he : IsEnum ((s.heap.push o).push { cls := .type "enumerate", data := .fields #[.none, .bool false, .ref s.heap.objs.size, rawInt 0, .none, .none] }) (s.heap.objs.size + 1) s.heap.objs.size 0 .none := by
    have z := Heap.get?_push_size (s.heap.push o) (o := { cls := .type "enumerate", data := .fields #[.none, .bool false, .ref s.heap.objs.size, rawInt 0, .none, .none] }) rfl
    rw [hz] at z
    exact z
  exact ⟨⟨_, he, rfl⟩, h _ he (Heap.get?_push_of_some _ (Heap.get?_push_size _ B.free)) fun b o x => Heap.get?_push_of_some _ (Heap.get?_push_of_some _ x)⟩
/-- the tuple at a, each item in a new pair -/
def IteT (K : PySem.W.Frag) (a : Addr) : It :=
  ⟨fun i H => ∃ (xs : List V) (x : V), SqT K H a xs ∧ xs[i]? = some x, fun i H v H' => ∃ T x, v = .ref T ∧ H T = none ∧ H' = upd H T (.tup [.int (i : Nat), x]) ∧ ∀ xs, SqT K H a xs → xs[i]? = some x, fun i H => ∃ xs : List V, SqT K H a xs ∧ xs.length = i⟩
theorem apart {h : Heap} {a b : Addr} {o u : Obj} (e1 : h.get? a = some o) (e2 : h.get? b = some u) (hc : o.cls ≠ u.cls) : a ≠ b := fun e => by
  rw [e, e2] at e1
  cases e1
  exact hc rfl
theorem turn_enumT {P : Program} {w : World} {K : PySem.W.Frag} {elts : List Expr} {kk : Nat} {tpos : Pos} (a e it : Addr) :
    L2.Turn P w K (.Tuple elts kk tpos) (IteT K a) [e, it] e (fun i h => (∃ old, IsEnum h e it ((i : Nat) : Int) old) ∧ h.IsTupleIter it a i ∧ e ≠ it) where
  mem := by simp
  obj := fun i h st b hb => by
    obtain ⟨⟨old, he⟩, ⟨o, ho, hc, hd⟩, _⟩ := st
    have e' : b = e ∨ b = it := by simpa using hb
    rcases e' with rfl | rfl
    · exact ⟨_, he, fun v q => nomatch q⟩
    · exact ⟨o, ho, fun v q => by rw [hd] at q; cases q⟩
  keep := fun i h h' st k => let ⟨⟨old, he⟩, hi, hne⟩ := st; ⟨⟨old, k e (by simp) _ he⟩, hi.at fun o q => k it (by simp) o q, hne⟩
  item := by
    intro X hP hw hK hc i pins s σ H E I hf st hg
    subst hP hw hK
    obtain ⟨⟨old, he⟩, hit, hne⟩ := st
    obtain ⟨xs, x, hq, hx⟩ := hg
    obtain ⟨its, rv, p, hz⟩ := I.tuple hq
    obtain ⟨u, hu, ru⟩ := rv.get hx
    obtain ⟨oi, hoi, hci, _⟩ := id hit
    obtain ⟨ot, hot, hct, _⟩ := id p
    have hai : a ≠ it := apart hot hoi (by rw [hct, hci]; decide)
    have hea : e ≠ a := apart he hot (by rw [hct]; show Value.type "enumerate" ≠ Value.type "tuple"; decide)
    have hel : e < s.heap.objs.size := Heap.lt_size he
    have hil : it < s.heap.objs.size := Heap.lt_size hoi
    have hlt : i < its.toArray.size := by
      have := (List.getElem?_eq_some_iff.mp hu).1
      simpa using this
    refine wpAny_pyNext_enum_itemD (Draws.tuple (prog := X.prog) (w := X.w) (A := X.A.in1) (I.ok.hd hc) it a hai its.toArray) he ⟨hit, p⟩ hlt hne (by simp [hne, hea]) fun x' h' tk hP ho st' hT hsz hk => ?_
    obtain rfl : u = x' := by
      have z : its[i]? = some x' := by simpa using hP
      rw [hu] at z
      exact Option.some.inj z
    refine ⟨_, rfl, wpAny_letOwnedTupleGo_enum (s := { s with heap := h', toks := tk + 1 }) ho fun h'' he' sb => ?_⟩
    have hT2 : h''.get? s.heap.objs.size = some { cls := .type "tuple", data := .seq #[.int i tk, u] } := (sb.2 _ (Nat.ne_of_gt hel)).trans hT
    have new : ObjOk X.prog X.w (upd H s.heap.objs.size (.tup [.int (i : Nat), x])) h'' s.heap.objs.size (.tup [.int (i : Nat), x]) :=
      ⟨by show 2 ≤ sizeLine; decide, [.int i tk, u], .cons ⟨_, rfl⟩ (.cons ru .nil), ⟨_, hT2, rfl, _, rfl⟩⟩
    have I1 : Inv X pins σ (upd H s.heap.objs.size (.tup [.int (i : Nat), x])) { s with heap := h'', toks := tk + 1 } :=
      I.turnedNew (ch := [e, it]) (fun b ob hb q => (sb.2 b (fun z => hb (by simp [z]))).trans (hk b ob (fun z => hb (by simp [z])) (fun z => hb (by simp [z])) q)) hf (Nat.le_refl _) new
    refine ⟨.ref s.heap.objs.size, _, I1, rfl, ⟨_, x, rfl, I.hok.fresh (Nat.le_refl _), rfl, fun ys hy => by rw [I.tuple_inj hy hq]; exact hx⟩, ⟨⟨u, ?_⟩, st'.1.at fun o q => (sb.2 it (Ne.symm hne)).trans q, hne⟩, fun b hb => ?_⟩
    · have e1 : ((i + 1 : Nat) : Int) = (i : Int) + 1 := by omega
      rw [e1]
      exact he'
    · have hb' : b < s.heap.objs.size := by
        have e' : b = e ∨ b = it := by simpa using hb
        rcases e' with rfl | rfl
        · exact hel
        · exact hil
      rw [upd_ne (Nat.ne_of_lt hb')]
      exact (hf b hb).1
  done := by
    intro X hP hw hK hc i pins s σ H E I hf st hg
    subst hP hw hK
    obtain ⟨⟨old, he⟩, hit, hne⟩ := st
    obtain ⟨xs, hq, hx⟩ := hg
    obtain ⟨its, rv, p, hz⟩ := I.tuple hq
    obtain ⟨oi, hoi, hci, _⟩ := id hit
    obtain ⟨ot, hot, hct, _⟩ := id p
    have hai : a ≠ it := apart hot hoi (by rw [hct, hci]; decide)
    obtain ⟨f0, f1, f2, f3, f4, f5⟩ := hf it (by simp)
    have hl : i = its.toArray.size := by
      have := rv.length
      rw [List.size_toArray]
      omega
    exact wpAny_pyNext_enum_endD (Draws.tuple (prog := X.prog) (w := X.w) (A := X.A.in1) (I.ok.hd hc) it a hai its.toArray) he ⟨hl ▸ hit, p⟩ fun h' eb => ⟨rfl, I.turned (t' := s.toks) (fun b o hb q => eb b o hb q) f0 f1 f3 f4 f5⟩
  self := fun A i s Q E st h => let ⟨⟨_, he⟩, _⟩ := st; wpAny_pyIter_enum he h
def iEnumT (K : PySem.W.Frag) (ta : TA) : TI := fun σ H R => ta σ H fun vs H1 => ∃ a xs, vs = [.ref a] ∧ SqT K H1 a xs ∧ R (IteT K a) H1
theorem pi_enumT {X : Cx} {K : PySem.W.Frag} (hKK : X.K = K) {e : Expr} {ta : TA} {p pos tpos : Pos} {elts : List Expr} {kk : Nat} (hg : L2.Gl X "enumerate") (hm : X.mg "enumerate" = none) (ha : PA X [e] ta) (hs : starEach [e] X.env = [(false, eval e X.env)] := by rfl) :
    PI X (.Tuple elts kk tpos) (.Call (.Name "enumerate" p) [e] [] pos) (iEnumT K ta) := by
  subst hKK
  refine ⟨fun pins s σ H R I h => ?_⟩
  refine Call_ (ld_blt I hg hm boot_enumerate (PyProof.Rows.callWith_type1 (thn (ha.run pos pins s σ H _ I h) fun us s1 ⟨vs, H1, I1, r1, q1⟩ => ?_) hs rfl))
  obtain ⟨a, xs, ex, hq, q⟩ := q1
  subst ex
  cases r1 with
  | cons r rr =>
    cases rr
    cases r
    obtain ⟨its, rv, p', hz⟩ := I1.tuple hq
    refine call_enum1 (begins_tuple a its.toArray) (show s1.heap.IsTuple a its.toArray from p') fun h' he hit hk => wpAny_pyIter_enum he ?_
    have I2 : Inv X pins σ H1 { s1 with heap := h' } := I1.kept (t' := s1.toks) hk
    refine ⟨s1.heap.objs.size + 1, [s1.heap.objs.size + 1, s1.heap.objs.size], _, _, H1, rfl, I2, turn_enumT a (s1.heap.objs.size + 1) s1.heap.objs.size, ⟨⟨.none, he⟩, ⟨_, hit, rfl, rfl⟩, Nat.succ_ne_self _⟩, fun b hb => ?_, q⟩
    have e' : b = s1.heap.objs.size + 1 ∨ b = s1.heap.objs.size := by simpa using hb
    have hle : s1.heap.objs.size ≤ b := by
      rcases e' with rfl | rfl
      · exact Nat.le_add_right _ _
      · exact Nat.le_refl _
    exact I1.fpOk hle (I1.hok.fresh hle)
end Ea
set_option Elab.async false
set_option linter.all false
set_option maxRecDepth 100000
set_option maxHeartbeats 1000000
/-! zip of a tuple and a list. -/
namespace Ea
open PySem PySem.Spec PyProof.Rows L2
/-- the tuple at a and the list at b, the items in new pairs -/
def ItzM (K : PySem.W.Frag) (a b : Addr) : It :=
  ⟨fun i H => ∃ (xs ys : List V) (x y : V), SqT K H a xs ∧ SqL K H b ys ∧ xs[i]? = some x ∧ ys[i]? = some y,
    fun i H v H' => ∃ T x y, v = .ref T ∧ H T = none ∧ H' = upd H T (.tup [x, y]) ∧ (∀ xs, SqT K H a xs → xs[i]? = some x) ∧ ∀ ys, SqL K H b ys → ys[i]? = some y,
    fun i H => ∃ xs ys : List V, SqT K H a xs ∧ SqL K H b ys ∧ i ≤ xs.length ∧ i ≤ ys.length ∧ (i = xs.length ∨ i = ys.length)⟩
structure Cells (z TI TO i1 i2 : Addr) : Prop where
  TIz : TI ≠ z
  TOz : TO ≠ z
  TITO : TI ≠ TO
  TIi1 : TI ≠ i1
  TIi2 : TI ≠ i2
  TOi1 : TO ≠ i1
  TOi2 : TO ≠ i2
  zi1 : z ≠ i1
  zi2 : z ≠ i2
  i12 : i1 ≠ i2
theorem cells_sep {h : Heap} {z TI TO i1 i2 a b : Addr} {k1 k2 : Nat} {xs ys : Array Value} {x y : Value} (C : Cells z TI TO i1 i2) (hz : IsZip h z TI TO .none) (hTO : IsTupOf2 h TO x y)
    (h1 : h.IsTupleIter i1 a k1) (h2 : h.IsListIter i2 b k2) (ha : h.IsTuple a xs) (hb : h.IsList b ys) (hTa : TO ≠ a) : ZipSep2 z TI TO i1 i2 [i1, a] [i2, b] ∧ a ≠ i1 ∧ b ≠ i2 := by
  obtain ⟨o1, e1, c1, _⟩ := h1
  obtain ⟨o2, e2, c2, _⟩ := h2
  obtain ⟨oa, ea, ca, _⟩ := ha
  obtain ⟨ob, eb, cb, _⟩ := hb
  have nza : z ≠ a := apart hz ea (by rw [ca]; show Value.type "zip" ≠ Value.type "tuple"; decide)
  have nzb : z ≠ b := apart hz eb (by rw [cb]; show Value.type "zip" ≠ Value.type "list"; decide)
  have nTb : TO ≠ b := apart hTO eb (by rw [cb]; show Value.type "tuple" ≠ Value.type "list"; decide)
  have n1b : i1 ≠ b := apart e1 eb (by rw [c1, cb]; decide)
  have n2a : i2 ≠ a := apart e2 ea (by rw [c2, ca]; decide)
  have na1 : a ≠ i1 := apart ea e1 (by rw [ca, c1]; decide)
  have nb2 : b ≠ i2 := apart eb e2 (by rw [cb, c2]; decide)
  refine ⟨{ TIz := C.TIz, TOz := C.TOz, TITO := C.TITO, TIi1 := C.TIi1, mem1 := by simp, zf1 := ?_, Tf1 := ?_, TIi2 := C.TIi2, mem2 := by simp, zf2 := ?_, Tf2 := ?_, sep1_2 := ?_, sep2_1 := ?_ }, na1, nb2⟩
  · simp [C.zi1, nza]
  · simp [C.TOi1, hTa]
  · simp [C.zi2, nzb]
  · simp [C.TOi2, nTb]
  · simp [C.i12, n1b]
  · simp [C.i12.symm, n2a]
theorem turn_zipM {P : Program} {w : World} {K : PySem.W.Frag} {elts : List Expr} {kk : Nat} {tpos : Pos} {a b z TI TO i1 i2 : Addr} (C : Cells z TI TO i1 i2) (hTa : TO ≠ a) :
    L2.Turn P w K (.Tuple elts kk tpos) (ItzM K a b) [z, TI, TO, i1, i2] z (fun i h => IsZip h z TI TO .none ∧ IsTupOf2 h TI (.ref i1) (.ref i2) ∧ (∃ x y, IsTupOf2 h TO x y) ∧ h.IsTupleIter i1 a i ∧ h.IsListIter i2 b i) where
  mem := by simp
  obj := fun i h st c hc => by
    obtain ⟨hz, hTI, ⟨x, y, hTO⟩, ⟨o1, e1, _, d1⟩, ⟨o2, e2, _, d2⟩⟩ := st
    have e' : c = z ∨ c = TI ∨ c = TO ∨ c = i1 ∨ c = i2 := by simpa using hc
    rcases e' with rfl | rfl | rfl | rfl | rfl
    · exact ⟨_, hz, fun v q => nomatch q⟩
    · exact ⟨_, hTI, fun v q => nomatch q⟩
    · exact ⟨_, hTO, fun v q => nomatch q⟩
    · exact ⟨o1, e1, fun v q => by rw [d1] at q; cases q⟩
    · exact ⟨o2, e2, fun v q => by rw [d2] at q; cases q⟩
  keep := fun i h h' st k => by
    obtain ⟨hz, hTI, ⟨x, y, hTO⟩, h1, h2⟩ := st
    exact ⟨k z (by simp) _ hz, k TI (by simp) _ hTI, ⟨x, y, k TO (by simp) _ hTO⟩, h1.at fun o q => k i1 (by simp) o q, h2.at fun o q => k i2 (by simp) o q⟩
  item := by
    intro X hP hw hK hc i pins s σ H E I hf st hg
    subst hP hw hK
    obtain ⟨hz, hTI, ⟨x0, y0, hTO⟩, h1, h2⟩ := st
    obtain ⟨xs, ys, x, y, hqx, hqy, hx, hy⟩ := hg
    obtain ⟨its, rv, p, _⟩ := I.tuple hqx
    obtain ⟨its2, rv2, p2, _⟩ := I.list hqy
    obtain ⟨u, hu, ru⟩ := rv.get hx
    obtain ⟨u2, hu2, ru2⟩ := rv2.get hy
    have pt : s.heap.IsTuple a its.toArray := p
    obtain ⟨S, na1, nb2⟩ := cells_sep C hz hTO h1 h2 pt p2.isList hTa
    have hzl : z < s.heap.objs.size := Heap.lt_size hz
    have hlt1 : i < its.toArray.size := by
      have := (List.getElem?_eq_some_iff.mp hu).1
      simpa using this
    have hlt2 : i < its2.toArray.size := by
      have := (List.getElem?_eq_some_iff.mp hu2).1
      simpa using this
    refine wpAny_pyNext_zipD2_item S (Draws.tuple (prog := X.prog) (w := X.w) (A := X.A.in1) (I.ok.hd hc) i1 a na1 its.toArray) (Draws.list (prog := X.prog) (w := X.w) (A := X.A.in1) (I.ok.hd hc) i2 b nb2 its2.toArray) hz hTI hTO ⟨h1, pt⟩ ⟨h2, p2.isList⟩ hlt1 hlt2 fun x1 x2 h' tk hP1 hP2 z' TO' st1 st2 hT hsz hk => ?_
    obtain rfl : u = x1 := by
      have q : its[i]? = some x1 := by simpa using hP1
      rw [hu] at q
      exact Option.some.inj q
    obtain rfl : u2 = x2 := by
      have q : its2[i]? = some x2 := by simpa using hP2
      rw [hu2] at q
      exact Option.some.inj q
    refine ⟨_, rfl, wpAny_letOwnedTupleGo_zip (s := { s with heap := h', toks := tk }) z' fun h'' z'' sb => ?_⟩
    have hT2 : h''.get? s.heap.objs.size = some { cls := .type "tuple", data := .seq #[u, u2] } := (sb.2 _ (Nat.ne_of_gt hzl)).trans hT
    have new : ObjOk X.prog X.w (upd H s.heap.objs.size (.tup [x, y])) h'' s.heap.objs.size (.tup [x, y]) :=
      ⟨by show 2 ≤ sizeLine; decide, [u, u2], .cons ru (.cons ru2 .nil), ⟨_, hT2, rfl, _, rfl⟩⟩
    have I1 : Inv X pins σ (upd H s.heap.objs.size (.tup [x, y])) { s with heap := h'', toks := tk } :=
      I.turnedNew (ch := [z, TI, TO, i1, i2]) (fun c o hb q => (sb.2 c (fun q' => hb (by simp [q']))).trans (hk c o (fun q' => hb (by simp [q'])) (fun q' => hb (by simp [q'])) (fun q' => hb (by simp [q'])) (fun q' => hb (by simp [q'])) q)) hf (Nat.le_refl _) new
    refine ⟨.ref s.heap.objs.size, _, I1, rfl, ⟨_, x, y, rfl, I.hok.fresh (Nat.le_refl _), rfl, fun l hl => by rw [I.tuple_inj hl hqx]; exact hx, fun l hl => by rw [I.list_inj hl hqy]; exact hy⟩, ⟨z'', ?_, ⟨u, u2, ?_⟩, ?_, ?_⟩, fun c hcm => ?_⟩
    · exact (sb.2 _ C.TIz).trans (hk _ _ C.TIz C.TITO C.TIi1 C.TIi2 hTI)
    · exact (sb.2 _ C.TOz).trans TO'
    · exact st1.1.at fun o q => (sb.2 _ C.zi1.symm).trans q
    · exact st2.1.at fun o q => (sb.2 _ C.zi2.symm).trans q
    · have hlt : c < s.heap.objs.size := by
        have e' : c = z ∨ c = TI ∨ c = TO ∨ c = i1 ∨ c = i2 := by simpa using hcm
        rcases e' with rfl | rfl | rfl | rfl | rfl
        · exact hzl
        · exact Heap.lt_size hTI
        · exact Heap.lt_size hTO
        · obtain ⟨_, e1, _⟩ := h1
          exact Heap.lt_size e1
        · obtain ⟨_, e2, _⟩ := h2
          exact Heap.lt_size e2
      rw [upd_ne (Nat.ne_of_lt hlt)]
      exact (hf c hcm).1
  done := by
    intro X hP hw hK hc i pins s σ H E I hf st hg
    subst hP hw hK
    obtain ⟨hz, hTI, ⟨x0, y0, hTO⟩, h1, h2⟩ := st
    obtain ⟨xs, ys, hqx, hqy, l1, l2, hend⟩ := hg
    obtain ⟨its, rv, p, _⟩ := I.tuple hqx
    obtain ⟨its2, rv2, p2, _⟩ := I.list hqy
    have pt : s.heap.IsTuple a its.toArray := p
    obtain ⟨S, na1, nb2⟩ := cells_sep C hz hTO h1 h2 pt p2.isList hTa
    have k1 := rv.length
    have k2 := rv2.length
    have m1 : i ≤ its.toArray.size := by rw [List.size_toArray]; omega
    have m2 : i ≤ its2.toArray.size := by rw [List.size_toArray]; omega
    have m3 : i = its.toArray.size ∨ i = its2.toArray.size := by rw [List.size_toArray, List.size_toArray]; omega
    exact wpAny_pyNext_zipD2_end S (Draws.tuple (prog := X.prog) (w := X.w) (A := X.A.in1) (I.ok.hd hc) i1 a na1 its.toArray) (Draws.list (prog := X.prog) (w := X.w) (A := X.A.in1) (I.ok.hd hc) i2 b nb2 its2.toArray) hz hTI hTO ⟨h1, pt⟩ ⟨h2, p2.isList⟩ m1 m2 m3 fun h' tk hk => ⟨rfl, I.turnedL (t' := tk) (ch := [z, TI, TO, i1, i2]) (fun c o hb q =>
      hk c o (fun q' => hb (by simp [q'])) (fun q' => hb (by simp [q'])) (fun q' => hb (by simp [q'])) (fun q' => hb (by simp [q'])) q) hf⟩
  self := fun A i s Q E st h => wpAny_pyIter_zip st.1 h
def iZipM (K : PySem.W.Frag) (ta : TA) : TI := fun σ H R => ta σ H fun vs H1 => ∃ a b xs ys, vs = [.ref a, .ref b] ∧ SqT K H1 a xs ∧ SqL K H1 b ys ∧ R (ItzM K a b) H1
theorem pi_zipM {X : Cx} {K : PySem.W.Frag} (hKK : X.K = K) {e e2 : Expr} {ta : TA} {p pos tpos : Pos} {elts : List Expr} {kk : Nat} (hg : L2.Gl X "zip") (hm : X.mg "zip" = none) (ha : PA X [e, e2] ta)
    (hs : starEach [e, e2] X.env = (false, eval e X.env) :: starEach [e2] X.env := by rfl) (hpl : (backTo pos (starEach [e2] X.env)).any (·.1) = false := by rfl) :
    PI X (.Tuple elts kk tpos) (.Call (.Name "zip" p) [e, e2] [] pos) (iZipM K ta) := by
  subst hKK
  refine ⟨fun pins s σ H R I h => ?_⟩
  refine Call_ (ld_blt I hg hm PyProof.Rows.boot_zip (PyProof.Rows.callWith_type1 (thn (ha.run pos pins s σ H _ I h) fun us s1 ⟨vs, H1, I1, r1, q1⟩ => ?_) hs hpl))
  obtain ⟨a, b, xs, ys, ex, hqx, hqy, q⟩ := q1
  subst ex
  cases r1 with
  | cons r rr =>
    cases rr with
    | cons r' rr =>
      cases rr
      cases r
      cases r'
      obtain ⟨its, rv, p1, _⟩ := I1.tuple hqx
      obtain ⟨its2, rv2, p2, _⟩ := I1.list hqy
      obtain ⟨o1, ho1, _⟩ := id p1
      refine zip_begins2 (begins_tuple a its.toArray) (begins_list b its2.toArray) (show s1.heap.IsTuple a its.toArray from p1) p2.isList fun h' hz hTI hTO h1 h2 hsz hk => wpAny_pyIter_zip hz ?_
      have I2 : Inv X pins σ H1 { s1 with heap := h' } := I1.kept (t' := s1.toks) hk
      have C : Cells (s1.heap.objs.size + 4) (s1.heap.objs.size + 2) (s1.heap.objs.size + 3) s1.heap.objs.size (s1.heap.objs.size + 1) := by
        constructor <;> (intro e; have e : (_ : Nat) = _ := e; omega)
      have hTa : (s1.heap.objs.size + 3 : Nat) ≠ a := Nat.ne_of_gt (Nat.lt_of_lt_of_le (Heap.lt_size ho1) (Nat.le_add_right _ _))
      refine ⟨s1.heap.objs.size + 4, [s1.heap.objs.size + 4, s1.heap.objs.size + 2, s1.heap.objs.size + 3, s1.heap.objs.size, s1.heap.objs.size + 1], _, _, H1, rfl, I2, turn_zipM C hTa, ⟨hz, hTI, ⟨_, _, hTO⟩, ⟨_, h1, rfl, rfl⟩, ⟨_, h2, rfl, rfl⟩⟩, fun c hcm => ?_, q⟩
      have e' : c = s1.heap.objs.size + 4 ∨ c = s1.heap.objs.size + 2 ∨ c = s1.heap.objs.size + 3 ∨ c = s1.heap.objs.size ∨ c = s1.heap.objs.size + 1 := by simpa using hcm
      have hle : s1.heap.objs.size ≤ c := by
        rcases e' with rfl | rfl | rfl | rfl | rfl
        · exact Nat.le_add_right _ _
        · exact Nat.le_add_right _ _
        · exact Nat.le_add_right _ _
        · exact Nat.le_refl _
        · exact Nat.le_add_right _ _
      exact I1.fpOk hle (I1.hok.fresh hle)
end Ea
set_option Elab.async false
set_option linter.all false
set_option maxRecDepth 100000
set_option maxHeartbeats 400000
/-! Comprehensions over pairs, where nothing else is changed. -/
namespace Ea
open PySem PySem.Spec PyProof.Rows L2
section
variable {K : PySem.W.Frag} {σ : L2.St} {H : Hp} {Q : VK} {tt : TT} {te : TE} {vs : List Nat} {j1 j2 k : Nat} {σx : V → V → L2.St} {a b : Addr} {n : Nat} {px py : Nat → V} {f : Nat → Bool} {g : Nat → V} {J : It}
theorem range_snoc (f : Nat → Bool) (g : Nat → V) (i : Nat) : ((List.range (i + 1)).filter f).map g = ((List.range i).filter f).map g ++ (if f i = true then [g i] else []) := by
  rw [List.range_succ, List.filter_append, List.map_append]
  congr 1
  by_cases h : f i = true
  · rw [if_pos h, List.filter_cons, if_pos h] <;> rfl
  · rw [if_neg h, List.filter_cons, if_neg h] <;> rfl
abbrev TurnP (H : Hp) (tt : TT) (te : TE) (σx : V → V → L2.St) (px py : Nat → V) (f : Nat → Bool) (g : Nat → V) (i : Nat) : Prop :=
  ∀ (H' : Hp) (N : VK) (S : Hp → Prop), Evl.Ex H H' → (f i = true → ∀ H3, Evl.Ex H' H3 → N (g i) H3) → (f i = false → ∀ H3, Evl.Ex H' H3 → S H3) →
    tt (σx (px i) (py i)) H' fun b H2 => if b = true then te (σx (px i) (py i)) H2 N else S H2
theorem lc_pairs (hk : k = 2) (hz : n ≤ 40000) (go : ∀ i H', Evl.Ex H H' → i < n → J.go i H') (stop : ∀ H', Evl.Ex H H' → J.stop n H')
    (yld : ∀ i H1 x H2, Evl.Ex H H1 → i < n → J.yld i H1 x H2 → ∃ T, x = .ref T ∧ H1 T = none ∧ H2 = upd H1 T (.tup [px i, py i]))
    (hσ : ∀ x y, ((wipe σ vs).set j1 (some x)).set j2 (some y) = σx x y) (hw : ∀ x y, wipe (σx x y) vs = wipe σ vs)
    (hs : ∀ i, i < n → TurnP H tt te σx px py f g i)
    (hd : ∀ D H', Evl.Ex H H' → H D = none → H' D = some (.lst (((List.range n).filter f).map g)) → Q (.ref D) H') : LcR (gTup K k (gCons (gName j1) (gCons (gName j2) gNil))) tt te vs σ Q J H := fun D hn => by
  refine ⟨fun i m H' => i + m = n ∧ Evl.Ex H H' ∧ H' D = some (.lst (((List.range i).filter f).map g)), ⟨n, by omega, Evl.Ex.new hn, upd_same⟩, fun i m H' hW => ?_⟩
  obtain ⟨em, e, ed⟩ := hW
  have hlen : (((List.range i).filter f).map g).length < 100000 := by
    rw [List.length_map]
    have h1 := List.length_filter_le f (List.range i)
    rw [List.length_range] at h1
    omega
  by_cases hi : i < n
  · refine .inr ⟨go i H' e hi, fun H3 => Evl.Ex H H3 ∧ H3 D = some (.lst (((List.range (i + 1)).filter f).map g)), fun H3 h3 => ⟨m - 1, by omega, by omega, h3⟩, fun x H2 hy => ?_⟩
    obtain ⟨T, rfl, hT, rfl⟩ := yld i H' x H2 e hi hy
    have eT := Evl.Ex.new (o := .tup [px i, py i]) hT
    refine rd_gtup2 (x := px i) (y := py i) (SqT.of upd_same) hk (hσ _ _) ⟨hw _ _, hs i hi _ _ _ (e.trans eT) (fun hf H3 e3 => ?_) fun hf H3 e3 => ?_⟩
    · refine ⟨_, e3 D _ (eT D _ ed), Evl.sz_lt hlen, Evl.Ex.mut ((e.trans eT).trans e3) hn, ?_⟩
      rw [upd_same, range_snoc, if_pos hf]
    · refine ⟨(e.trans eT).trans e3, ?_⟩
      rw [range_snoc, if_neg (by rw [hf]; decide), List.append_nil]
      exact e3 D _ (eT D _ ed)
  · have hin : i = n := by omega
    subst hin
    exact .inl ⟨stop H' e, hd D H' e hn ed⟩
theorem lc_enumT {xs : List V} (hk : k = 2) (hx : SqT K H a xs) (hz : xs.length ≤ 40000) (hσ : ∀ x y, ((wipe σ vs).set j1 (some x)).set j2 (some y) = σx x y) (hw : ∀ x y, wipe (σx x y) vs = wipe σ vs)
    (f : Nat → Bool) (g : Nat → V) (hs : ∀ i, i < xs.length → TurnP H tt te σx (fun i => .int (i : Nat)) (fun i => xs.getD i .non) f g i)
    (hd : ∀ D H', Evl.Ex H H' → H D = none → H' D = some (.lst (((List.range xs.length).filter f).map g)) → Q (.ref D) H') : LcR (gTup K k (gCons (gName j1) (gCons (gName j2) gNil))) tt te vs σ Q (IteT K a) H :=
  lc_pairs hk hz (fun i H' e hi => ⟨xs, xs[i], Evl.ex_t e hx, List.getElem?_eq_getElem hi⟩) (fun H' e => ⟨xs, Evl.ex_t e hx, rfl⟩)
    (fun i H1 x H2 e hi hy => by
      obtain ⟨T, y, rfl, hT, rfl, h⟩ := hy
      have := h xs (Evl.ex_t e hx)
      refine ⟨T, rfl, hT, ?_⟩
      show _ = upd H1 T (.tup [.int (i : Nat), xs.getD i .non])
      rw [List.getD_eq_getElem?_getD, this] <;> rfl) hσ hw hs hd
theorem lc_enumL {xs : List V} (hk : k = 2) (hx : SqL K H a xs) (hz : xs.length ≤ 40000) (hσ : ∀ x y, ((wipe σ vs).set j1 (some x)).set j2 (some y) = σx x y) (hw : ∀ x y, wipe (σx x y) vs = wipe σ vs)
    (f : Nat → Bool) (g : Nat → V) (hs : ∀ i, i < xs.length → TurnP H tt te σx (fun i => .int (i : Nat)) (fun i => xs.getD i .non) f g i)
    (hd : ∀ D H', Evl.Ex H H' → H D = none → H' D = some (.lst (((List.range xs.length).filter f).map g)) → Q (.ref D) H') : LcR (gTup K k (gCons (gName j1) (gCons (gName j2) gNil))) tt te vs σ Q (Ite K a) H :=
  lc_pairs hk hz (fun i H' e hi => ⟨xs, xs[i], Evl.ex_l e hx, List.getElem?_eq_getElem hi⟩) (fun H' e => ⟨xs, Evl.ex_l e hx, Nat.le_refl _⟩)
    (fun i H1 x H2 e hi hy => by
      obtain ⟨T, y, rfl, hT, rfl, h⟩ := hy
      have := h xs (Evl.ex_l e hx)
      refine ⟨T, rfl, hT, ?_⟩
      show _ = upd H1 T (.tup [.int (i : Nat), xs.getD i .non])
      rw [List.getD_eq_getElem?_getD, this] <;> rfl) hσ hw hs hd
theorem lc_zipM {xs ys : List V} (hk : k = 2) (hx : SqT K H a xs) (hy : SqL K H b ys) (hl : xs.length = ys.length) (hz : xs.length ≤ 40000) (hσ : ∀ x y, ((wipe σ vs).set j1 (some x)).set j2 (some y) = σx x y) (hw : ∀ x y, wipe (σx x y) vs = wipe σ vs)
    (f : Nat → Bool) (g : Nat → V) (hs : ∀ i, i < xs.length → TurnP H tt te σx (fun i => xs.getD i .non) (fun i => ys.getD i .non) f g i)
    (hd : ∀ D H', Evl.Ex H H' → H D = none → H' D = some (.lst (((List.range xs.length).filter f).map g)) → Q (.ref D) H') : LcR (gTup K k (gCons (gName j1) (gCons (gName j2) gNil))) tt te vs σ Q (ItzM K a b) H :=
  lc_pairs hk hz (fun i H' e hi => ⟨xs, ys, xs[i], ys[i]'(hl ▸ hi), Evl.ex_t e hx, Evl.ex_l e hy, List.getElem?_eq_getElem hi, List.getElem?_eq_getElem (hl ▸ hi)⟩)
    (fun H' e => ⟨xs, ys, Evl.ex_t e hx, Evl.ex_l e hy, Nat.le_refl _, by omega, .inl rfl⟩)
    (fun i H1 x H2 e hi hq => by
      obtain ⟨T, u, v, rfl, hT, rfl, h1, h2⟩ := hq
      have q1 := h1 xs (Evl.ex_t e hx)
      have q2 := h2 ys (Evl.ex_l e hy)
      refine ⟨T, rfl, hT, ?_⟩
      show _ = upd H1 T (.tup [xs.getD i .non, ys.getD i .non])
      rw [List.getD_eq_getElem?_getD, q1, List.getD_eq_getElem?_getD, q2] <;> rfl) hσ hw hs hd
variable {R : It → Hp → Prop} {ta : TA}
theorem rd_iRng2 (h : ta σ H fun vs H1 => ∃ i j : Int, vs = [.int i, .int j] ∧ (-(2 ^ 62) ≤ i ∧ i < 2 ^ 62 ∧ -(2 ^ 62) ≤ j ∧ j < 2 ^ 62) ∧ R (Itr i (j - i).toNat) H1) : iRng2 ta σ H R := h
theorem rd_iEnumT (h : ta σ H fun vs H1 => ∃ a xs, vs = [.ref a] ∧ SqT K H1 a xs ∧ R (IteT K a) H1) : iEnumT K ta σ H R := h
theorem rd_iEnum (h : ta σ H fun vs H1 => ∃ a xs, vs = [.ref a] ∧ SqL K H1 a xs ∧ R (Ite K a) H1) : iEnum K ta σ H R := h
theorem rd_iZipM (h : ta σ H fun vs H1 => ∃ a b xs ys, vs = [.ref a, .ref b] ∧ SqT K H1 a xs ∧ SqL K H1 b ys ∧ R (ItzM K a b) H1) : iZipM K ta σ H R := h
end
section
variable {X : Cx} {K : PySem.W.Frag}
theorem pi_enumL (hKK : X.K = K) {e : Expr} {ta : TA} {p pos tpos : Pos} {elts : List Expr} {kk : Nat} (hg : L2.Gl X "enumerate") (hm : X.mg "enumerate" = none) (ha : PA X [e] ta) (hs : starEach [e] X.env = [(false, eval e X.env)] := by rfl) :
    PI X (.Tuple elts kk tpos) (.Call (.Name "enumerate" p) [e] [] pos) (iEnum K ta) := hKK ▸ pi_enum hg hm ha hs
theorem pgk_tup (hKK : X.K = K) {pos : Pos} {es : List Expr} {k : Nat} {t : TGs} {n : Nat} (hc : X.calm = true) (h : PGs X es t)
    (hn : (assignEach es X.env).length = n := by rfl) (hst : (assignEach es X.env).findIdx? (·.1) = none := by rfl) : PG X (.Tuple es k pos) (gTup K n t) := hKK ▸ pg_tup hc h hn hst
end
end Ea
set_option Elab.async false
set_option linter.all false
set_option maxRecDepth 100000
set_option maxHeartbeats 400000
/-! sorted by key=abs, a tuple whose object is known, dict of it, all, comprehensions and loops over tuples of pairs. -/
namespace Ea
open PySem PySem.Spec PyProof.Rows L2

/-! ### sorted(xs, key=abs) of a list of ints -/
def rSortAbs (K : PySem.W.Frag) : List V → Hp → VK → Prop := fun xs H Q => ∃ (a : Addr) (ns : List Int), xs = [.ref a] ∧ SqL K H a (ns.map V.int) ∧
  ∀ (ms : List Int) (p : Addr), ms.Perm ns → ms.Pairwise (fun x y => x.natAbs ≤ y.natAbs) → H p = none → Q (.ref p) (upd H p (.lst (ms.map V.int)))
theorem each_of_ints : ∀ {its : List Value} {ns : List Int}, Vals (ns.map V.int) its → PySem.W.EachIs (fun v x => ∃ t, v = Value.int x t) its ns
  | _, [], r => by
    cases r
    exact .nil
  | _, n :: ns, r => by
    rw [List.map_cons] at r
    cases r with
    | cons h t => exact .cons h (each_of_ints t)
theorem vals_of_each : ∀ {its : List Value} {ns : List Int}, PySem.W.EachIs (fun v x => ∃ t, v = Value.int x t) its ns → Vals (ns.map V.int) its
  | _, _, .nil => .nil
  | _, _, .cons h t => .cons h (vals_of_each t)
theorem sort_absK {X : Cx} {K : PySem.W.Frag} (hK : X.K = K) (hu : X.A.units + 64 < cLine) {pins : List (Addr × Obj)} {s : Shared} {σ : L2.St} {H : Hp} {xs : List V} {us : List Value} {Q : VK}
    (I : Inv X pins σ H s) (r : Vals xs us) (h : rSortAbs K xs H Q) : wpAny (model X.prog X.w) X.A (call (.builtin "sorted") us [(Str.ofString "key", .builtin "abs")]) (EP X pins σ Q) X.xe s := by
  subst hK
  obtain ⟨a, ns, rfl, hs, q⟩ := h
  rw [Vals.ref1 r]
  obtain ⟨its, rv, hl, hz⟩ := I.list hs
  have hlen : ns.length ≤ sizeLine := by
    rw [List.length_map] at hz
    exact hz
  refine PySem.W.sorted_key_data (β := Int) (R := fun v x => ∃ t, v = Value.int x t) (bs := ns) (b := false) (f := .builtin "abs") (fun n => .int (n.natAbs : Int)) hl.isList (each_of_ints rv) ?_ ?_ hlen (fun x _ => ?_)
    (PyProof.Rows.ksk_s1 _ _) (fun _ => PyProof.Rows.ksk_l1 _ _) (fun x => PyProof.Rows.ksk_t4 "abs" x) (fun v x hv hx h tk kp => ?_) fun out c h' tk kp hf hD ho he => ?_
  · intro d hd d' hd'
    obtain ⟨x, _, rfl⟩ := List.mem_map.mp hd
    obtain ⟨y, _, rfl⟩ := List.mem_map.mp hd'
    rfl
  · refine .inr fun d hd => ?_
    obtain ⟨x, _, rfl⟩ := List.mem_map.mp hd
    exact ⟨nofun, nofun⟩
  · have e : (PyData.int (x.natAbs : Int)).depth = 0 := rfl
    omega
  · obtain ⟨t, rfl⟩ := hv
    refine call_abs_int fun u tk' => ⟨h, tk', rfl, fun _ _ e => e, ?_⟩
    have e : (if x < 0 then -x else x) = (x.natAbs : Int) := by split <;> omega
    rw [e]
    exact .int _ _
  · rw [PySem.W.dataLe_int (β := Int) fun n => (n.natAbs : Int)] at he
    generalize hm : ns.mergeSort (fun a b => decide ((a.natAbs : Int) ≤ (b.natAbs : Int))) = ms at he
    have pm : ms.Perm ns := hm ▸ List.mergeSort_perm _ _
    have so : ms.Pairwise fun x y => x.natAbs ≤ y.natAbs := by
      rw [← hm]
      refine (List.pairwise_mergeSort (le := fun a b : Int => decide ((a.natAbs : Int) ≤ (b.natAbs : Int))) (fun a b c h1 h2 => ?_) (fun a b => ?_) ns).imp fun {a b} h => ?_
      · have := of_decide_eq_true h1
        have := of_decide_eq_true h2
        exact decide_eq_true (by omega)
      · rw [Bool.or_eq_true, decide_eq_true_eq, decide_eq_true_eq]
        omega
      · have := of_decide_eq_true h
        omega
    have hl2 : (ms.map V.int).length ≤ sizeLine := by
      rw [List.length_map, pm.length_eq]
      exact hlen
    exact ⟨.ref _, upd H (s.heap.objs.size + 1) (.lst (ms.map V.int)), I.laid (t' := tk) kp (Nat.le_succ _) ⟨hl2, out, c, vals_of_each he, hD⟩, rfl, q _ _ pm so (I.hok.fresh (Nat.le_succ _))⟩
theorem pe_sortAbs {X : Cx} {K : PySem.W.Frag} {e : Expr} {ta : TA} {p pos kpos apos : Pos} (hK : X.K = K) (hu : X.A.units + 64 < cLine) (hg : L2.Gl X "sorted") (hm : X.mg "sorted" = none) (hga : L2.Gl X "abs") (hma : X.mg "abs" = none) (ha : PA X [e] ta)
    (he : backTo pos (starEach [e] X.env) = (false, eval e X.env) :: backTo pos (starEach [] X.env) := by rfl) (hpl : (backTo pos (starEach [e] X.env)).any (·.1) = false := by rfl)
    (hall : (backToKw pos (keywordEach [⟨some "key", .Name "abs" apos, kpos⟩] X.env)).all (·.1.isSome) = true := by rfl) (hnone : (backToKw pos (keywordEach [⟨some "key", .Name "abs" apos, kpos⟩] X.env)).any (·.1.isNone) = false := by rfl) (hks : (backToKw pos (keywordEach [⟨some "key", .Name "abs" apos, kpos⟩] X.env)).filterMap (·.1) = [Str.ofString "key"] := by rfl) :
    PE X (.Call (.Name "sorted" p) [e] [⟨some "key", .Name "abs" apos, kpos⟩] pos) (tCB (rSortAbs K) ta) := by
  refine ⟨fun pins s σ H Q I h => ?_⟩
  refine wpAny_Call_Name_kw (ld_blt (u := .builtin "sorted") I hg hm rfl ?_)
  refine PyProof.Rows.callWith_kw (thn (ha.run pos pins s σ H _ I h) fun us s1 ⟨vs, H1, I1, r1, q1⟩ => ?_) he hpl hall hnone
  rw [hks]
  show wpAny _ _ (evalAll [do let v ← eval (.Name "abs" apos) X.env; standAt pos; pure v]) _ _ s1
  refine wpAny_evalAll_cons (wpAny_bind (ld_blt (u := .builtin "abs") I1 hga hma rfl (wpAny_bind (wpAny_standAt (wpAny_pure ?_)))))
  exact wpAny_evalAll_nil (sort_absK hK hu I1 r1 q1)
theorem rd_sortAbs {K : PySem.W.Frag} {H : Hp} {Q : VK} {a : Addr} {ns : List Int} (s : SqL K H a (ns.map V.int))
    (h : ∀ (ms : List Int) (p : Addr), ms.Perm ns → ms.Pairwise (fun x y => x.natAbs ≤ y.natAbs) → H p = none → Q (.ref p) (upd H p (.lst (ms.map V.int)))) : rSortAbs K [.ref a] H Q := ⟨a, ns, rfl, s, h⟩

/-! ### a tuple whose object is known -/
def Fz (H : Hp) (a : Addr) (xs : List V) : Prop := ∃ o, H a = some (.frz o (.tup xs)) ∧ o.dict = none
theorem Fz.sq {K : PySem.W.Frag} {H : Hp} {a : Addr} {xs : List V} (h : Fz H a xs) : SqT K H a xs := by
  obtain ⟨o, h, _⟩ := h
  exact .inl (.inr ⟨o, h⟩)
def rTupFz (K : PySem.W.Frag) : List V → Hp → VK → Prop := fun xs H Q => ∃ p ys, xs = [.ref p] ∧ SqL K H p ys ∧ ∀ (l : Addr) (o : Obj), H l = none → o.dict = none → Q (.ref l) (upd H l (.frz o (.tup ys)))
theorem c_tupFz {X : Cx} {K : PySem.W.Frag} (hK : X.K = K) : CallR X (.type "tuple") (rTupFz K) := by
  subst hK
  intro pins s σ H xs us Q I r h
  obtain ⟨p, ys, rfl, hq, q⟩ := h
  obtain ⟨u, rfl, rx⟩ := vals1 r
  cases rx
  obtain ⟨its, r', pl, hz⟩ := I.list hq
  have hlen := r'.length
  refine call_tuple_list pl.isList (fun h' kp => ?_) (by simp only [List.size_toArray] <;> omega)
  have I1 : Inv X pins σ H { s with heap := h' } := I.kept (t' := s.toks) kp
  have I2 : Inv X pins σ (upd H h'.objs.size (.frz { cls := .type "tuple", data := .seq its.toArray } (.tup ys))) { s with heap := h'.push { cls := .type "tuple", data := .seq its.toArray } } :=
    I1.laid (t' := s.toks) (fun b o e => Heap.get?_push_of_some _ e) (Nat.le_refl _) (show ObjOk X.prog X.w _ _ _ (.frz _ (.tup ys)) from ⟨Heap.get?_push_size _ rfl, hz, its, r', IsTup.new _ _⟩)
  exact ⟨.ref h'.objs.size, _, I2, rfl, q _ _ (I1.hok.fresh (Nat.le_refl _)) rfl⟩
theorem rd_tupFz {K : PySem.W.Frag} {H : Hp} {Q : VK} {p : Addr} {ys : List V} (s : SqL K H p ys) (h : ∀ (l : Addr) (o : Obj), H l = none → o.dict = none → Q (.ref l) (upd H l (.frz o (.tup ys)))) : rTupFz K [.ref p] H Q := ⟨p, ys, rfl, s, h⟩

/-! ### dict of such a tuple of pairs -/
def rDictFz (K : PySem.W.Frag) : List V → Hp → VK → Prop := fun xs H Q => ∃ (a : Addr) (ps : List Addr) (kvs : List (Key × V)), xs = [.ref a] ∧ Fz H a (ps.map V.ref) ∧ Paired (fun p kv => SqT K H p [kV kv.1, kv.2]) ps kvs ∧
    ∀ p, H p = none → Q (.ref p) (upd H p (.dK (mergeK [] kvs)))
theorem c_dictFz {X : Cx} {K : PySem.W.Frag} (hK : X.K = K) (hcalm : X.calm = true) : CallR X (.type "dict") (rDictFz K) := by
  subst hK
  intro pins s σ H xs us Q I r q
  obtain ⟨a, ps, kvs, ex, ⟨o, ho, hod⟩, hp, q⟩ := q
  subst ex
  obtain ⟨u, eu, rx⟩ := vals1 r
  subst eu
  cases rx
  obtain ⟨hoa, hz, its, rv, pl⟩ := I.hok a _ ho
  have ei := refs_at rv
  subst ei
  rw [List.length_map] at hz
  obtain ⟨prs, rel, hl, hpr⟩ := pairs_of I hp
  obtain ⟨o2, ho2, hc, n, hdat⟩ := pl
  rw [hoa] at ho2
  cases ho2
  have hps : (prs.map fun q => ((default : Value), q.2)).length = prs.length := List.length_map _
  have hun : ∀ (j : Nat) (q : Key × Value), prs[j]? = some q → ∃ (b : Addr) (u : Value), ps[j]? = some b ∧ IsTup s.heap b #[u, q.2] ∧ keyIs q.1 u = true := hpr
  -- the pairs as values
  have hex : ∃ pv : List (Value × Value), pv.length = prs.length ∧ ∀ (j : Nat) (k v : Value), pv[j]? = some (k, v) → ∃ b q, prs[j]? = some q ∧ q.2 = v ∧ ps[j]? = some b ∧ IsTup s.heap b #[k, v] ∧ keyIs q.1 k = true := by
    clear rel hps
    have key : ∀ (m : Nat), m ≤ prs.length → ∃ pv : List (Value × Value), pv.length = m ∧ ∀ (j : Nat) (k v : Value), pv[j]? = some (k, v) → ∃ b q, prs[j]? = some q ∧ q.2 = v ∧ ps[j]? = some b ∧ IsTup s.heap b #[k, v] ∧ keyIs q.1 k = true := by
      intro m
      induction m with
      | zero => exact fun _ => ⟨[], rfl, fun j k v e => by simp at e⟩
      | succ m ih =>
        intro hm
        obtain ⟨pv, e1, e2⟩ := ih (by omega)
        have hj : prs[m]? = some prs[m] := List.getElem?_eq_getElem (by omega)
        obtain ⟨b, u, h1, h2, h3⟩ := hun m _ hj
        refine ⟨pv ++ [(u, prs[m].2)], by rw [List.length_append, e1] <;> rfl, fun j k v e => ?_⟩
        by_cases c : j < m
        · rw [List.getElem?_append_left (by omega)] at e
          exact e2 j k v e
        · rw [List.getElem?_append_right (by omega), e1] at e
          have : j = m := by
            have := (List.getElem?_eq_some_iff.mp e).1
            rw [List.length_singleton] at this
            omega
          subst this
          rw [Nat.sub_self] at e
          cases Option.some.inj e
          exact ⟨b, prs[j], hj, rfl, h1, h2, h3⟩
    exact key _ (Nat.le_refl _)
  obtain ⟨pv, hpv, hpv2⟩ := hex
  have P := PySem.PairArg.tuple (prog := X.prog) (w := X.w) a (ps.map Value.ref).toArray (fun j => ps.getD j 0) pv
  refine PySem.call_dict_pairs (knd := mixKind X.prog X.w) (kvs := prs) P (I.ok.hd hcalm) ⟨⟨o, n, hoa, hc, hod, hdat⟩, ?_, ?_⟩ ⟨hpv.symm, ?_⟩ (by rw [hpv, hl]; exact hz) fun h' tk hd' k => ?_
  · rw [List.size_toArray, List.length_map, hpv, hl]
  · intro j k v e
    obtain ⟨b, q2, h1, h2, h3, h4, h5⟩ := hpv2 j k v e
    have e3 : ps.getD j 0 = b := by rw [List.getD_eq_getElem?_getD, h3] <;> rfl
    refine ⟨by show (ps.map Value.ref).toArray[j]? = some (Value.ref (ps.getD j 0)); rw [e3]; simp [h3], .inl ?_⟩
    show s.heap.IsTuple (ps.getD j 0) #[k, v]
    rw [e3]
    exact h4
  · intro j k v e
    obtain ⟨b, q2, h1, h2, h3, h4, h5⟩ := hpv2 j k v e
    exact ⟨q2.1, by rw [h1, ← h2], h5⟩
  · have hm : (s.heap.objs.size == sysModules) = false := beq_eq_false_iff_ne.mpr (Nat.ne_of_gt I.big)
    have hlen : (mergeK [] kvs).length ≤ sizeLine := by
      refine Nat.le_trans (length_mergeK kvs []) ?_
      rw [List.length_nil, Nat.zero_add, rel.length, hl]
      exact hz
    exact ⟨.ref s.heap.objs.size, upd H s.heap.objs.size (.dK (mergeK [] kvs)), I.laid (t' := tk) (fun b o e => k b o (fun h => nomatch h) e) (Nat.le_refl _) (show ObjOk X.prog X.w _ _ _ (.dK (mergeK [] kvs)) from ⟨hlen, hm, merged [] prs, KV.merge rel .nil, hd'⟩), rfl, q _ (I.hok.fresh (Nat.le_refl _))⟩
theorem rd_dictFz {K : PySem.W.Frag} {H : Hp} {Q : VK} {a : Addr} {ps : List Addr} {kvs : List (Key × V)} (s : Fz H a (ps.map V.ref)) (hp : Paired (fun p kv => SqT K H p [kV kv.1, kv.2]) ps kvs)
    (h : ∀ p, H p = none → Q (.ref p) (upd H p (.dK (mergeK [] kvs)))) : rDictFz K [.ref a] H Q := ⟨a, ps, kvs, rfl, s, hp, h⟩

/-! ### all -/
theorem c_all {X : Cx} {K : PySem.W.Frag} (h : X.K = K) (hc : X.calm = true) : CallR X (.builtin "all") (rAll K) := h ▸ cr_all hc
theorem c_any {X : Cx} {K : PySem.W.Frag} (h : X.K = K) (hc : X.calm = true) : CallR X (.builtin "any") (rAny K) := h ▸ cr_any hc
theorem rd_all {K : PySem.W.Frag} {H : Hp} {Q : VK} {a : Addr} {bs : List Bool} (s : SqL K H a (bs.map V.bl)) (h : Q (.bl (bs.all id)) H) : rAll K [.ref a] H Q := ⟨a, bs, rfl, s, h⟩
theorem rd_any {K : PySem.W.Frag} {H : Hp} {Q : VK} {a : Addr} {bs : List Bool} (s : SqL K H a (bs.map V.bl)) (h : Q (.bl (bs.any id)) H) : rAny K [.ref a] H Q := ⟨a, bs, rfl, s, h⟩

/-! ### repr of an int -/
def rReprI : List V → Hp → VK → Prop := fun xs H Q => ∃ i : Int, xs = [.int i] ∧ i.natAbs.log2 < 1920 ∧ Q (.str (toString i)) H
theorem c_reprI {X : Cx} : CallR X (.builtin "repr") rReprI := SkE.call_repr_int
theorem rd_reprI {i : Int} {H : Hp} {Q : VK} (h1 : i.natAbs < 10 ^ 12) (h : Q (.str (toString i)) H) : rReprI [.int i] H Q := ⟨i, rfl, log2_small h1, h⟩

/-! ### data without lists stay where tuples stay -/
mutual
def noL : PyData → Bool
  | .list _ => false
  | .dict _ => false
  | .tuple ds => noLs ds
  | _ => true
def noLs : List PyData → Bool
  | [] => true
  | d :: ds => noL d && noLs ds
end
mutual
theorem dp_mono {K : PySem.W.Frag} {H H' : Hp} (e : ∀ a xs, SqT K H a xs → SqT K H' a xs) : ∀ (d : PyData) (v : V), noL d = true → Dp K H v d → Dp K H' v d
  | .none, _, _, h => by cases h; exact .non
  | .bool b, _, _, h => by cases h; exact .bl b
  | .int i, _, _, h => by cases h; exact .int i
  | .str x, _, _, h => by cases h; exact .str x
  | .list _, _, c, _ => nomatch c
  | .tuple ds, _, c, h => by
    cases h with
    | tup hs ha => exact .tup (e _ _ hs) (dps_mono e ds _ c ha)
  | .dict _, _, c, _ => nomatch c
theorem dps_mono {K : PySem.W.Frag} {H H' : Hp} (e : ∀ a xs, SqT K H a xs → SqT K H' a xs) : ∀ (ds : List PyData) (vs : List V), noLs ds = true → DpAll K H vs ds → DpAll K H' vs ds
  | [], _, _, h => by cases h; exact .nil
  | d :: ds, _, c, h => by
    have c2 : noL d = true ∧ noLs ds = true := Bool.and_eq_true _ _ ▸ c
    cases h with
    | cons h1 h2 => exact .cons (dp_mono e d _ c2.1 h1) (dps_mono e ds _ c2.2 h2)
end
theorem noLs_all : ∀ {ds : List PyData}, (∀ d ∈ ds, noL d = true) → noLs ds = true
  | [], _ => rfl
  | d :: ds, h => by
    show (noL d && noLs ds) = true
    rw [h d List.mem_cons_self, noLs_all fun x hx => h x (List.mem_cons_of_mem _ hx)] <;> rfl

/-! ### walks over tuples of pairs -/
section
variable {K : PySem.W.Frag} {σ : L2.St} {H : Hp} {Q : VK} {tt : TT} {te : TE} {tb : TS} {D : Ends} {vs : List Nat} {j1 j2 k : Nat} {σx : V → V → L2.St} {a : Addr} {px py : Nat → V} {f : Nat → Bool} {g : Nat → V}
theorem lc_prT {xs : List V} (hk : k = 2) (hx : SqT K H a xs) (hz : xs.length ≤ 40000) (hp : ∀ i, i < xs.length → ∃ T, xs[i]? = some (.ref T) ∧ SqT K H T [px i, py i])
    (hσ : ∀ x y, ((wipe σ vs).set j1 (some x)).set j2 (some y) = σx x y) (hw : ∀ x y, wipe (σx x y) vs = wipe σ vs) (hs : ∀ i, i < xs.length → TurnP H tt te σx px py f g i)
    (hd : ∀ D H', Evl.Ex H H' → H D = none → H' D = some (.lst (((List.range xs.length).filter f).map g)) → Q (.ref D) H') : LcR (gTup K k (gCons (gName j1) (gCons (gName j2) gNil))) tt te vs σ Q (Itt K a) H := fun D hn =>
  lc_tup (xs := xs) (fun i H' => Evl.Ex H H' ∧ H' D = some (.lst (((List.range i).filter f).map g))) ⟨Evl.Ex.new hn, upd_same⟩ (fun i H' _ ⟨ex, _⟩ => Evl.ex_t ex hx) (fun i x H' hi p => by
    obtain ⟨e, ed⟩ := p
    have hil := (List.getElem?_eq_some_iff.mp hi).1
    obtain ⟨T, hT, sT⟩ := hp i hil
    rw [hT] at hi
    cases hi
    have hlen : (((List.range i).filter f).map g).length < 100000 := by
      rw [List.length_map]
      have h1 := List.length_filter_le f (List.range i)
      rw [List.length_range] at h1
      omega
    refine rd_gtup2 (x := px i) (y := py i) (Evl.ex_t e sT) hk (hσ _ _) ⟨hw _ _, hs i hil _ _ _ e (fun hf H3 e3 => ?_) fun hf H3 e3 => ?_⟩
    · refine ⟨_, e3 D _ ed, Evl.sz_lt hlen, Evl.Ex.mut (e.trans e3) hn, ?_⟩
      rw [upd_same, range_snoc, if_pos hf]
    · refine ⟨e.trans e3, ?_⟩
      rw [range_snoc, if_neg (by rw [hf]; decide), List.append_nil]
      exact e3 D _ ed) fun H' p => hd D H' p.1 hn p.2
theorem fr_tupP {xs : List V} {px py : Nat → V} (hk : k = 2) (Pv : Nat → L2.St → Hp → Prop) (h0 : Pv 0 σ H) (hl : ∀ i σ H, i ≤ xs.length → Pv i σ H → SqT K H a xs)
    (hs : ∀ i σ H, i < xs.length → Pv i σ H → ∃ T, xs[i]? = some (.ref T) ∧ SqT K H T [px i, py i] ∧ tb { D with nx := Pv (i + 1), ct := Pv (i + 1), bk := D.nx } ((σ.set j1 (some (px i))).set j2 (some (py i))) H) (hd : ∀ σ H, Pv xs.length σ H → D.nx σ H) :
    ForR (gTup K k (gCons (gName j1) (gCons (gName j2) gNil))) tb D σ (Itt K a) H := for_tup Pv h0 hl (fun i x σ H hi p => by
      obtain ⟨T, hT, sT, q⟩ := hs i σ H (List.getElem?_eq_some_iff.mp hi).1 p
      rw [hT] at hi
      cases hi
      exact rd_gtup2 sT hk rfl q) hd
/-- a comprehension over a range, nothing else being changed -/
theorem lc_fmR {lo : Int} {n j : Nat} {σx : V → L2.St} (f : Nat → Bool) (g : Nat → V) (hz : n ≤ 40000) (hσ : ∀ x, (wipe σ vs).set j (some x) = σx x) (hw : ∀ x, wipe (σx x) vs = wipe σ vs)
    (hs : ∀ i, i < n → ∀ (H' : Hp) (N : VK) (S : Hp → Prop), Evl.Ex H H' → (f i = true → ∀ H3, Evl.Ex H' H3 → N (g i) H3) → (f i = false → ∀ H3, Evl.Ex H' H3 → S H3) →
      tt (σx (.int (lo + i))) H' fun b H2 => if b = true then te (σx (.int (lo + i))) H2 N else S H2)
    (hd : ∀ D H', Evl.Ex H H' → H D = none → H' D = some (.lst (((List.range n).filter f).map g)) → Q (.ref D) H') : LcR (gName j) tt te vs σ Q (Itr lo n) H := fun D hn =>
  lc_range (fun i H' => Evl.Ex H H' ∧ H' D = some (.lst (((List.range i).filter f).map g))) ⟨Evl.Ex.new hn, upd_same⟩ (fun i H' hi p => by
    obtain ⟨e, ed⟩ := p
    have hlen : (((List.range i).filter f).map g).length < 100000 := by
      rw [List.length_map]
      have h1 := List.length_filter_le f (List.range i)
      rw [List.length_range] at h1
      omega
    rw [show gName j (.int (lo + i)) (wipe σ vs) H' = fun N => N (σx (.int (lo + i))) H' from funext fun N => by rw [← hσ (.int (lo + i))] <;> rfl]
    refine ⟨hw _, hs i hi _ _ _ e (fun hf H3 e3 => ?_) fun hf H3 e3 => ?_⟩
    · refine ⟨_, e3 D _ ed, Evl.sz_lt hlen, Evl.Ex.mut (e.trans e3) hn, ?_⟩
      rw [upd_same, range_snoc, if_pos hf]
    · refine ⟨e.trans e3, ?_⟩
      rw [range_snoc, if_neg (by rw [hf]; decide), List.append_nil]
      exact e3 D _ ed) fun H' p => hd D H' p.1 hn p.2
end
end Ea
set_option Elab.async false
set_option linter.all false
set_option maxRecDepth 100000
set_option maxHeartbeats 400000
namespace KA
open PySem PySem.Spec PyProof.Rows L2 Ea
def topS (i : Nat) : Stmt := PySem.Challenge.pw_eachsome_k46_whole_plain_answers_along_p.main.body.getD i (.Pass ⟨0, 0, 0, 0⟩)
abbrev s_law_draw : Stmt := topS 4
theorem sc_law_draw : FnScope ["bag", "many", "cell", "found", "turn"] ["bag", "many"] (defScope s_law_draw) :=
  ⟨rfl, rfl, rfl, by decide +kernel, rfl, by decide +kernel, by decide +kernel⟩
abbrev s_law_pick : Stmt := topS 5
theorem sc_law_pick : FnScope ["bag", "row"] ["bag", "row"] (defScope s_law_pick) :=
  ⟨rfl, rfl, rfl, by decide +kernel, rfl, by decide +kernel, by decide +kernel⟩
abbrev s_law_mixed : Stmt := topS 6
theorem sc_law_mixed : FnScope ["bag", "row", "left", "found"] ["bag", "row"] (defScope s_law_mixed) :=
  ⟨rfl, rfl, rfl, by decide +kernel, rfl, by decide +kernel, by decide +kernel⟩
abbrev s_law_bag : Stmt := topS 3
theorem sc_law_bag : FnScope ["script", "cell", "cells", "stirred"] ["script"] (defScope s_law_bag) :=
  ⟨rfl, rfl, rfl, by decide +kernel, rfl, by decide +kernel, by decide +kernel⟩
local macro_rules | `(tactic| walk_at "rd") => `(tactic| first
  | (with_reducible refine rd_seq ?_) | (with_reducible refine rd_asg ?_) | (with_reducible refine rd_if ?_) | (with_reducible refine rd_ret ?_) | (with_reducible refine rd_next ?_)
  | (with_reducible refine rd_drop ?_) | ((with_reducible refine rd_name (σ' := ?ss) ?hs ?_); (case hs => (dsimp only [List.set]; exact rfl)))
  | ((with_reducible refine rd_var (v := ?vv) ?hv ?_); (case hv => exact rfl)) | (with_reducible refine rd_c ?_) | (with_reducible refine rd_op ?_) | (with_reducible refine rd_un ?_)
  | (with_reducible refine rd_I0 ?_) | (with_reducible refine rd_U ?_) | (with_reducible refine rd_test ?_) | (with_reducible refine rd_B ?_) | (with_reducible refine rd_k ?_)
  | (with_reducible refine rd_not ?_) | (with_reducible refine rd_and ?_) | (with_reducible refine rd_or ?_) | (with_reducible refine rd_ifE ?_)
  | (with_reducible refine rd_par ?_) | ((with_reducible refine rd_par2 (σ' := ?ss) ?hs ?_); (case hs => (dsimp only [List.set]; exact rfl)))
  | (with_reducible refine rd_gsub ?_) | (with_reducible refine rd_andV ?_) | (with_reducible refine rd_orV ?_) | (with_reducible refine rd_notV ?_)
  | (with_reducible refine rd_lc ?_) | (with_reducible refine rd_iTup ?_) | (with_reducible refine rd_iList ?_) | (with_reducible refine rd_iRng1 ?_)
  | (with_reducible refine rd_yes ?_) | (with_reducible refine rd_true ?_) | (with_reducible refine rd_false ?_) | (with_reducible refine rd_m1 ?_) | (with_reducible refine rd_isS ?_)
  | ((with_reducible refine rd_eq ?hs ?_); (case hs => exact rfl)) | ((with_reducible refine rd_ne ?hs ?_); (case hs => exact rfl))
  | (with_reducible refine rd_listRg ?_) | (with_reducible refine rd_rg2 ?_) | (with_reducible refine rd_rgk ?_)
  | (with_reducible refine rd_dnew ?_) | (with_reducible refine rd_ddel ?_) | (with_reducible refine rd_kw ?_) | (with_reducible refine rd_callS ?_) | (with_reducible refine rd_dc ?_) | (with_reducible refine rd_for ?_) | (with_reducible refine rd_tru ?_) | (with_reducible refine rd_truI ?_)
  | (with_reducible refine rd_nil ?_) | (with_reducible refine rd_cons ?_) | (with_reducible refine rd_call ?_) | (with_reducible refine rd_cb ?_)
  | (with_reducible refine rd_tup ?_) | (with_reducible refine rd_lst ?_) | (with_reducible refine rd_dget ?_) | (with_reducible refine rd_dput ?_) | (with_reducible refine rd_sl ?_)
  | (with_reducible refine rd_nopart ?_) | (with_reducible refine rd_part ?_) | (with_reducible refine rd_parti ?_) | (with_reducible refine rd_bm ?_) | (with_reducible refine rd_bm0 ?_)
  | (with_reducible refine rd_int ?_) | (with_reducible refine rd_intb ?_) | (with_reducible refine rd_abs ?_) | (with_reducible refine rd_min2 ?_) | (with_reducible refine rd_max2 ?_))
local macro_rules | `(tactic| walk_at "rds") => `(tactic| repeat (walk_at "rd"))
local macro_rules | `(tactic| walk_at "rq") => `(tactic| first
  | (with_reducible refine rd_seq ?_) | (with_reducible refine rd_asg ?_) | (with_reducible refine rd_ret ?_) | (with_reducible refine rd_next ?_)
  | (with_reducible refine rd_drop ?_) | ((with_reducible refine rd_name (σ' := ?ss) ?hs ?_); (case hs => (dsimp only [List.set]; exact rfl)))
  | ((with_reducible refine rd_var (v := ?vv) ?hv ?_); (case hv => exact rfl)) | (with_reducible refine rd_c ?_) | (with_reducible refine rd_op ?_) | (with_reducible refine rd_un ?_)
  | (with_reducible refine rd_I0 ?_) | (with_reducible refine rd_U ?_) | (with_reducible refine rd_test ?_) | (with_reducible refine rd_B ?_) | (with_reducible refine rd_k ?_)
  | (with_reducible refine rd_not ?_) | (with_reducible refine rd_and ?_) | (with_reducible refine rd_or ?_) | (with_reducible refine rd_ifE ?_)
  | (with_reducible refine rd_par ?_) | ((with_reducible refine rd_par2 (σ' := ?ss) ?hs ?_); (case hs => (dsimp only [List.set]; exact rfl)))
  | (with_reducible refine rd_gsub ?_) | (with_reducible refine rd_andV ?_) | (with_reducible refine rd_orV ?_) | (with_reducible refine rd_notV ?_)
  | (with_reducible refine rd_lc ?_) | (with_reducible refine rd_iTup ?_) | (with_reducible refine rd_iList ?_) | (with_reducible refine rd_iRng1 ?_)
  | (with_reducible refine rd_yes ?_) | (with_reducible refine rd_true ?_) | (with_reducible refine rd_false ?_) | (with_reducible refine rd_m1 ?_) | (with_reducible refine rd_isS ?_)
  | ((with_reducible refine rd_eq ?hs ?_); (case hs => exact rfl)) | ((with_reducible refine rd_ne ?hs ?_); (case hs => exact rfl))
  | (with_reducible refine rd_listRg ?_) | (with_reducible refine rd_rg2 ?_) | (with_reducible refine rd_rgk ?_)
  | (with_reducible refine rd_dnew ?_) | (with_reducible refine rd_ddel ?_) | (with_reducible refine rd_kw ?_) | (with_reducible refine rd_callS ?_) | (with_reducible refine rd_dc ?_) | (with_reducible refine rd_for ?_) | (with_reducible refine rd_tru ?_) | (with_reducible refine rd_truI ?_)
  | (with_reducible refine rd_nil ?_) | (with_reducible refine rd_cons ?_) | (with_reducible refine rd_call ?_) | (with_reducible refine rd_cb ?_)
  | (with_reducible refine rd_tup ?_) | (with_reducible refine rd_lst ?_) | (with_reducible refine rd_dget ?_) | (with_reducible refine rd_dput ?_) | (with_reducible refine rd_sl ?_)
  | (with_reducible refine rd_nopart ?_) | (with_reducible refine rd_part ?_) | (with_reducible refine rd_parti ?_) | (with_reducible refine rd_bm ?_) | (with_reducible refine rd_bm0 ?_)
  | (with_reducible refine rd_int ?_) | (with_reducible refine rd_intb ?_) | (with_reducible refine rd_abs ?_) | (with_reducible refine rd_min2 ?_) | (with_reducible refine rd_max2 ?_))
local macro_rules | `(tactic| walk_at "rqs") => `(tactic| repeat (walk_at "rq"))

/-- the names of the built-ins that the text does not bind -/
structure Bl (mg : Str → Option Value) : Prop where
  len : mg "len" = none
  abs : mg "abs" = none
  min : mg "min" = none
  max : mg "max" = none
  sorted : mg "sorted" = none
  tuple : mg "tuple" = none
  list : mg "list" = none
  set : mg "set" = none
  int : mg "int" = none
  range : mg "range" = none
  repr : mg "repr" = none
  isinstance : mg "isinstance" = none
  enumerate : mg "enumerate" = none
  zip : mg "zip" = none
  sum : mg "sum" = none
  all : mg "all" = none
  any : mg "any" = none
  dict : mg "dict" = none
/-- how a def stands among the module's names -/
structure Callee (K : PySem.W.Frag) (mg : Str → Option Value) (x : Str) (f : Addr) (fd : FuncData) (ps : List Str) : Prop where
  m : mg x = some (.ref f)
  k : PySem.W.keepIn K (.ref f) = true
  b : Binds K fd ps []
theorem SetFor_erase {as : List Int} {k : Nat} : (some (HO.lst ((as.map V.int).eraseIdx k)) : Option HO) = some (.lst ((as.eraseIdx k).map V.int)) := by
  rw [erase_mapI]
theorem erase_perm {as : List Int} {k : Nat} (h : k < as.length) : as.Perm (as[k] :: as.eraseIdx k) := by
  induction as generalizing k with
  | nil => cases h
  | cons x r ih =>
    cases k with
    | zero => exact List.Perm.refl _
    | succ k =>
      have h' : k < r.length := Nat.lt_of_succ_lt_succ h
      exact ((ih h').cons x).trans (List.Perm.swap _ _ _)
theorem perm_move (as bs : List Int) (x : Int) : (as ++ (bs ++ [x])).Perm ((x :: as) ++ bs) := by
  rw [← List.append_assoc]
  exact (List.perm_append_singleton x (as ++ bs)).trans (List.Perm.refl _)
section
variable {K : PySem.W.Frag} {H : Hp} {Q : VK} {d l : Addr} {m c k : Int} {xs : List V} {y : V} {i : Int}
theorem dk0 (h : H d = some (.lst [.ref l, .int m, .int c])) (q : Q (.ref l) H) : rIxL K (.ref d) (.int 0) H Q := rd_ixL (SqL.of h) rfl q
theorem dk1 (h : H d = some (.lst [.ref l, .int m, .int c])) (q : Q (.int m) H) : rIxL K (.ref d) (.int 1) H Q := rd_ixL (SqL.of h) rfl q
theorem dk2 (h : H d = some (.lst [.ref l, .int m, .int c])) (q : Q (.int c) H) : rIxL K (.ref d) (.int 2) H Q := rd_ixL (SqL.of h) rfl q
theorem dk_set2 {N : Hp → Prop} (h : H d = some (.lst [.ref l, .int m, .int c])) (q : N (upd H d (.lst [.ref l, .int m, .int k]))) : rSetL (.ref d) (.int 2) (.int k) H N := ⟨d, _, 2, 2, rfl, rfl, h, rfl, q⟩
theorem rd_listE {p : Addr} {ys : List V} (s : SqL K H p ys ∨ SqT K H p ys) (h : ∀ l, H l = none → Q (.ref l) (upd H l (.lst ys))) : rListOf K [.ref p] H Q := s.elim (fun s => rd_listL s h) fun s => rd_listT s h
end
section
variable {P : Program} {w : World} {K : PySem.W.Frag} {mg : Str → Option Value} {base : Heap}
def spDraw : Sp := fun vs H Q _ => ∃ (d l : Addr) (many : Int), vs = [.ref d, .int many] ∧ DeckL d l H ∧ 1 ≤ many ∧ many ≤ 1000000 ∧
  ∀ (r : Int) (H' : Hp), Gl d l H H' → 0 ≤ r → r < many → Q (.int r) H'
theorem ok_draw {f : Addr} {fd : FuncData} (F : Fun K "_law_draw" "_law_draw" s_law_draw f fd) (T : Bl mg) : FnOk P w K mg base CX0 1 f fd ["bag", "many"] spDraw := by
  refine F.ok sc_law_draw (fun vs H Q E h => ?_) (fun cdv A outer s H vs Q E hr h => ?_)
  · obtain ⟨d, l, many, rfl, _⟩ := h
    rfl
  · obtain ⟨d, l, many, rfl, hD, h1, h2, q⟩ := h
    refine ⟨_, (pss_cons (ps_if (PW.pt (pw_and (pt_cmpR (ok_neD (K := K) rfl hr.units) (pe_ix (ik_list (K := K) rfl) (pv 0) pe_int (fun _ _ => rfl)) (pe_lst pa_nil) (nomark _)) (pw_and1 (pt_cmpR op_gt (pv 1) pe_int (nomark _))))) (pss_cons (ps_set (i := 2) sc_law_draw.nd rfl (Or.inl rfl) (pe_bm PySem.F.plainAttrs_list PySem.F.slot_list_pop PySem.F.type_list_pop mt_popAt (pe_ix (ik_list (K := K) rfl) (pv 0) pe_int (fun _ _ => rfl)) (pa_cons pe_int pa_nil)))
 (pss_cons (ps_if (pt_cmpR op_ge (pv 2) (pv 1) (nomark _)) (pss_one (ps_expr (pe_bm PySem.F.plainAttrs_list PySem.F.slot_list_insert PySem.F.type_list_insert mt_insert (pe_ix (ik_list (K := K) rfl) (pv 0) pe_int (fun _ _ => rfl)) (pa_cons pe_int (pa_cons (pe_op op_fdiv (pv 2) (pv 1)) pa_nil))))) pss_nil)
 (pss_one (ps_ret (pe_op op_mod (pe_callTy c_int (by rfl) T.int (by decide +kernel) (pa_cons (pv 2) pa_nil)) (pv 1)))))) pss_nil)
 (pss_cons (ps_asg (pe_op op_add (pe_ix (ik_list (K := K) rfl) (pv 0) pe_int (fun _ _ => rfl)) pe_int) (pg_sub (pv 0) pe_int set_list))
 (pss_cons (ps_set (i := 3) sc_law_draw.nd rfl (Or.inl rfl) (pe_op op_mod (pe_callTy c_int (by rfl) T.int (by decide +kernel) (pa_cons (pe_op op_add (pe_ix (ik_list (K := K) rfl) (pv 0) pe_int (fun _ _ => rfl)) (pe_op op_mul pe_int (pe_ix (ik_list (K := K) rfl) (pv 0) pe_int (fun _ _ => rfl)))) pa_nil)) pe_int))
 (pss_cons (ps_for PassesOwn.never rfl (pi_range1 (by rfl) T.range (pa_cons pe_int pa_nil)) (pg_name (i := 4) sc_law_draw.nd rfl (Or.inl rfl)) (pss_one (ps_set (i := 3) sc_law_draw.nd rfl (Or.inl rfl) (pe_op op_mod (pe_callTy c_int (by rfl) T.int (by decide +kernel) (pa_cons (pe_op op_add (pe_op op_add (pe_op op_add (pe_op op_mul (pv 3) (pv 3)) (pe_op op_mul pe_int (pe_ix (ik_list (K := K) rfl) (pv 0) pe_int (fun _ _ => rfl)))) pe_int) (pv 4)) pa_nil)) pe_int))))
 (pss_one (ps_ret (pe_op op_mod (pe_callTy c_int (by rfl) T.int (by decide +kernel) (pa_cons (pe_op op_fdiv (pv 3) pe_int) pa_nil)) (pv 1)))))))), ?_⟩
    refine rd_start (σ' := [some (.ref d), some (.int many), none, none, none]) rfl ?_
    obtain ⟨ns, m, c, e1, e2, hl, hp, s0, s1⟩ := id hD
    have hdl := hD.ne
    walk_at "rds"
    refine dk0 e1 ?_
    walk_at "rds"
    refine ⟨Nat.zero_le _, fun p hp0 => ?_⟩
    obtain ⟨n1, n2⟩ := hD.off hp0
    have f1 : (upd H p (.lst [])) d = _ := (upd_ne n1.symm).trans e1
    have f2 : (upd H p (.lst [])) l = _ := (upd_ne n2.symm).trans e2
    refine rd_full (SqL.of f2) (dp_ints ns) (shaped_ints ns) (SqL.of upd_same) ?_
    walk_at "rds"
    refine rd_iteb (fun c2 => ?_) (fun c2 => ?_)
    · walk_at "rds"
      refine rd_ite (fun c3 => ?_) (fun c3 => ?_)
      · obtain ⟨z, r, rfl⟩ : ∃ z r, ns = z :: r := by
          cases ns with
          | nil => cases c2
          | cons z r => exact ⟨z, r, rfl⟩
        have z0 : 0 ≤ z := hp z List.mem_cons_self
        have hr0 : ∀ n ∈ r, 0 ≤ n := fun n hn => hp n (List.mem_cons_of_mem _ hn)
        have hrl : r.length + 1 ≤ 63 := hl
        walk_at "rds"
        refine dk0 f1 (rd_tyL f2 ?_)
        walk_at "rds"
        refine rd_popAt (k := 0) f2 rfl rfl (by rw [List.length_map]; show r.length + 1 ≤ _; omega) ?_
        have g1 : (upd (upd H p (.lst [])) l (.lst (((z :: r).map V.int).eraseIdx 0))) d = _ := (upd_ne hdl).trans f1
        have g2 : (upd (upd H p (.lst [])) l (.lst (((z :: r).map V.int).eraseIdx 0))) l = some (.lst (r.map V.int)) := upd_same
        walk_at "rds"
        refine rd_ite (fun c4 => ?_) (fun c4 => ?_)
        · walk_at "rds"
          refine dk0 g1 (rd_tyL g2 ?_)
          walk_at "rds"
          refine rd_I ⟨by omega, by omega⟩ ?_
          walk_at "rds"
          refine ⟨l, _, 0, _, rfl, rfl, g2, Evl.sz_lt (by rw [List.length_map]; omega), Int.le_refl _, by decide, ?_⟩
          walk_at "rds"
          refine rd_I (by omega) ?_
          have hq : 0 ≤ z / many := Int.ediv_nonneg z0 (by omega)
          refine q (z % many) _ ⟨⟨z / many :: r, m, c, (upd_ne hdl).trans g1, upd_same, hrl, fun n hn => ?_, s0, s1⟩, fun a o m1 m2 e => ?_⟩ (Int.emod_nonneg _ (by omega)) (Int.emod_lt_of_pos _ (by omega))
          · rcases List.mem_cons.mp hn with rfl | h
            · exact hq
            · exact hr0 n h
          · rw [upd_ne m2, upd_ne m2, upd_ne (ne_of_none e hp0)]
            exact e
        · walk_at "rds"
          refine rd_I (by omega) ?_
          refine q (z % many) _ ⟨⟨r, m, c, g1, g2, by omega, hr0, s0, s1⟩, fun a o m1 m2 e => ?_⟩ (Int.emod_nonneg _ (by omega)) (Int.emod_lt_of_pos _ (by omega))
          rw [upd_ne m2, upd_ne (ne_of_none e hp0)]
          exact e
      · walk_at "rds"
        refine dk2 f1 ?_
        walk_at "rds"
        refine dk_set2 f1 ?_
        have k1 : ∀ {k : Int}, (upd (upd H p (.lst [])) d (.lst [.ref l, .int m, .int k])) d = _ := fun {k} => upd_same
        have k2 : ∀ {k : Int}, (upd (upd H p (.lst [])) d (.lst [.ref l, .int m, .int k])) l = _ := fun {k} => (upd_ne hdl.symm).trans f2
        walk_at "rds"
        refine dk1 k1 ?_
        walk_at "rds"
        refine dk2 k1 ?_
        walk_at "rds"
        refine rd_I (.inl ⟨by decide, by decide⟩) ?_
        walk_at "rds"
        refine rd_I (by decide) ?_
        walk_at "rds"
        refine rd_rng1 (by decide) (by decide) ?_
        refine fr_range (lo := 0) (n := 2) (fun i σ' H' => ∃ (x : Int) (y : Option V), σ' = [some (.ref d), some (.int many), none, some (.int x), y] ∧ H' = upd (upd H p (.lst [])) d (.lst [.ref l, .int m, .int (c + 1)]) ∧ 0 ≤ x ∧ x < 4294967296) ⟨_, _, rfl, rfl, Int.emod_nonneg _ (by decide), by omega⟩ (fun i σ' H' hi hP => ?_) fun σ' H' hP => ?_
        · obtain ⟨x, y, rfl, rfl, x0, x1⟩ := hP
          refine rd_start (σ' := [some (.ref d), some (.int many), none, some (.int x), some (.int (0 + (i : Int)))]) rfl ?_
          walk_at "rds"
          refine rd_I (.inl ⟨by omega, by omega⟩) ?_
          walk_at "rds"
          refine dk2 k1 ?_
          walk_at "rds"
          refine rd_I (.inl ⟨by decide, by decide⟩) ?_
          walk_at "rds"
          refine rd_I (by decide) ?_
          walk_at "rds"
          exact ⟨_, _, rfl, rfl, Int.emod_nonneg _ (by decide), by omega⟩
        · obtain ⟨x, y, rfl, rfl, x0, x1⟩ := hP
          walk_at "rds"
          refine rd_I ⟨by decide, by decide⟩ ?_
          walk_at "rds"
          refine rd_I (by omega) ?_
          refine q _ _ ⟨⟨ns, m, c + 1, k1, k2, hl, hp, s0, s1⟩, fun a o m1 m2 e => ?_⟩ (Int.emod_nonneg _ (by omega)) (Int.emod_lt_of_pos _ (by omega))
          rw [upd_ne m1, upd_ne (ne_of_none e hp0)]
          exact e
    · walk_at "rds"
      refine dk2 f1 ?_
      walk_at "rds"
      refine dk_set2 f1 ?_
      have k1 : ∀ {k : Int}, (upd (upd H p (.lst [])) d (.lst [.ref l, .int m, .int k])) d = _ := fun {k} => upd_same
      have k2 : ∀ {k : Int}, (upd (upd H p (.lst [])) d (.lst [.ref l, .int m, .int k])) l = _ := fun {k} => (upd_ne hdl.symm).trans f2
      walk_at "rds"
      refine dk1 k1 ?_
      walk_at "rds"
      refine dk2 k1 ?_
      walk_at "rds"
      refine rd_I (.inl ⟨by decide, by decide⟩) ?_
      walk_at "rds"
      refine rd_I (by decide) ?_
      walk_at "rds"
      refine rd_rng1 (by decide) (by decide) ?_
      refine fr_range (lo := 0) (n := 2) (fun i σ' H' => ∃ (x : Int) (y : Option V), σ' = [some (.ref d), some (.int many), none, some (.int x), y] ∧ H' = upd (upd H p (.lst [])) d (.lst [.ref l, .int m, .int (c + 1)]) ∧ 0 ≤ x ∧ x < 4294967296) ⟨_, _, rfl, rfl, Int.emod_nonneg _ (by decide), by omega⟩ (fun i σ' H' hi hP => ?_) fun σ' H' hP => ?_
      · obtain ⟨x, y, rfl, rfl, x0, x1⟩ := hP
        refine rd_start (σ' := [some (.ref d), some (.int many), none, some (.int x), some (.int (0 + (i : Int)))]) rfl ?_
        walk_at "rds"
        refine rd_I (.inl ⟨by omega, by omega⟩) ?_
        walk_at "rds"
        refine dk2 k1 ?_
        walk_at "rds"
        refine rd_I (.inl ⟨by decide, by decide⟩) ?_
        walk_at "rds"
        refine rd_I (by decide) ?_
        walk_at "rds"
        exact ⟨_, _, rfl, rfl, Int.emod_nonneg _ (by decide), by omega⟩
      · obtain ⟨x, y, rfl, rfl, x0, x1⟩ := hP
        walk_at "rds"
        refine rd_I ⟨by decide, by decide⟩ ?_
        walk_at "rds"
        refine rd_I (by omega) ?_
        refine q _ _ ⟨⟨ns, m, c + 1, k1, k2, hl, hp, s0, s1⟩, fun a o m1 m2 e => ?_⟩ (Int.emod_nonneg _ (by omega)) (Int.emod_lt_of_pos _ (by omega))
        rw [upd_ne m1, upd_ne (ne_of_none e hp0)]
        exact e
def spPick : Sp := fun vs H Q _ => ∃ (d l p : Addr) (ys : List V), vs = [.ref d, .ref p] ∧ DeckL d l H ∧ H p = some (.lst ys) ∧ p ≠ d ∧ p ≠ l ∧ 1 ≤ ys.length ∧ ys.length ≤ 1000 ∧
  ∀ (y : V) (H' : Hp), Gl d l H H' → y ∈ ys → Q y H'
theorem ok_pick {f fD : Addr} {fd fdD : FuncData} (F : Fun K "_law_pick" "_law_pick" s_law_pick f fd) (T : Bl mg)
    (G_law_draw : FnOk P w K mg base CX0 1 fD fdD ["bag", "many"] spDraw) (C_law_draw : Callee K mg "_law_draw" fD fdD ["bag", "many"]) :
    FnOk P w K mg base CX0 2 f fd ["bag", "row"] spPick := by
  refine F.ok sc_law_pick (fun vs H Q E h => ?_) (fun cdv A outer s H vs Q E hr h => ?_)
  · obtain ⟨d, l, p, ys, rfl, _⟩ := h
    rfl
  · obtain ⟨d, l, p, ys, rfl, hD, hp, n1, n2, h1, h2, q⟩ := h
    refine ⟨_, (pss_one (ps_ret (pe_ix (ik_list (K := K) rfl) (pv 1) (pe_call G_law_draw (hr.mono (by decide)) (by rfl) C_law_draw.m C_law_draw.k C_law_draw.b .nil pass0 (pa_cons (pv 0) (pa_cons (pe_callB (c_len (K := K) rfl) (by rfl) T.len (by decide +kernel) (pa_cons (pv 1) pa_nil)) pa_nil))) (fun _ _ => rfl)))), ?_⟩
    refine rd_start (σ' := [some (.ref d), some (.ref p)]) rfl ?_
    walk_at "rds"
    refine rd_lenL (SqL.of hp) ?_
    walk_at "rds"
    refine ⟨d, l, _, rfl, hD, by omega, by omega, fun r H1 g r0 r1 => ?_⟩
    have hr1 : r.toNat < ys.length := by omega
    refine rd_ixL (SqL.of (g.kp p _ n1 n2 hp)) (at_nat (k := r.toNat) (by omega) (List.getElem?_eq_getElem hr1)) ?_
    exact q _ _ g (List.getElem_mem hr1)

def spMixed (K : PySem.W.Frag) : Sp := fun vs H Q _ => ∃ (d l p : Addr) (ns : List Int), vs = [.ref d, .ref p] ∧ DeckL d l H ∧ (SqL K H p (ns.map V.int) ∨ SqT K H p (ns.map V.int)) ∧ ns.length ≤ 1000 ∧
  ∀ (q : Addr) (ms : List Int) (H' : Hp), Gl d l H H' → H q = none → H' q = some (.lst (ms.map V.int)) → ms.Perm ns → Q (.ref q) H'
theorem ok_mixed {f fD : Addr} {fd fdD : FuncData} (F : Fun K "_law_mixed" "_law_mixed" s_law_mixed f fd) (T : Bl mg)
    (G_law_draw : FnOk P w K mg base CX0 1 fD fdD ["bag", "many"] spDraw) (C_law_draw : Callee K mg "_law_draw" fD fdD ["bag", "many"]) :
    FnOk P w K mg base CX0 2 f fd ["bag", "row"] (spMixed K) := by
  refine F.ok sc_law_mixed (fun vs H Q E h => ?_) (fun cdv A outer s H vs Q E hr h => ?_)
  · obtain ⟨d, l, p, ys, rfl, _⟩ := h
    rfl
  · obtain ⟨d, l, p, ns, rfl, hD, hp, h2, q⟩ := h
    refine ⟨_, (pss_cons (ps_par (i := 2) (j := 3) rfl sc_law_mixed.nd rfl rfl (by decide) rfl rfl (pa_cons (pe_callTy (c_list (K := K) rfl) (by rfl) T.list (by decide +kernel) (pa_cons (pv 1) pa_nil)) (pa_cons (pe_lst pa_nil) pa_nil)) (by rfl))
 (pss_cons (ps_while PassesOwn.never (pt_cmpR (ok_neD (K := K) rfl hr.units) (pv 2) (pe_lst pa_nil) (nomark _)) (pss_one (ps_expr (pe_bm PySem.F.plainAttrs_list PySem.F.slot_list_append PySem.F.type_list_append mt_append (pv 3) (pa_cons (pe_bm PySem.F.plainAttrs_list PySem.F.slot_list_pop PySem.F.type_list_pop mt_popAt (pv 2) (pa_cons (pe_call G_law_draw (hr.mono (by decide)) (by rfl) C_law_draw.m C_law_draw.k C_law_draw.b .nil pass0 (pa_cons (pv 0) (pa_cons (pe_callB (c_len (K := K) rfl) (by rfl) T.len (by decide +kernel) (pa_cons (pv 2) pa_nil)) pa_nil))) pa_nil)) pa_nil)))))
 (pss_one (ps_ret (pv 3))))), ?_⟩
    refine rd_start (σ' := [some (.ref d), some (.ref p), none, none]) rfl ?_
    walk_at "rds"
    refine rd_listE hp fun a na => ?_
    have g1 : Gl d l H (upd H a (.lst (ns.map V.int))) := Gl.new hD na
    walk_at "rds"
    refine ⟨Nat.zero_le _, fun b nb => ?_⟩
    have nab : a ≠ b := fun e => by
      rw [e, upd_same] at nb
      cases nb
    have nb0 : H b = none := g1.back hD nb
    walk_at "rds"
    refine rd_whileE ⟨fun m σ' H' => ∃ as bs : List Int, σ' = [some (.ref d), some (.ref p), some (.ref a), some (.ref b)] ∧ Gl d l H H' ∧
      H' a = some (.lst (as.map V.int)) ∧ H' b = some (.lst (bs.map V.int)) ∧ as.length = m ∧ (as ++ bs).Perm ns,
      ⟨ns.length, ns, [], rfl, g1.trans (Gl.new g1.dk nb), (upd_ne nab).trans upd_same, upd_same, rfl, by rw [List.append_nil]⟩, fun m σ' H' hW => ?_⟩
    obtain ⟨as, bs, rfl, g, ea, eb, rfl, pm⟩ := hW
    have hlen : as.length + bs.length = ns.length := by
      rw [← List.length_append]
      exact pm.length_eq
    obtain ⟨ad, al⟩ := hD.off na
    obtain ⟨bd, bl⟩ := hD.off nb0
    walk_at "rds"
    refine ⟨Nat.zero_le _, fun c nc => ?_⟩
    have cx : ∀ {o}, Gl d l H' (upd H' c o) := Gl.new g.dk nc
    have ea1 : (upd H' c (.lst [])) a = _ := (upd_ne (ne_of_none ea nc)).trans ea
    have eb1 : (upd H' c (.lst [])) b = _ := (upd_ne (ne_of_none eb nc)).trans eb
    refine rd_full (SqL.of ea1) (dp_ints as) (shaped_ints as) (SqL.of upd_same) ?_
    walk_at "rds"
    refine rd_iteb (fun c2 => ?_) (fun c2 => ?_)
    · refine ⟨fun σ2 H2 => ∃ (as2 bs2 : List Int), σ2 = [some (.ref d), some (.ref p), some (.ref a), some (.ref b)] ∧ Gl d l H H2 ∧
        H2 a = some (.lst (as2.map V.int)) ∧ H2 b = some (.lst (bs2.map V.int)) ∧ as2.length + 1 = as.length ∧ (as2 ++ bs2).Perm ns, fun σ2 H2 h => ?_, ?_⟩
      · obtain ⟨as2, bs2, e1, e2, e3, e4, e5, e6⟩ := h
        exact ⟨as2.length, by omega, as2, bs2, e1, e2, e3, e4, rfl, e6⟩
      · walk_at "rds"
        refine rd_tyL eb1 ?_
        walk_at "rds"
        refine rd_tyL ea1 ?_
        walk_at "rds"
        refine rd_lenL (SqL.of ea1) ?_
        walk_at "rds"
        have hpos : 1 ≤ as.length := by
          cases as with
          | nil => cases c2
          | cons x r => exact Nat.succ_le_succ (Nat.zero_le _)
        refine ⟨d, l, _, rfl, cx.dk, by rw [List.length_map]; omega, by rw [List.length_map]; omega, fun r H1 g2 r0 r1 => ?_⟩
        rw [List.length_map] at r1
        have hr1 : r.toNat < as.length := by omega
        have ea2 : H1 a = _ := g2.kp a _ ad al ea1
        have eb2 : H1 b = _ := g2.kp b _ bd bl eb1
        walk_at "rds"
        refine rd_popAt (i := r) (k := r.toNat) (y := .int as[r.toNat]) ea2 (by omega) (by rw [List.getElem?_map, List.getElem?_eq_getElem hr1]; rfl) (by rw [List.length_map]; omega) ?_
        walk_at "rds"
        have nba : b ≠ a := nab.symm
        refine rd_append ((upd_ne nba).trans eb2) (by rw [List.length_map]; omega) ?_
        walk_at "rds"
        refine ⟨as.eraseIdx r.toNat, bs ++ [as[r.toNat]], rfl, ?_, ?_, ?_, ?_, ?_⟩
        · exact Gl.mut (Gl.mut (g.trans (cx.trans g2)) hD na) hD nb0
        · rw [upd_ne nab, upd_same, SetFor_erase]
        · rw [upd_same, List.map_append] <;> rfl
        · rw [List.length_eraseIdx_of_lt hr1]
          omega
        · refine List.Perm.trans ?_ pm
          have e : as.Perm (as[r.toNat] :: as.eraseIdx r.toNat) := erase_perm hr1
          exact (perm_move _ _ _).trans (e.symm.append_right bs)
    · have e0 : as = [] := by
        cases as with
        | nil => rfl
        | cons x r => cases c2
      subst e0
      walk_at "rds"
      exact q b bs _ (g.trans cx) nb0 eb1 pm
end
end KA
set_option Elab.async false
set_option linter.all false
set_option maxRecDepth 100000
set_option maxHeartbeats 400000
namespace KA
open PySem PySem.Spec PyProof.Rows L2 Ea
abbrev s_law_owners : Stmt := topS 7
theorem sc_law_owners : FnScope ["bag", "n", "way", "cut", "k"] ["bag", "n"] (defScope s_law_owners) :=
  ⟨rfl, rfl, rfl, by decide +kernel, rfl, by decide +kernel, by decide +kernel⟩
local macro_rules | `(tactic| walk_at "rd") => `(tactic| first
  | (with_reducible refine rd_seq ?_) | (with_reducible refine rd_asg ?_) | (with_reducible refine rd_if ?_) | (with_reducible refine rd_ret ?_) | (with_reducible refine rd_next ?_)
  | (with_reducible refine rd_drop ?_) | ((with_reducible refine rd_name (σ' := ?ss) ?hs ?_); (case hs => (dsimp only [List.set]; exact rfl)))
  | ((with_reducible refine rd_var (v := ?vv) ?hv ?_); (case hv => exact rfl)) | (with_reducible refine rd_c ?_) | (with_reducible refine rd_op ?_) | (with_reducible refine rd_un ?_)
  | (with_reducible refine rd_I0 ?_) | (with_reducible refine rd_U ?_) | (with_reducible refine rd_test ?_) | (with_reducible refine rd_B ?_) | (with_reducible refine rd_k ?_)
  | (with_reducible refine rd_not ?_) | (with_reducible refine rd_and ?_) | (with_reducible refine rd_or ?_) | (with_reducible refine rd_ifE ?_)
  | (with_reducible refine rd_par ?_) | ((with_reducible refine rd_par2 (σ' := ?ss) ?hs ?_); (case hs => (dsimp only [List.set]; exact rfl)))
  | (with_reducible refine rd_gsub ?_) | (with_reducible refine rd_andV ?_) | (with_reducible refine rd_orV ?_) | (with_reducible refine rd_notV ?_)
  | (with_reducible refine rd_lc ?_) | (with_reducible refine rd_iTup ?_) | (with_reducible refine rd_iList ?_) | (with_reducible refine rd_iRng1 ?_)
  | (with_reducible refine rd_yes ?_) | (with_reducible refine rd_true ?_) | (with_reducible refine rd_false ?_) | (with_reducible refine rd_m1 ?_) | (with_reducible refine rd_isS ?_)
  | ((with_reducible refine rd_eq ?hs ?_); (case hs => exact rfl)) | ((with_reducible refine rd_ne ?hs ?_); (case hs => exact rfl))
  | (with_reducible refine rd_listRg ?_) | (with_reducible refine rd_rg2 ?_) | (with_reducible refine rd_rgk ?_)
  | (with_reducible refine rd_dnew ?_) | (with_reducible refine rd_ddel ?_) | (with_reducible refine rd_kw ?_) | (with_reducible refine rd_callS ?_) | (with_reducible refine rd_dc ?_) | (with_reducible refine rd_for ?_) | (with_reducible refine rd_tru ?_) | (with_reducible refine rd_truI ?_)
  | (with_reducible refine rd_nil ?_) | (with_reducible refine rd_cons ?_) | (with_reducible refine rd_call ?_) | (with_reducible refine rd_cb ?_)
  | (with_reducible refine rd_tup ?_) | (with_reducible refine rd_lst ?_) | (with_reducible refine rd_dget ?_) | (with_reducible refine rd_dput ?_) | (with_reducible refine rd_sl ?_)
  | (with_reducible refine rd_nopart ?_) | (with_reducible refine rd_part ?_) | (with_reducible refine rd_parti ?_) | (with_reducible refine rd_bm ?_) | (with_reducible refine rd_bm0 ?_)
  | (with_reducible refine rd_int ?_) | (with_reducible refine rd_intb ?_) | (with_reducible refine rd_abs ?_) | (with_reducible refine rd_min2 ?_) | (with_reducible refine rd_max2 ?_))
local macro_rules | `(tactic| walk_at "rds") => `(tactic| repeat (walk_at "rd"))
local macro_rules | `(tactic| walk_at "rq") => `(tactic| first
  | (with_reducible refine rd_seq ?_) | (with_reducible refine rd_asg ?_) | (with_reducible refine rd_ret ?_) | (with_reducible refine rd_next ?_)
  | (with_reducible refine rd_drop ?_) | ((with_reducible refine rd_name (σ' := ?ss) ?hs ?_); (case hs => (dsimp only [List.set]; exact rfl)))
  | ((with_reducible refine rd_var (v := ?vv) ?hv ?_); (case hv => exact rfl)) | (with_reducible refine rd_c ?_) | (with_reducible refine rd_op ?_) | (with_reducible refine rd_un ?_)
  | (with_reducible refine rd_I0 ?_) | (with_reducible refine rd_U ?_) | (with_reducible refine rd_test ?_) | (with_reducible refine rd_B ?_) | (with_reducible refine rd_k ?_)
  | (with_reducible refine rd_not ?_) | (with_reducible refine rd_and ?_) | (with_reducible refine rd_or ?_) | (with_reducible refine rd_ifE ?_)
  | (with_reducible refine rd_par ?_) | ((with_reducible refine rd_par2 (σ' := ?ss) ?hs ?_); (case hs => (dsimp only [List.set]; exact rfl)))
  | (with_reducible refine rd_gsub ?_) | (with_reducible refine rd_andV ?_) | (with_reducible refine rd_orV ?_) | (with_reducible refine rd_notV ?_)
  | (with_reducible refine rd_lc ?_) | (with_reducible refine rd_iTup ?_) | (with_reducible refine rd_iList ?_) | (with_reducible refine rd_iRng1 ?_)
  | (with_reducible refine rd_yes ?_) | (with_reducible refine rd_true ?_) | (with_reducible refine rd_false ?_) | (with_reducible refine rd_m1 ?_) | (with_reducible refine rd_isS ?_)
  | ((with_reducible refine rd_eq ?hs ?_); (case hs => exact rfl)) | ((with_reducible refine rd_ne ?hs ?_); (case hs => exact rfl))
  | (with_reducible refine rd_listRg ?_) | (with_reducible refine rd_rg2 ?_) | (with_reducible refine rd_rgk ?_)
  | (with_reducible refine rd_dnew ?_) | (with_reducible refine rd_ddel ?_) | (with_reducible refine rd_kw ?_) | (with_reducible refine rd_callS ?_) | (with_reducible refine rd_dc ?_) | (with_reducible refine rd_for ?_) | (with_reducible refine rd_tru ?_) | (with_reducible refine rd_truI ?_)
  | (with_reducible refine rd_nil ?_) | (with_reducible refine rd_cons ?_) | (with_reducible refine rd_call ?_) | (with_reducible refine rd_cb ?_)
  | (with_reducible refine rd_tup ?_) | (with_reducible refine rd_lst ?_) | (with_reducible refine rd_dget ?_) | (with_reducible refine rd_dput ?_) | (with_reducible refine rd_sl ?_)
  | (with_reducible refine rd_nopart ?_) | (with_reducible refine rd_part ?_) | (with_reducible refine rd_parti ?_) | (with_reducible refine rd_bm ?_) | (with_reducible refine rd_bm0 ?_)
  | (with_reducible refine rd_int ?_) | (with_reducible refine rd_intb ?_) | (with_reducible refine rd_abs ?_) | (with_reducible refine rd_min2 ?_) | (with_reducible refine rd_max2 ?_))
local macro_rules | `(tactic| walk_at "rqs") => `(tactic| repeat (walk_at "rq"))

section
variable {P : Program} {w : World} {K : PySem.W.Frag} {mg : Str → Option Value} {base : Heap}
def spOwners : Sp := fun vs H Q _ => ∃ (d l : Addr) (n : Int), vs = [.ref d, .int n] ∧ DeckL d l H ∧ 0 ≤ n ∧ n ≤ 60 ∧
  ∀ (z : Str) (H' : Hp), Gl d l H H' → OwnS n.toNat z → Q (.str z) H'
theorem own_of_two {k : Nat} {x1 x2 : Str} {y : V} (h1 : OwnS k x1) (h2 : OwnS k x2) (hy : y ∈ [V.str x1, V.str x2]) : ∃ z : Str, y = .str z ∧ OwnS k z := by
  rcases List.mem_cons.mp hy with rfl | hy
  · exact ⟨_, rfl, h1⟩
  · rw [List.mem_singleton.mp hy]
    exact ⟨_, rfl, h2⟩
theorem ok_owners {f fD fP : Addr} {fd fdD fdP : FuncData} (F : Fun K "_law_owners" "_law_owners" s_law_owners f fd) (T : Bl mg)
    (G_law_draw : FnOk P w K mg base CX0 1 fD fdD ["bag", "many"] spDraw) (C_law_draw : Callee K mg "_law_draw" fD fdD ["bag", "many"])
    (G_law_pick : FnOk P w K mg base CX0 2 fP fdP ["bag", "row"] spPick) (C_law_pick : Callee K mg "_law_pick" fP fdP ["bag", "row"]) :
    FnOk P w K mg base CX0 3 f fd ["bag", "n"] spOwners := by
  refine F.ok sc_law_owners (fun vs H Q E h => ?_) (fun cdv A outer s H vs Q E hr h => ?_)
  · obtain ⟨d, l, n, rfl, _⟩ := h
    rfl
  · obtain ⟨d, l, n, rfl, hD, h0, h1, q⟩ := h
    refine ⟨_, (pss_cons (ps_set (i := 2) sc_law_owners.nd rfl (Or.inl rfl) (pe_call G_law_draw (hr.mono (by decide)) (by rfl) C_law_draw.m C_law_draw.k C_law_draw.b .nil pass0 (pa_cons (pv 0) (pa_cons pe_int pa_nil))))
 (pss_cons (ps_if (pt_cmpR op_eq (pv 2) pe_int (nomark _)) (pss_one (ps_ret (pe_op op_mulS (pe_call G_law_pick (hr.mono (by decide)) (by rfl) C_law_pick.m C_law_pick.k C_law_pick.b .nil pass0 (pa_cons (pv 0) (pa_cons (pe_lst (pa_cons pe_str (pa_cons pe_str pa_nil))) pa_nil))) (pv 1)))) pss_nil)
 (pss_cons (ps_if (pt_cmpR op_eq (pv 2) pe_int (nomark _)) (pss_one (ps_ret (pe_slice sl_str (pe_op op_mulS (pe_call G_law_pick (hr.mono (by decide)) (by rfl) C_law_pick.m C_law_pick.k C_law_pick.b .nil pass0 (pa_cons (pv 0) (pa_cons (pe_lst (pa_cons pe_str (pa_cons pe_str pa_nil))) pa_nil))) (pv 1)) po_none (po_some (pv 1))))) pss_nil)
 (pss_cons (ps_if (pt_cmpR op_eq (pv 2) pe_int (nomark _)) (pss_cons (ps_set (i := 3) sc_law_owners.nd rfl (Or.inl rfl) (pe_call G_law_draw (hr.mono (by decide)) (by rfl) C_law_draw.m C_law_draw.k C_law_draw.b .nil pass0 (pa_cons (pv 0) (pa_cons (pe_op op_add (pv 1) pe_int) pa_nil))))
 (pss_one (ps_ret (pe_ifExp (pt_cmpR op_gt (pe_call G_law_draw (hr.mono (by decide)) (by rfl) C_law_draw.m C_law_draw.k C_law_draw.b .nil pass0 (pa_cons (pv 0) (pa_cons pe_int pa_nil))) pe_int (nomark _)) (pe_op op_addSt (pe_op op_mulS pe_str (pv 3)) (pe_op op_mulS pe_str (pe_op op_sub (pv 1) (pv 3)))) (pe_op op_addSt (pe_op op_mulS pe_str (pv 3)) (pe_op op_mulS pe_str (pe_op op_sub (pv 1) (pv 3)))))))) pss_nil)
 (pss_one (ps_ret (pe_joinN pe_str (pe_lc (own := [("k", 4)]) (g := gName 4) rfl sc_law_owners.nd (pi_range1 (by rfl) T.range (pa_cons (pv 1) pa_nil)) (blkOk_by (own := [("k", 4)]) (N := ["bag", "n", "way", "cut", "k"]) (sc := defScope s_law_owners) (by decide +kernel)) (fun _ _ _ _ _ => (pg_name (i := 4) sc_law_owners.nd rfl (Or.inl rfl))) (fun _ _ _ _ _ => pts_nil) (fun _ _ _ _ _ => (pe_call G_law_pick (hr.mono (by decide)) (by rfl) C_law_pick.m C_law_pick.k C_law_pick.b .nil pass0 (pa_cons (pv 0) (pa_cons (pe_lst (pa_cons pe_str (pa_cons pe_str pa_nil))) pa_nil)))))))))))), ?_⟩
    refine rd_start (σ' := [some (.ref d), some (.int n), none, none, none]) rfl ?_
    have own : ∀ {z : Str} {H' : Hp}, Gl d l H H' → OwnS (n.toNat * 1) z → Q (.str z) H' := fun g h => q _ _ g (by rw [Nat.mul_one] at h; exact h)
    have cut : ∀ {z : Str}, OwnS 2 z → OwnS n.toNat (cutS (repS z n) none (some n)) := fun h => by
      have z := own_cut (n := n.toNat) (own_rep h h0) (by omega)
      rw [Int.toNat_of_nonneg h0] at z
      exact z
    have len : ∀ {z : Str}, OwnS 2 z → (repS z n).length ≤ sizeLine := fun h => by
      rw [(own_rep h h0).1, sizeLine_eq]
      omega
    walk_at "rds"
    refine ⟨d, l, _, rfl, hD, by omega, by omega, fun r H1 g1 r0 r1 => ?_⟩
    walk_at "rds"
    refine rd_ite (fun c => ?_) (fun c => ?_)
    · walk_at "rds"
      refine ⟨by decide, fun b hb => ?_⟩
      have g2 := Gl.new (o := .lst [V.str "e", V.str "s"]) g1.dk hb
      refine ⟨d, l, b, _, rfl, g2.dk, upd_same, (g1.dk.off hb).1, (g1.dk.off hb).2, by decide, by decide, fun y H3 g3 hy => ?_⟩
      obtain ⟨z, rfl, hz⟩ := own_of_two own_e own_s hy
      walk_at "rds"
      exact rd_mulS h0 (by omega) (by rw [hz.1]; decide) (by rw [hz.1]; decide) (own ((g1.trans g2).trans g3) (own_rep hz h0))
    walk_at "rds"
    refine rd_ite (fun c2 => ?_) (fun c2 => ?_)
    · walk_at "rds"
      refine ⟨by decide, fun b hb => ?_⟩
      have g2 := Gl.new (o := .lst [V.str "es", V.str "se"]) g1.dk hb
      refine ⟨d, l, b, _, rfl, g2.dk, upd_same, (g1.dk.off hb).1, (g1.dk.off hb).2, by decide, by decide, fun y H3 g3 hy => ?_⟩
      obtain ⟨z, rfl, hz⟩ := own_of_two (k := 2) ⟨rfl, by decide⟩ ⟨rfl, by decide⟩ hy
      walk_at "rds"
      refine rd_mulS h0 (by omega) (by rw [hz.1]; decide) (by rw [hz.1]; decide) ?_
      walk_at "rds"
      exact rd_slS (len hz) (q _ _ ((g1.trans g2).trans g3) (cut hz))
    walk_at "rds"
    refine rd_ite (fun c4 => ?_) (fun c4 => ?_)
    · walk_at "rds"
      refine ⟨d, l, _, rfl, g1.dk, by omega, by omega, fun k H3 g3 k0 k1 => ?_⟩
      walk_at "rds"
      have oe := own_rep own_e k0
      have os := own_rep own_s (n := n - k) (by omega)
      have oe' := own_rep own_e (n := n - k) (by omega)
      have os' := own_rep own_s k0
      have sum : k.toNat * 1 + (n - k).toNat * 1 = n.toNat * 1 := by omega
      refine ⟨d, l, 3, rfl, g3.dk, by decide, by decide, fun u H4 g4 u0 u1 => ?_⟩
      have g14 := (g1.trans g3).trans g4
      walk_at "rds"
      refine rd_ite (fun c5 => ?_) (fun c5 => ?_)
      · walk_at "rds"
        refine rd_mulS k0 (by omega) (by decide) (by decide) ?_
        walk_at "rds"
        refine rd_mulS (by omega) (by omega) (by decide) (by decide) ?_
        refine rd_addSt (by rw [oe.1, os.1, sizeLine_eq]; omega) ?_
        exact own g14 (sum ▸ own_add oe os)
      · walk_at "rds"
        refine rd_mulS k0 (by omega) (by decide) (by decide) ?_
        walk_at "rds"
        refine rd_mulS (by omega) (by omega) (by decide) (by decide) ?_
        refine rd_addSt (by rw [os'.1, oe'.1, sizeLine_eq]; omega) ?_
        exact own g14 (sum ▸ own_add os' oe')
    · walk_at "rds"
      refine rd_rng1 (by omega) (by omega) ?_
      refine lc_glR (fun i acc => ∃ ys : List Str, acc = ys.map V.str ∧ ys.length = i ∧ ∀ y ∈ ys, OwnS 1 y) (σx := fun x => [some (.ref d), some (.int n), some (.int r), none, some x])
        g1.dk (by omega) (fun _ => rfl) (fun _ => rfl) ⟨[], rfl, rfl, nofun⟩ (fun i hi acc H3 N S g3 hP kN kS => ?_) fun D acc H3 g3 eD hacc hP => ?_
      · obtain ⟨ys, rfl, rfl, hy⟩ := hP
        walk_at "rds"
        refine ⟨by decide, fun b hb => ?_⟩
        have g4 := Gl.new (o := .lst [V.str "e", V.str "s"]) g3.dk hb
        refine ⟨d, l, b, _, rfl, g4.dk, upd_same, (g3.dk.off hb).1, (g3.dk.off hb).2, by decide, by decide, fun y H5 g5 hy5 => ?_⟩
        obtain ⟨z, rfl, hz⟩ := own_of_two own_e own_s hy5
        refine kN _ _ (g4.trans g5) ⟨ys ++ [z], by rw [List.map_append] <;> rfl, by rw [List.length_append] <;> rfl, fun y hy' => ?_⟩
        rcases List.mem_append.mp hy' with h | h
        · exact hy y h
        · rw [List.mem_singleton.mp h]
          exact hz
      · obtain ⟨ys, rfl, e, hy⟩ := hP
        refine rd_join (SqL.of hacc) ?_ (own (g1.trans g3) ?_)
        · have z : ("" : Str).length = 0 := rfl
          rw [own_sum hy, z]
          omega
        · have z := own_join hy
          rw [e] at z
          rw [Nat.mul_one]
          exact z
end
end KA
set_option Elab.async false
set_option linter.all false
set_option maxRecDepth 100000
set_option maxHeartbeats 400000
namespace KA
open PySem PySem.Spec PyProof.Rows L2 Ea
local macro_rules | `(tactic| walk_at "rd") => `(tactic| first
  | (with_reducible refine rd_seq ?_) | (with_reducible refine rd_asg ?_) | (with_reducible refine rd_if ?_) | (with_reducible refine rd_ret ?_) | (with_reducible refine rd_next ?_)
  | (with_reducible refine rd_drop ?_) | ((with_reducible refine rd_name (σ' := ?ss) ?hs ?_); (case hs => (dsimp only [List.set]; exact rfl)))
  | ((with_reducible refine rd_var (v := ?vv) ?hv ?_); (case hv => exact rfl)) | (with_reducible refine rd_c ?_) | (with_reducible refine rd_op ?_) | (with_reducible refine rd_un ?_)
  | (with_reducible refine rd_I0 ?_) | (with_reducible refine rd_U ?_) | (with_reducible refine rd_test ?_) | (with_reducible refine rd_B ?_) | (with_reducible refine rd_k ?_)
  | (with_reducible refine rd_not ?_) | (with_reducible refine rd_and ?_) | (with_reducible refine rd_or ?_) | (with_reducible refine rd_ifE ?_)
  | (with_reducible refine rd_par ?_) | ((with_reducible refine rd_par2 (σ' := ?ss) ?hs ?_); (case hs => (dsimp only [List.set]; exact rfl)))
  | (with_reducible refine rd_gsub ?_) | (with_reducible refine rd_andV ?_) | (with_reducible refine rd_orV ?_) | (with_reducible refine rd_notV ?_)
  | (with_reducible refine rd_lc ?_) | (with_reducible refine rd_iTup ?_) | (with_reducible refine rd_iList ?_) | (with_reducible refine rd_iRng1 ?_)
  | (with_reducible refine rd_yes ?_) | (with_reducible refine rd_true ?_) | (with_reducible refine rd_false ?_) | (with_reducible refine rd_m1 ?_) | (with_reducible refine rd_isS ?_)
  | ((with_reducible refine rd_eq ?hs ?_); (case hs => exact rfl)) | ((with_reducible refine rd_ne ?hs ?_); (case hs => exact rfl))
  | (with_reducible refine rd_listRg ?_) | (with_reducible refine rd_rg2 ?_) | (with_reducible refine rd_rgk ?_)
  | (with_reducible refine rd_dnew ?_) | (with_reducible refine rd_ddel ?_) | (with_reducible refine rd_kw ?_) | (with_reducible refine rd_callS ?_) | (with_reducible refine rd_dc ?_) | (with_reducible refine rd_for ?_) | (with_reducible refine rd_tru ?_) | (with_reducible refine rd_truI ?_)
  | (with_reducible refine rd_nil ?_) | (with_reducible refine rd_cons ?_) | (with_reducible refine rd_call ?_) | (with_reducible refine rd_cb ?_)
  | (with_reducible refine rd_tup ?_) | (with_reducible refine rd_lst ?_) | (with_reducible refine rd_dget ?_) | (with_reducible refine rd_dput ?_) | (with_reducible refine rd_sl ?_)
  | (with_reducible refine rd_nopart ?_) | (with_reducible refine rd_part ?_) | (with_reducible refine rd_parti ?_) | (with_reducible refine rd_bm ?_) | (with_reducible refine rd_bm0 ?_)
  | (with_reducible refine rd_int ?_) | (with_reducible refine rd_intb ?_) | (with_reducible refine rd_abs ?_) | (with_reducible refine rd_min2 ?_) | (with_reducible refine rd_max2 ?_))
local macro_rules | `(tactic| walk_at "rds") => `(tactic| repeat (walk_at "rd"))
local macro_rules | `(tactic| walk_at "rq") => `(tactic| first
  | (with_reducible refine rd_seq ?_) | (with_reducible refine rd_asg ?_) | (with_reducible refine rd_ret ?_) | (with_reducible refine rd_next ?_)
  | (with_reducible refine rd_drop ?_) | ((with_reducible refine rd_name (σ' := ?ss) ?hs ?_); (case hs => (dsimp only [List.set]; exact rfl)))
  | ((with_reducible refine rd_var (v := ?vv) ?hv ?_); (case hv => exact rfl)) | (with_reducible refine rd_c ?_) | (with_reducible refine rd_op ?_) | (with_reducible refine rd_un ?_)
  | (with_reducible refine rd_I0 ?_) | (with_reducible refine rd_U ?_) | (with_reducible refine rd_test ?_) | (with_reducible refine rd_B ?_) | (with_reducible refine rd_k ?_)
  | (with_reducible refine rd_not ?_) | (with_reducible refine rd_and ?_) | (with_reducible refine rd_or ?_) | (with_reducible refine rd_ifE ?_)
  | (with_reducible refine rd_par ?_) | ((with_reducible refine rd_par2 (σ' := ?ss) ?hs ?_); (case hs => (dsimp only [List.set]; exact rfl)))
  | (with_reducible refine rd_gsub ?_) | (with_reducible refine rd_andV ?_) | (with_reducible refine rd_orV ?_) | (with_reducible refine rd_notV ?_)
  | (with_reducible refine rd_lc ?_) | (with_reducible refine rd_iTup ?_) | (with_reducible refine rd_iList ?_) | (with_reducible refine rd_iRng1 ?_)
  | (with_reducible refine rd_yes ?_) | (with_reducible refine rd_true ?_) | (with_reducible refine rd_false ?_) | (with_reducible refine rd_m1 ?_) | (with_reducible refine rd_isS ?_)
  | ((with_reducible refine rd_eq ?hs ?_); (case hs => exact rfl)) | ((with_reducible refine rd_ne ?hs ?_); (case hs => exact rfl))
  | (with_reducible refine rd_listRg ?_) | (with_reducible refine rd_rg2 ?_) | (with_reducible refine rd_rgk ?_)
  | (with_reducible refine rd_dnew ?_) | (with_reducible refine rd_ddel ?_) | (with_reducible refine rd_kw ?_) | (with_reducible refine rd_callS ?_) | (with_reducible refine rd_dc ?_) | (with_reducible refine rd_for ?_) | (with_reducible refine rd_tru ?_) | (with_reducible refine rd_truI ?_)
  | (with_reducible refine rd_nil ?_) | (with_reducible refine rd_cons ?_) | (with_reducible refine rd_call ?_) | (with_reducible refine rd_cb ?_)
  | (with_reducible refine rd_tup ?_) | (with_reducible refine rd_lst ?_) | (with_reducible refine rd_dget ?_) | (with_reducible refine rd_dput ?_) | (with_reducible refine rd_sl ?_)
  | (with_reducible refine rd_nopart ?_) | (with_reducible refine rd_part ?_) | (with_reducible refine rd_parti ?_) | (with_reducible refine rd_bm ?_) | (with_reducible refine rd_bm0 ?_)
  | (with_reducible refine rd_int ?_) | (with_reducible refine rd_intb ?_) | (with_reducible refine rd_abs ?_) | (with_reducible refine rd_min2 ?_) | (with_reducible refine rd_max2 ?_))
local macro_rules | `(tactic| walk_at "rqs") => `(tactic| repeat (walk_at "rq"))

section
variable {P : Program} {w : World} {K : PySem.W.Frag} {mg : Str → Option Value} {base : Heap}
def spDeck (K : PySem.W.Frag) : Sp := fun vs H Q _ => ∃ (a : Addr) (ns : List Int), vs = [.ref a] ∧ SqL K H a (ns.map V.int) ∧ ns.length ≤ 63 ∧
  ∀ (d l : Addr) (H' : Hp), Evl.Ex H H' → H d = none → H l = none → DeckL d l H' → Q (.ref d) H'
theorem ok_deck {f : Addr} {fd : FuncData} (F : Fun K "_law_bag" "_law_bag" s_law_bag f fd) (T : Bl mg) : FnOk P w K mg base CX0 1 f fd ["script"] (spDeck K) := by
  refine F.ok sc_law_bag (fun vs H Q E h => ?_) (fun cdv A outer s H vs Q E hr h => ?_)
  · obtain ⟨a, ns, rfl, _⟩ := h
    rfl
  · obtain ⟨a, ns, rfl, ha, hl, q⟩ := h
    refine ⟨_, (pss_cons (ps_par (i := 2) (j := 3) rfl sc_law_bag.nd rfl rfl (by decide) rfl rfl (pa_cons (pe_lc (own := [("cell", 1)]) (g := gName 1) rfl sc_law_bag.nd (ik_listI (K := K) rfl (pe_slice (sk_list (K := K) rfl) (pv 0) po_none (po_some pe_int))) (blkOk_by (own := [("cell", 1)]) (N := ["script", "cell", "cells", "stirred"]) (sc := defScope s_law_bag) (by decide +kernel)) (fun _ _ _ _ _ => (pg_name (i := 1) sc_law_bag.nd rfl (Or.inl rfl))) (fun _ _ _ _ _ => pts_nil) (fun _ _ _ _ _ => (pe_op op_add (pe_op op_mul pe_int (pe_callB c_abs (by rfl) T.abs (by decide +kernel) (pa_cons (pv 1) pa_nil))) (pe_callTy c_int (by rfl) T.int (by decide +kernel) (pa_cons (pe_cmpR op_lt (pv 1) pe_int (nomark _)) pa_nil))))) (pa_cons (pe_op op_add pe_int (pe_callB (c_len (K := K) rfl) (by rfl) T.len (by decide +kernel) (pa_cons (pv 0) pa_nil))) pa_nil)) (by rfl))
 (pss_cons (ps_for PassesOwn.never rfl (ik_listI (K := K) rfl (pv 2)) (pg_name (i := 1) sc_law_bag.nd rfl (Or.inl rfl)) (pss_one (ps_set (i := 3) sc_law_bag.nd rfl (Or.inl rfl) (pe_op op_mod (pe_callTy c_int (by rfl) T.int (by decide +kernel) (pa_cons (pe_op op_add (pe_op op_add (pe_op op_mul (pv 3) pe_int) (pv 1)) pe_int) pa_nil)) pe_int))))
 (pss_one (ps_ret (pe_lst (pa_cons (pe_lc (own := [("cell", 1)]) (g := gName 1) rfl sc_law_bag.nd (ik_listI (K := K) rfl (pv 2)) (blkOk_by (own := [("cell", 1)]) (N := ["script", "cell", "cells", "stirred"]) (sc := defScope s_law_bag) (by decide +kernel)) (fun _ _ _ _ _ => (pg_name (i := 1) sc_law_bag.nd rfl (Or.inl rfl))) (fun _ _ _ _ _ => (pts_one (pt_cmpR op_gt (pv 1) (pe_op op_pow pe_int pe_int) (nomark _)))) (fun _ _ _ _ _ => (pv 1))) (pa_cons (pv 3) (pa_cons pe_int pa_nil)))))))), ?_⟩
    refine rd_start (σ' := [some (.ref a), none, none, none]) rfl ?_
    walk_at "rds"
    refine rd_slL ha fun u hu => ?_
    have hn : ns.length < 100000 := by omega
    rw [show ((63 : Int)) = ((63 : Nat) : Int) from rfl, cut_take (by omega), List.take_of_length_le (by rw [List.length_map]; exact hl)]
    have e1 := Evl.Ex.new (o := .lst (ns.map V.int)) hu
    refine rd_refL (SqL.of upd_same) ?_
    refine lc_fmL (fun _ => true) (fun x => .int (2 * (x.natAbs : Int) + if decide (x < 0) = true then 1 else 0)) (σx := fun x => [some (.ref a), some x, none, none]) (SqL.of upd_same) (by omega) (fun _ => rfl) (fun _ => rfl)
      (fun x hx H' N S e kN kS => ?_) fun D H2 e2 eD hD => ?_
    · walk_at "rds"
      refine rd_I (.inl ⟨by decide, by decide⟩) ?_
      walk_at "rds"
      exact kN rfl _ (Evl.Ex.refl _)
    have hm : ∃ ms : List Int, ((ns.filter fun _ => true).map fun x => V.int (2 * (x.natAbs : Int) + if decide (x < 0) = true then 1 else 0)) = ms.map V.int ∧ ms.length ≤ 63 ∧ ∀ m ∈ ms, 0 ≤ m := by
      rw [List.filter_eq_self.mpr fun _ _ => rfl]
      refine ⟨ns.map fun x => 2 * (x.natAbs : Int) + if decide (x < 0) = true then 1 else 0, by rw [List.map_map] <;> rfl, by rw [List.length_map]; exact hl, fun m h => ?_⟩
      obtain ⟨x, _, rfl⟩ := List.mem_map.mp h
      split <;> omega
    obtain ⟨ms, em, lm, m0⟩ := hm
    rw [em] at hD
    have e12 := e1.trans e2
    walk_at "rds"
    refine rd_lenL (Evl.ex_l e12 ha) ?_
    rw [List.length_map]
    walk_at "rds"
    refine rd_refL (SqL.of hD) ?_
    refine fr_list (xs := ms.map V.int) (fun i σ' H' => ∃ (c : Option V) (m : Int), σ' = [some (.ref a), c, some (.ref D), some (.int m)] ∧ H' = H2 ∧ 0 ≤ m ∧ m < 4294967291)
      ⟨_, _, rfl, rfl, by omega, by omega⟩ (fun i σ' H' _ ⟨_, _, _, e, _⟩ => by rw [e]; exact SqL.of hD) (fun i x σ' H' hi hP => ?_) fun σ' H' hP => ?_
    · obtain ⟨c, m, rfl, rfl, p0, p1⟩ := hP
      rw [List.getElem?_map] at hi
      obtain ⟨t, ht, rfl⟩ := Option.map_eq_some_iff.mp hi
      refine rd_start (σ' := [some (.ref a), some (.int t), some (.ref D), some (.int m)]) rfl ?_
      walk_at "rds"
      refine rd_I (.inr ⟨by decide, by decide⟩) ?_
      walk_at "rds"
      refine rd_I (by decide) ?_
      walk_at "rds"
      exact ⟨_, _, rfl, rfl, Int.emod_nonneg _ (by decide), Int.emod_lt_of_pos _ (by decide)⟩
    · obtain ⟨c, m, rfl, rfl, p0, p1⟩ := hP
      walk_at "rds"
      refine rd_refL (SqL.of hD) ?_
      refine lc_fmL (fun x => decide ((10 : Int) ^ 15 < x)) V.int (σx := fun x => [some (.ref a), some x, some (.ref D), some (.int m)]) (SqL.of hD) (by omega) (fun _ => rfl) (fun _ => rfl)
        (fun x hx H' N S e kN kS => ?_) fun D3 H3 e3 eD3 hD3 => ?_
      · walk_at "rds"
        refine rd_I ⟨by decide, by decide, by decide⟩ ?_
        walk_at "rds"
        refine rd_ite (fun c => ?_) (fun c => ?_)
        · walk_at "rds"
          exact kN (decide_eq_true c) _ (Evl.Ex.refl _)
        · exact kS (decide_eq_false c) _ (Evl.Ex.refl _)
      walk_at "rds"
      refine ⟨(by show 3 ≤ sizeLine; decide), fun d hd => ?_⟩
      have e13 := e12.trans e3
      have hdD : D3 ≠ d := ne_of_none hD3 hd
      refine q d D3 _ (e13.trans (Evl.Ex.new hd)) (Evl.fresh_back e13 hd) (Evl.fresh_back e12 eD3) ⟨ms.filter fun x => decide ((10 : Int) ^ 15 < x), m, 0, upd_same, (upd_ne hdD).trans hD3, ?_, fun n hn => m0 n (List.mem_filter.mp hn).1, p0, p1⟩
      have := List.length_filter_le (fun x => decide ((10 : Int) ^ 15 < x)) ms
      omega
end
end KA
set_option Elab.async false
set_option linter.all false
set_option maxRecDepth 100000
set_option maxHeartbeats 400000
set_option pp.maxSteps 300
namespace KA
open PySem PySem.Spec PyProof.Rows L2 Ea
abbrev s_law_own : Stmt := topS 8
theorem sc_law_own : FnScope ["bag", "owners", "most", "signs", "found", "x", "ahead", "some", "row", "k"] ["bag", "owners", "most", "signs"] (defScope s_law_own) :=
  ⟨rfl, rfl, rfl, by decide +kernel, rfl, by decide +kernel, by decide +kernel⟩
local macro_rules | `(tactic| walk_at "rd") => `(tactic| first
  | (with_reducible refine rd_seq ?_) | (with_reducible refine rd_asg ?_) | (with_reducible refine rd_if ?_) | (with_reducible refine rd_ret ?_) | (with_reducible refine rd_next ?_)
  | (with_reducible refine rd_drop ?_) | ((with_reducible refine rd_name (σ' := ?ss) ?hs ?_); (case hs => (dsimp only [List.set]; exact rfl)))
  | ((with_reducible refine rd_var (v := ?vv) ?hv ?_); (case hv => exact rfl)) | (with_reducible refine rd_c ?_) | (with_reducible refine rd_op ?_) | (with_reducible refine rd_un ?_)
  | (with_reducible refine rd_I0 ?_) | (with_reducible refine rd_U ?_) | (with_reducible refine rd_test ?_) | (with_reducible refine rd_B ?_) | (with_reducible refine rd_k ?_)
  | (with_reducible refine rd_not ?_) | (with_reducible refine rd_and ?_) | (with_reducible refine rd_or ?_) | (with_reducible refine rd_ifE ?_)
  | (with_reducible refine rd_par ?_) | ((with_reducible refine rd_par2 (σ' := ?ss) ?hs ?_); (case hs => (dsimp only [List.set]; exact rfl)))
  | (with_reducible refine rd_gsub ?_) | (with_reducible refine rd_andV ?_) | (with_reducible refine rd_orV ?_) | (with_reducible refine rd_notV ?_)
  | (with_reducible refine rd_lc ?_) | (with_reducible refine rd_iTup ?_) | (with_reducible refine rd_iList ?_) | (with_reducible refine rd_iRng1 ?_) | (with_reducible refine rd_iRng2 ?_) | (with_reducible refine rd_iEnumT ?_) | (with_reducible refine rd_iEnum ?_) | (with_reducible refine rd_iZipM ?_)
  | (with_reducible refine rd_yes ?_) | (with_reducible refine rd_true ?_) | (with_reducible refine rd_false ?_) | (with_reducible refine rd_m1 ?_) | (with_reducible refine rd_isS ?_)
  | ((with_reducible refine rd_eq ?hs ?_); (case hs => exact rfl)) | ((with_reducible refine rd_ne ?hs ?_); (case hs => exact rfl))
  | (with_reducible refine rd_listRg ?_) | (with_reducible refine rd_rg2 ?_) | (with_reducible refine rd_rgk ?_)
  | (with_reducible refine rd_dnew ?_) | (with_reducible refine rd_ddel ?_) | (with_reducible refine rd_kw ?_) | (with_reducible refine rd_callS ?_) | (with_reducible refine rd_dc ?_) | (with_reducible refine rd_for ?_) | (with_reducible refine rd_tru ?_) | (with_reducible refine rd_truI ?_)
  | (with_reducible refine rd_nil ?_) | (with_reducible refine rd_cons ?_) | (with_reducible refine rd_call ?_) | (with_reducible refine rd_cb ?_)
  | (with_reducible refine rd_tup ?_) | (with_reducible refine rd_lst ?_) | (with_reducible refine rd_dget ?_) | (with_reducible refine rd_dput ?_) | (with_reducible refine rd_dget2 ?_) | (with_reducible refine rd_sl ?_)
  | (with_reducible refine rd_nopart ?_) | (with_reducible refine rd_part ?_) | (with_reducible refine rd_parti ?_) | (with_reducible refine rd_bm ?_) | (with_reducible refine rd_bm0 ?_)
  | (with_reducible refine rd_int ?_) | (with_reducible refine rd_intb ?_) | (with_reducible refine rd_abs ?_) | (with_reducible refine rd_min2 ?_) | (with_reducible refine rd_max2 ?_))
local macro_rules | `(tactic| walk_at "rds") => `(tactic| repeat (walk_at "rd"))
local macro_rules | `(tactic| walk_at "rq") => `(tactic| first
  | (with_reducible refine rd_seq ?_) | (with_reducible refine rd_asg ?_) | (with_reducible refine rd_ret ?_) | (with_reducible refine rd_next ?_)
  | (with_reducible refine rd_drop ?_) | ((with_reducible refine rd_name (σ' := ?ss) ?hs ?_); (case hs => (dsimp only [List.set]; exact rfl)))
  | ((with_reducible refine rd_var (v := ?vv) ?hv ?_); (case hv => exact rfl)) | (with_reducible refine rd_c ?_) | (with_reducible refine rd_op ?_) | (with_reducible refine rd_un ?_)
  | (with_reducible refine rd_I0 ?_) | (with_reducible refine rd_U ?_) | (with_reducible refine rd_test ?_) | (with_reducible refine rd_B ?_) | (with_reducible refine rd_k ?_)
  | (with_reducible refine rd_not ?_) | (with_reducible refine rd_and ?_) | (with_reducible refine rd_or ?_) | (with_reducible refine rd_ifE ?_)
  | (with_reducible refine rd_par ?_) | ((with_reducible refine rd_par2 (σ' := ?ss) ?hs ?_); (case hs => (dsimp only [List.set]; exact rfl)))
  | (with_reducible refine rd_gsub ?_) | (with_reducible refine rd_andV ?_) | (with_reducible refine rd_orV ?_) | (with_reducible refine rd_notV ?_)
  | (with_reducible refine rd_lc ?_) | (with_reducible refine rd_iTup ?_) | (with_reducible refine rd_iList ?_) | (with_reducible refine rd_iRng1 ?_) | (with_reducible refine rd_iRng2 ?_) | (with_reducible refine rd_iEnumT ?_) | (with_reducible refine rd_iEnum ?_) | (with_reducible refine rd_iZipM ?_)
  | (with_reducible refine rd_yes ?_) | (with_reducible refine rd_true ?_) | (with_reducible refine rd_false ?_) | (with_reducible refine rd_m1 ?_) | (with_reducible refine rd_isS ?_)
  | ((with_reducible refine rd_eq ?hs ?_); (case hs => exact rfl)) | ((with_reducible refine rd_ne ?hs ?_); (case hs => exact rfl))
  | (with_reducible refine rd_listRg ?_) | (with_reducible refine rd_rg2 ?_) | (with_reducible refine rd_rgk ?_)
  | (with_reducible refine rd_dnew ?_) | (with_reducible refine rd_ddel ?_) | (with_reducible refine rd_kw ?_) | (with_reducible refine rd_callS ?_) | (with_reducible refine rd_dc ?_) | (with_reducible refine rd_for ?_) | (with_reducible refine rd_tru ?_) | (with_reducible refine rd_truI ?_)
  | (with_reducible refine rd_nil ?_) | (with_reducible refine rd_cons ?_) | (with_reducible refine rd_call ?_) | (with_reducible refine rd_cb ?_)
  | (with_reducible refine rd_tup ?_) | (with_reducible refine rd_lst ?_) | (with_reducible refine rd_dget ?_) | (with_reducible refine rd_dput ?_) | (with_reducible refine rd_dget2 ?_) | (with_reducible refine rd_sl ?_)
  | (with_reducible refine rd_nopart ?_) | (with_reducible refine rd_part ?_) | (with_reducible refine rd_parti ?_) | (with_reducible refine rd_bm ?_) | (with_reducible refine rd_bm0 ?_)
  | (with_reducible refine rd_int ?_) | (with_reducible refine rd_intb ?_) | (with_reducible refine rd_abs ?_) | (with_reducible refine rd_min2 ?_) | (with_reducible refine rd_max2 ?_))
local macro_rules | `(tactic| walk_at "rqs") => `(tactic| repeat (walk_at "rq"))

theorem hu65 {A : Around} {k : Nat} (hr : Room k A) : A.units + 65 < cLine := by
  have := hr.un
  omega
def dR (r : List Int) : PyData := .tuple (dI r)
section
variable {K : PySem.W.Frag} {H H' : Hp} {v x : V} {r : List Int} {xs : List V} {ds : List PyData} {d l : Addr}
theorem dp_intsOf : ∀ {xs : List V} {r : List Int}, DpAll K H xs (dI r) → xs = r.map V.int
  | _, [], h => by
    cases h
    rfl
  | _, i :: r, h => by
    cases h with
    | cons h1 h2 =>
      cases h1
      rw [dp_intsOf h2] <;> rfl
theorem dp_row (h : Dp K H v (dR r)) : ∃ a, v = .ref a ∧ SqT K H a (r.map V.int) := by
  unfold dR at h
  cases h with
  | tup hs ha =>
    rw [dp_intsOf ha] at hs
    exact ⟨_, rfl, hs⟩
theorem dp_of_row {a : Addr} (h : SqT K H a (r.map V.int)) : Dp K H (.ref a) (dR r) := dp_T h
theorem dpAll_get : ∀ {xs : List V} {ds : List PyData} {i : Nat}, DpAll K H xs ds → xs[i]? = some x → ∃ d, ds[i]? = some d ∧ Dp K H x d
  | _, _, 0, .cons h _, e => by
    obtain rfl : _ = x := Option.some.inj e
    exact ⟨_, rfl, h⟩
  | _, _, i + 1, .cons _ h, e => dpAll_get (i := i) h e
  | _, _, i, .nil, e => by simp at e
theorem dpAll_len : ∀ {xs : List V} {ds : List PyData}, DpAll K H xs ds → xs.length = ds.length
  | _, _, .nil => rfl
  | _, _, .cons _ h => congrArg (· + 1) (dpAll_len h)
theorem dpAll_app : ∀ {xs ys : List V} {ds es : List PyData}, DpAll K H xs ds → DpAll K H ys es → DpAll K H (xs ++ ys) (ds ++ es)
  | _, _, _, _, .nil, h => h
  | _, _, _, _, .cons h t, h2 => .cons h (dpAll_app t h2)
theorem Gl.dps (g : Gl d l H H') (hD : DeckL d l H) (c : noLs ds = true) (h : DpAll K H xs ds) : DpAll K H' xs ds := dps_mono (fun _ _ t => g.tup hD t) ds xs c h
theorem Gl.dp {e : PyData} (g : Gl d l H H') (hD : DeckL d l H) (c : noL e = true) (h : Dp K H v e) : Dp K H' v e := dp_mono (fun _ _ t => g.tup hD t) e v c h
theorem upd_dps {p : Addr} {ys : List V} {u : HO} (e : H p = some (.lst ys)) (c : noLs ds = true) (h : DpAll K H xs ds) : DpAll K (upd H p u) xs ds := dps_mono (fun _ _ t => tup_upd e lst_not t) ds xs c h
theorem upd_dp {p : Addr} {ys : List V} {u : HO} {e : PyData} (h0 : H p = some (.lst ys)) (c : noL e = true) (h : Dp K H v e) : Dp K (upd H p u) v e := dp_mono (fun _ _ t => tup_upd h0 lst_not t) e v c h
end
/-! ### plain answers as told -/
abbrev An := Int × Option (List Int)
def dA1 : Option (List Int) → PyData
  | none => .tuple [.str "no"]
  | some r => .tuple [.str "all", dR r]
def dP (p : An) : PyData := .tuple [.int p.1, dA1 p.2]
theorem noL_ints : ∀ r : List Int, noLs (dI r) = true
  | [] => rfl
  | _ :: r => noL_ints r
theorem noL_A1 : ∀ o : Option (List Int), noL (dA1 o) = true
  | none => rfl
  | some r => by
    show (noLs (dI r) && true) = true
    rw [noL_ints r] <;> rfl
theorem noL_P (p : An) : noL (dP p) = true := by
  show (noL (dA1 p.2) && true) = true
  rw [noL_A1] <;> rfl
theorem noL_Ps (as : List An) : noLs (as.map dP) = true := noLs_all fun d h => by
  obtain ⟨p, _, rfl⟩ := List.mem_map.mp h
  exact noL_P p
def upI (i : Nat) : List Int := (List.range i).map fun j : Nat => 1 + (j : Int)
theorem upI_snoc (i : Nat) : upI (i + 1) = upI i ++ [1 + (i : Int)] := by
  unfold upI
  rw [List.range_succ, List.map_append] <;> rfl
theorem upI_mem {i : Nat} {x : Int} : x ∈ upI i ↔ 1 ≤ x ∧ x ≤ (i : Int) := by
  unfold upI
  rw [List.mem_map]
  constructor
  · rintro ⟨j, hj, rfl⟩
    have := List.mem_range.mp hj
    omega
  · rintro ⟨h1, h2⟩
    exact ⟨(x - 1).toNat, List.mem_range.mpr (by omega), by omega⟩
theorem upI_nodup (i : Nat) : (upI i).Nodup := by
  unfold upI List.Nodup
  rw [List.pairwise_map]
  exact List.pairwise_lt_range.imp fun {i j} h => by omega
theorem upI_length (i : Nat) : (upI i).length = i := by
  unfold upI
  rw [List.length_map, List.length_range]
def GoodA (z : Str) (p : An) : Prop := ∀ r, p.2 = some r → Row (p.1.natAbs - 1) r ∧ ∀ y ∈ r, heldBy z "e" y = true
structure AnsOk (i : Nat) (z : Str) (as : List An) : Prop where
  fst : as.map Prod.fst = (upI i).filter (heldBy z "s")
  good : ∀ p ∈ as, GoodA z p
theorem AnsOk.nil (z : Str) : AnsOk 0 z [] := ⟨rfl, nofun⟩
theorem AnsOk.skip {i : Nat} {z : Str} {as : List An} (h : AnsOk i z as) (c : heldBy z "s" (1 + (i : Int)) = false) : AnsOk (i + 1) z as := by
  refine ⟨?_, h.good⟩
  rw [upI_snoc, List.filter_append, h.fst, List.filter_cons_of_neg (by rw [c]; decide), List.filter_nil, List.append_nil]
theorem AnsOk.put {i : Nat} {z : Str} {as : List An} (h : AnsOk i z as) (c : heldBy z "s" (1 + (i : Int)) = true) {o : Option (List Int)} (g : GoodA z (1 + (i : Int), o)) : AnsOk (i + 1) z (as ++ [(1 + (i : Int), o)]) := by
  refine ⟨?_, fun p hp => ?_⟩
  · rw [upI_snoc, List.filter_append, List.map_append, h.fst, List.filter_cons_of_pos c, List.filter_nil] <;> rfl
  · rcases List.mem_append.mp hp with hp | hp
    · exact h.good p hp
    · rw [List.mem_singleton.mp hp]
      exact g
theorem AnsOk.len {i : Nat} {z : Str} {as : List An} (h : AnsOk i z as) : as.length ≤ i := by
  have e := congrArg List.length h.fst
  rw [List.length_map] at e
  rw [e]
  have := List.length_filter_le (heldBy z "s") (upI i)
  rw [upI_length] at this
  exact this
theorem at_up {n : Nat} {z : Str} {x : Int} (h : OwnS n z) (h1 : 1 ≤ x) (h2 : x ≤ (n : Int)) : atI z.cps.toList (x - 1) = some (sgn z x) := by
  have e : x - 1 = (x.natAbs : Int) - 1 := by omega
  rw [e]
  exact at_sgn h (by omega) (by omega)
theorem row_of_sorted {i : Nat} {av ms ts us : List Int} {k : Nat} (hav : ∀ x ∈ av, 1 ≤ x ∧ x ≤ (i : Int)) (hnd : av.Nodup) (pm : ms.Perm av) (et : ts.map Int.natAbs = (ms.take k).map Int.natAbs)
    (pu : us.Perm ts) (so : us.Pairwise (fun x y => x.natAbs ≤ y.natAbs)) : Row i us ∧ ∀ y ∈ us, (y.natAbs : Int) ∈ av := by
  have p1 : (us.map Int.natAbs).Perm ((ms.take k).map Int.natAbs) := et ▸ pu.map _
  have hm : ∀ x ∈ ms.take k, x ∈ av := fun x hx => pm.mem_iff.mp (List.mem_of_mem_take hx)
  have n1 : (ms.take k).Nodup := (pm.nodup_iff.mpr hnd).sublist (List.take_sublist _ _)
  have n2 : ((ms.take k).map Int.natAbs).Nodup := by
    unfold List.Nodup
    rw [List.pairwise_map]
    refine List.Pairwise.imp_of_mem (fun {a b} ha hb hab e => hab ?_) n1
    have := hav a (hm a ha)
    have := hav b (hm b hb)
    omega
  have n3 := p1.nodup_iff.mpr n2
  unfold List.Nodup at n3
  rw [List.pairwise_map] at n3
  have hy : ∀ y ∈ us, (y.natAbs : Int) ∈ av := fun y hy => by
    have h1 : y.natAbs ∈ (ms.take k).map Int.natAbs := p1.mem_iff.mp (List.mem_map_of_mem hy)
    obtain ⟨t, ht, e⟩ := List.mem_map.mp h1
    have h2 := hm t ht
    have := hav t h2
    have e2 : (y.natAbs : Int) = t := by omega
    rw [e2]
    exact h2
  refine ⟨⟨(so.and n3).imp fun {a b} q => ?_, fun y h => ?_⟩, hy⟩
  · have q2 : a.natAbs ≠ b.natAbs := q.2
    have := q.1
    omega
  · have := hav _ (hy y h)
    omega
theorem held_abs {z h : Str} {y : Int} : heldBy z h (y.natAbs : Int) = heldBy z h y := by
  unfold heldBy sgn
  rw [Int.natAbs_natCast]
theorem map_filter_ints (f : Nat → Bool) (i : Nat) : ((List.range i).filter f).map (fun j : Nat => V.int (1 + (j : Int))) = (((List.range i).filter f).map fun j : Nat => 1 + (j : Int)).map V.int := by
  rw [List.map_map] <;> rfl
/-- letters of EACH's among the first ones -/
def avI (z : Str) (i : Nat) : List Int := ((List.range i).filter fun j : Nat => heldBy z "e" (1 + (j : Int))).map fun j : Nat => 1 + (j : Int)
theorem avI_mem {z : Str} {i : Nat} {x : Int} (h : x ∈ avI z i) : (1 ≤ x ∧ x ≤ (i : Int)) ∧ heldBy z "e" x = true := by
  obtain ⟨j, hj, rfl⟩ := List.mem_map.mp h
  obtain ⟨h1, h2⟩ := List.mem_filter.mp hj
  have := List.mem_range.mp h1
  exact ⟨⟨by omega, by omega⟩, h2⟩
theorem avI_nodup (z : Str) (i : Nat) : (avI z i).Nodup := by
  unfold avI List.Nodup
  rw [List.pairwise_map]
  exact (List.pairwise_lt_range.sublist List.filter_sublist).imp fun {i j} h => by omega
theorem avI_length (z : Str) (i : Nat) : (avI z i).length ≤ i := by
  unfold avI
  rw [List.length_map]
  have := List.length_filter_le (fun j : Nat => heldBy z "e" (1 + (j : Int))) (List.range i)
  rw [List.length_range] at this
  exact this
section
variable {P : Program} {w : World} {K : PySem.W.Frag} {mg : Str → Option Value} {base : Heap}
def spOwn (K : PySem.W.Frag) : Sp := fun vs H Q _ => ∃ (d l p : Addr) (n : Nat) (z : Str) (most : Int) (ys : List Int), vs = [.ref d, .str z, .int most, .ref p] ∧ DeckL d l H ∧ OwnS n z ∧ n ≤ 60 ∧ 0 ≤ most ∧ most ≤ 60 ∧
  H p = some (.lst (ys.map V.int)) ∧ p ≠ d ∧ p ≠ l ∧ 1 ≤ ys.length ∧ ys.length ≤ 10 ∧ (∀ y ∈ ys, y = 1 ∨ y = -1) ∧
  ∀ (a : Addr) (xs : List V) (as : List An) (H' : Hp), Gl d l H H' → Fz H' a xs → DpAll K H' xs (as.map dP) → AnsOk n z as → Q (.ref a) H'
theorem ok_own {f fD fP fM : Addr} {fd fdD fdP fdM : FuncData} (F : Fun K "_law_own" "_law_own" s_law_own f fd) (T : Bl mg)
    (G_law_draw : FnOk P w K mg base CX0 1 fD fdD ["bag", "many"] spDraw) (C_law_draw : Callee K mg "_law_draw" fD fdD ["bag", "many"])
    (G_law_pick : FnOk P w K mg base CX0 2 fP fdP ["bag", "row"] spPick) (C_law_pick : Callee K mg "_law_pick" fP fdP ["bag", "row"])
    (G_law_mixed : FnOk P w K mg base CX0 2 fM fdM ["bag", "row"] (spMixed K)) (C_law_mixed : Callee K mg "_law_mixed" fM fdM ["bag", "row"]) :
    FnOk P w K mg base CX0 3 f fd ["bag", "owners", "most", "signs"] (spOwn K) := by
  refine F.ok sc_law_own (fun vs H Q E h => ?_) (fun cdv A outer s H vs Q E hr h => ?_)
  · obtain ⟨d, l, p, n, z, most, ys, rfl, _⟩ := h
    rfl
  · obtain ⟨d, l, p, n, z, most, ys, rfl, hD, hz, hn, m0, m1, hp, pd, pl, y0, y1, hy, q⟩ := h
    refine ⟨_, (pss_cons (ps_set (i := 4) sc_law_own.nd rfl (Or.inl rfl) (pe_lst pa_nil))
 (pss_cons (ps_for PassesOwn.never rfl (pi_range2 (by rfl) T.range (pa_cons pe_int (pa_cons (pe_op op_add (pe_callB c_lenS (by rfl) T.len (by decide +kernel) (pa_cons (pv 1) pa_nil)) pe_int) pa_nil))) (pg_name (i := 5) sc_law_own.nd rfl (Or.inl rfl)) (pss_one (ps_if (pt_cmpR op_eq (pe_ix ix_str (pv 1) (pe_op op_sub (pv 5) pe_int) (fun _ _ => rfl)) pe_str (nomark _)) (pss_cons (ps_setLc (i := 6) (own := [("k", 9)]) (g := gName 9) rfl sc_law_own.nd rfl rfl (sw_true rfl rfl rfl (by decide +kernel)) (pi_range2 (by rfl) T.range (pa_cons pe_int (pa_cons (pv 5) pa_nil))) (blkOk_by (own := [("k", 9)]) (N := ["bag", "owners", "most", "signs", "found", "x", "ahead", "some", "row", "k"]) (sc := defScope s_law_own) (by decide +kernel)) (fun _ _ _ _ _ => (pg_name (i := 9) sc_law_own.nd rfl (Or.inl rfl))) (fun _ _ _ _ _ => (pts_one (pt_cmpR op_eq (pe_ix ix_str (pv 1) (pe_op op_sub (pv 9) pe_int) (fun _ _ => rfl)) pe_str (nomark _)))) (fun _ _ _ _ _ => (pv 9)))
 (pss_cons (ps_set (i := 7) sc_law_own.nd rfl (Or.inl rfl) (pe_slice (sk_list (K := K) rfl) (pe_call G_law_mixed (hr.mono (by decide)) (by rfl) C_law_mixed.m C_law_mixed.k C_law_mixed.b .nil pass0 (pa_cons (pv 0) (pa_cons (pv 6) pa_nil))) po_none (po_some (pe_call G_law_draw (hr.mono (by decide)) (by rfl) C_law_draw.m C_law_draw.k C_law_draw.b .nil pass0 (pa_cons (pv 0) (pa_cons (pe_op op_add (pv 2) pe_int) pa_nil))))))
 (pss_cons (ps_set (i := 8) sc_law_own.nd rfl (Or.inl rfl) (pe_callTy (c_tupFz (K := K) rfl) (by rfl) T.tuple (by decide +kernel) (pa_cons (pe_sortAbs (K := K) rfl hr.units (by rfl) T.sorted (by rfl) T.abs (pa_cons (pe_lc (own := [("k", 9)]) (g := gName 9) rfl sc_law_own.nd (ik_listI (K := K) rfl (pv 7)) (blkOk_by (own := [("k", 9)]) (N := ["bag", "owners", "most", "signs", "found", "x", "ahead", "some", "row", "k"]) (sc := defScope s_law_own) (by decide +kernel)) (fun _ _ _ _ _ => (pg_name (i := 9) sc_law_own.nd rfl (Or.inl rfl))) (fun _ _ _ _ _ => pts_nil) (fun _ _ _ _ _ => (pe_op op_mul (pv 9) (pe_call G_law_pick (hr.mono (by decide)) (by rfl) C_law_pick.m C_law_pick.k C_law_pick.b .nil pass0 (pa_cons (pv 0) (pa_cons (pv 3) pa_nil)))))) pa_nil)) pa_nil)))
 (pss_one (ps_expr (pe_bm PySem.F.plainAttrs_list PySem.F.slot_list_append PySem.F.type_list_append mt_append (pv 4) (pa_cons (pe_tup (pa_cons (pv 5) (pa_cons (pe_ifExp (pt_cmpR op_eq (pe_call G_law_draw (hr.mono (by decide)) (by rfl) C_law_draw.m C_law_draw.k C_law_draw.b .nil pass0 (pa_cons (pv 0) (pa_cons pe_int pa_nil))) pe_int (nomark _)) (pe_tup (pa_cons pe_str pa_nil)) (pe_tup (pa_cons pe_str (pa_cons (pv 8) pa_nil)))) pa_nil))) pa_nil))))))) pss_nil)))
 (pss_one (ps_ret (pe_callTy (c_tupFz (K := K) rfl) (by rfl) T.tuple (by decide +kernel) (pa_cons (pv 4) pa_nil)))))), ?_⟩
    refine rd_start (σ' := [some (.ref d), some (.str z), some (.int most), some (.ref p), none, none, none, none, none, none]) rfl ?_
    walk_at "rds"
    refine ⟨Nat.zero_le _, fun b hb => ?_⟩
    have g1 := Gl.new (o := .lst []) hD hb
    walk_at "rds"
    refine rd_lenS (by rw [hz.1, sizeLine_eq]; omega) ?_
    rw [hz.1]
    walk_at "rds"
    refine ⟨1, (n : Int) + 1, rfl, ⟨by decide, by decide, by omega, by omega⟩, ?_⟩
    have en : ((n : Int) + 1 - 1).toNat = n := by omega
    have zl : z.length ≤ sizeLine := by rw [hz.1, sizeLine_eq]; omega
    refine fr_range (lo := 1) (n := ((n : Int) + 1 - 1).toNat) (fun i σ' H' => ∃ (x5 x6 x7 x8 : Option V) (xs : List V) (as : List An), σ' = [some (.ref d), some (.str z), some (.int most), some (.ref p), some (.ref b), x5, x6, x7, x8, none] ∧ Gl d l H H' ∧
        H' b = some (.lst xs) ∧ DpAll K H' xs (as.map dP) ∧ AnsOk i z as)
      ⟨_, _, _, _, [], [], rfl, g1, upd_same, .nil, AnsOk.nil z⟩ (fun i σ' H' hi hP => ?_) fun σ' H' hP => ?_
    · obtain ⟨x5, x6, x7, x8, xs, as, rfl, g, hx, hd, hok⟩ := hP
      rw [en] at hi
      refine rd_start (σ' := [some (.ref d), some (.str z), some (.int most), some (.ref p), some (.ref b), some (.int (1 + (i : Int))), x6, x7, x8, none]) rfl ?_
      walk_at "rds"
      refine rd_ixS zl (at_up hz (by omega) (by omega)) ?_
      walk_at "rds"
      refine rd_iteb (b := heldBy z "s" (1 + (i : Int))) (fun c => ?_) (fun c => ?_)
      · walk_at "rds"
        refine ⟨1, 1 + (i : Int), rfl, ⟨by decide, by decide, by omega, by omega⟩, ?_⟩
        have ei : (1 + (i : Int) - 1).toNat = i := by omega
        refine lc_fmR (lo := 1) (n := (1 + (i : Int) - 1).toNat) (fun j : Nat => heldBy z "e" (1 + (j : Int))) (fun j : Nat => .int (1 + (j : Int))) (σx := fun x => [some (.ref d), some (.str z), some (.int most), some (.ref p), some (.ref b), some (.int (1 + (i : Int))), x6, x7, x8, some x]) (by omega) (fun _ => rfl) (fun _ => rfl)
          (fun j hj H' N S e kN kS => ?_) fun D H2 e2 eD hD2 => ?_
        · walk_at "rds"
          refine rd_ixS zl (at_up hz (by omega) (by omega)) ?_
          walk_at "rds"
          refine rd_iteb (b := heldBy z "e" (1 + (j : Int))) (fun c => ?_) (fun c => ?_)
          · walk_at "rds"
            exact kN c _ (Evl.Ex.refl _)
          · exact kS c _ (Evl.Ex.refl _)
        rw [map_filter_ints, ei] at hD2
        replace hD2 : H2 D = some (.lst ((avI z i).map V.int)) := hD2
        have g2 := Gl.ex e2 g.dk
        walk_at "rds"
        refine ⟨d, l, D, avI z i, rfl, g2.dk, .inl (SqL.of hD2), by have := avI_length z i; omega, fun q1 ms H3 g3 qn hq1 pm => ?_⟩
        have lm : ms.length ≤ 60 := by
          rw [pm.length_eq]
          have := avI_length z i
          omega
        obtain ⟨qd, ql⟩ := g2.dk.off qn
        walk_at "rds"
        refine ⟨d, l, _, rfl, g3.dk, by omega, by omega, fun r H4 g4 r0 r1 => ?_⟩
        have hq4 := g4.kp q1 _ qd ql hq1
        walk_at "rds"
        refine rd_slL (SqL.of hq4) fun u hu => ?_
        rw [cut_take r0, ← List.map_take]
        have g5 := (g3.trans g4).trans (Gl.new (o := .lst ((ms.take r.toNat).map V.int)) g4.dk hu)
        obtain ⟨ud, ul⟩ := g4.dk.off hu
        have g25 := (g.trans g2).trans g5
        have hp5 := g25.kp p _ pd pl hp
        walk_at "rds"
        refine rd_refL (SqL.of upd_same) ?_
        refine lc_glL (xs := (ms.take r.toNat).map V.int) (fun i acc => ∃ ts : List Int, acc = ts.map V.int ∧ ts.map Int.natAbs = ((ms.take r.toNat).take i).map Int.natAbs)
          (σx := fun x => [some (.ref d), some (.str z), some (.int most), some (.ref p), some (.ref b), some (.int (1 + (i : Int))), some (.ref D), some (.ref u), x8, some x])
          g5.dk (fun H' g => SqL.of (g.kp u _ ud ul upd_same)) (by rw [List.length_map, List.length_take]; omega) (fun _ => rfl) (fun _ => rfl) ⟨[], rfl, rfl⟩ (fun j x hx acc H8 N S g8 hP kN kS => ?_) fun D2 acc H8 g8 eD2 hacc hP => ?_
        · obtain ⟨ts, rfl, et⟩ := hP
          rw [List.getElem?_map] at hx
          obtain ⟨t, ht, rfl⟩ := Option.map_eq_some_iff.mp hx
          walk_at "rds"
          refine ⟨d, l, p, _, rfl, g8.dk, g8.kp p _ pd pl hp5, pd, pl, by rw [List.length_map]; omega, by rw [List.length_map]; omega, fun y H9 g9 hy9 => ?_⟩
          obtain ⟨s, hs, rfl⟩ := List.mem_map.mp hy9
          have fin : ∀ s2 : Int, s2.natAbs = t.natAbs → N (.int s2) H9 := fun s2 e => by
            refine kN _ _ g9 ⟨ts ++ [s2], by rw [List.map_append] <;> rfl, ?_⟩
            rw [List.take_add_one, ht, List.map_append, List.map_append, et]
            show _ ++ [s2.natAbs] = _ ++ [t.natAbs]
            rw [e]
          walk_at "rds"
          refine rd_I (by rcases hy s hs with rfl | rfl <;> exact .inr ⟨by decide, by decide⟩) ?_
          refine fin _ ?_
          rcases hy s hs with rfl | rfl
          · rw [Int.mul_one]
          · rw [Int.natAbs_mul]
            exact Nat.mul_one _
        obtain ⟨ts, rfl, et⟩ := hP
        rw [List.length_map, List.take_of_length_le (Nat.le_refl _)] at et
        walk_at "rds"
        refine rd_sortAbs (SqL.of hacc) fun us v pu so hv => ?_
        obtain ⟨hrow, hown⟩ := row_of_sorted (i := i) (fun x hx => (avI_mem hx).1) (avI_nodup z i) pm et pu so
        have g9 := Gl.new (o := .lst (us.map V.int)) g8.dk hv
        walk_at "rds"
        refine rd_tupFz (SqL.of upd_same) fun t o ht ho => ?_
        have gA := g9.trans (Gl.new (o := .frz o (.tup (us.map V.int))) g9.dk ht)
        have g5A := (g5.trans g8).trans gA
        have gAll := (g.trans g2).trans g5A
        have sA : SqT K (upd (upd H8 v (.lst (us.map V.int))) t (.frz o (.tup (us.map V.int)))) t (us.map V.int) := Fz.sq ⟨o, upd_same, ho⟩
        have hgood : GoodA z (1 + (i : Int), some us) := fun r' er => by
          cases er
          have e1 : (1 + (i : Int)).natAbs - 1 = i := by omega
          refine ⟨by rw [e1]; exact hrow, fun y hy' => ?_⟩
          have := (avI_mem (hown y hy')).2
          rw [held_abs] at this
          exact this
        have xA := g5A.kp b _ (hD.off hb).1 (hD.off hb).2 (g2.kp b _ (hD.off hb).1 (hD.off hb).2 hx)
        have dA := Gl.dps (g2.trans g5A) g.dk (noL_Ps as) hd
        have hDA := gAll.dk
        clear gA g9 g8 g5 g4 g3 hq4 hq1 hp5 hacc eD2 hv ht hD2 eD e2 g2 hx hd g25 g5A pm qn qd ql hu ud ul g
        generalize upd (upd H8 v (.lst (us.map V.int))) t (.frz o (.tup (us.map V.int))) = HA at sA xA dA hDA gAll ⊢
        walk_at "rds"
        refine rd_tyL xA ?_
        walk_at "rds"
        refine ⟨d, l, 3, rfl, hDA, by decide, by decide, fun r3 HB gB b0 b1 => ?_⟩
        walk_at "rds"
        refine rd_ite2 (fun v H' => ∃ oa, Evl.Ex HB H' ∧ Dp K H' v (dA1 oa) ∧ GoodA z (1 + (i : Int), oa)) (fun R kR => ?_) (fun R kR => ?_) fun v HC hv => ?_
        · walk_at "rds"
          refine ⟨(by show 1 ≤ sizeLine; decide), fun q3 hq3 => ?_⟩
          exact kR _ _ ⟨none, Evl.Ex.new hq3, .tup (SqT.of upd_same) (.cons (.str _) .nil), fun r' er => nomatch er⟩
        · walk_at "rds"
          refine ⟨(by show 2 ≤ sizeLine; decide), fun q3 hq3 => ?_⟩
          have e3 := Evl.Ex.new (o := .tup [V.str "all", V.ref t]) hq3
          exact kR _ _ ⟨some us, e3, .tup (SqT.of upd_same) (.cons (.str _) (.cons (dp_of_row (Evl.ex_t e3 (gB.tup hDA sA))) .nil)), hgood⟩
        obtain ⟨oa, eC, dC, hgo⟩ := hv
        walk_at "rds"
        refine ⟨(by show 2 ≤ sizeLine; decide), fun q4 hq4 => ?_⟩
        have e4 := Evl.Ex.new (o := .tup [V.int (1 + (i : Int)), v]) hq4
        have gE := gB.trans (Gl.ex (eC.trans e4) gB.dk)
        have xE := gE.kp b _ (hD.off hb).1 (hD.off hb).2 xA
        have lx : xs.length ≤ 60 := by
          have := hok.len
          rw [dpAll_len dA, List.length_map]
          omega
        walk_at "rds"
        refine rd_append xE (by omega) ?_
        walk_at "rds"
        have dE : DpAll K (upd HC q4 (.tup [V.int (1 + (i : Int)), v])) (xs ++ [V.ref q4]) ((as ++ [(1 + (i : Int), oa)]).map dP) := by
          rw [List.map_append]
          exact dpAll_app (Gl.dps gE hDA (noL_Ps as) dA) (.cons (.tup (SqT.of upd_same) (.cons (.int _) (.cons (dp_ex e4 _ _ dC) .nil))) .nil)
        exact ⟨_, _, _, _, _, _, rfl, Gl.mut (gAll.trans gE) hD hb, upd_same, upd_dps xE (noL_Ps _) dE, hok.put c hgo⟩
      · walk_at "rds"
        exact ⟨_, _, _, _, xs, as, rfl, g, hx, hd, hok.skip c⟩
    · obtain ⟨x5, x6, x7, x8, xs, as, rfl, g, hx, hd, hok⟩ := hP
      rw [en] at hok
      walk_at "rds"
      refine rd_tupFz (SqL.of hx) fun t o ht ho => ?_
      have gt := Gl.new (o := .frz o (.tup xs)) g.dk ht
      exact q t xs as _ (g.trans gt) ⟨o, upd_same, ho⟩ (Gl.dps gt g.dk (noL_Ps as) hd) hok
end
end KA
set_option Elab.async false
set_option linter.all false
set_option maxRecDepth 100000
set_option maxHeartbeats 400000
set_option pp.maxSteps 300
namespace KA
open PySem PySem.Spec PyProof.Rows L2 Ea
abbrev sanswers_reply : Stmt := topS 1
theorem scanswers_reply : FnScope ["answers", "play", "letter", "answer", "given", "told", "literal"] ["answers", "play"] (defScope sanswers_reply) :=
  ⟨rfl, rfl, rfl, by decide +kernel, rfl, by decide +kernel, by decide +kernel⟩
abbrev s_law_said : Stmt := topS 9
theorem sc_law_said : FnScope ["heard", "play", "x", "answer", "y"] ["heard", "play"] (defScope s_law_said) :=
  ⟨rfl, rfl, rfl, by decide +kernel, rfl, by decide +kernel, by decide +kernel⟩
local macro_rules | `(tactic| walk_at "rd") => `(tactic| first
  | (with_reducible refine rd_seq ?_) | (with_reducible refine rd_asg ?_) | (with_reducible refine rd_if ?_) | (with_reducible refine rd_ret ?_) | (with_reducible refine rd_next ?_)
  | (with_reducible refine rd_drop ?_) | ((with_reducible refine rd_name (σ' := ?ss) ?hs ?_); (case hs => (dsimp only [List.set]; exact rfl)))
  | ((with_reducible refine rd_var (v := ?vv) ?hv ?_); (case hv => exact rfl)) | (with_reducible refine rd_c ?_) | (with_reducible refine rd_op ?_) | (with_reducible refine rd_un ?_)
  | (with_reducible refine rd_I0 ?_) | (with_reducible refine rd_U ?_) | (with_reducible refine rd_test ?_) | (with_reducible refine rd_B ?_) | (with_reducible refine rd_k ?_)
  | (with_reducible refine rd_not ?_) | (with_reducible refine rd_and ?_) | (with_reducible refine rd_or ?_) | (with_reducible refine rd_ifE ?_)
  | (with_reducible refine rd_par ?_) | ((with_reducible refine rd_par2 (σ' := ?ss) ?hs ?_); (case hs => (dsimp only [List.set]; exact rfl)))
  | (with_reducible refine rd_gsub ?_) | (with_reducible refine rd_andV ?_) | (with_reducible refine rd_orV ?_) | (with_reducible refine rd_notV ?_)
  | (with_reducible refine rd_lc ?_) | (with_reducible refine rd_iTup ?_) | (with_reducible refine rd_iList ?_) | (with_reducible refine rd_iRng1 ?_) | (with_reducible refine rd_iRng2 ?_) | (with_reducible refine rd_iEnumT ?_) | (with_reducible refine rd_iEnum ?_) | (with_reducible refine rd_iZipM ?_)
  | (with_reducible refine rd_yes ?_) | (with_reducible refine rd_true ?_) | (with_reducible refine rd_false ?_) | (with_reducible refine rd_m1 ?_) | (with_reducible refine rd_isS ?_)
  | ((with_reducible refine rd_eq ?hs ?_); (case hs => exact rfl)) | ((with_reducible refine rd_ne ?hs ?_); (case hs => exact rfl))
  | (with_reducible refine rd_listRg ?_) | (with_reducible refine rd_rg2 ?_) | (with_reducible refine rd_rgk ?_)
  | (with_reducible refine rd_dnew ?_) | (with_reducible refine rd_ddel ?_) | (with_reducible refine rd_kw ?_) | (with_reducible refine rd_callS ?_) | (with_reducible refine rd_dc ?_) | (with_reducible refine rd_for ?_) | (with_reducible refine rd_tru ?_) | (with_reducible refine rd_truI ?_)
  | (with_reducible refine rd_nil ?_) | (with_reducible refine rd_cons ?_) | (with_reducible refine rd_call ?_) | (with_reducible refine rd_cb ?_)
  | (with_reducible refine rd_tup ?_) | (with_reducible refine rd_lst ?_) | (with_reducible refine rd_dget ?_) | (with_reducible refine rd_dput ?_) | (with_reducible refine rd_dget2 ?_) | (with_reducible refine rd_sl ?_)
  | (with_reducible refine rd_nopart ?_) | (with_reducible refine rd_part ?_) | (with_reducible refine rd_parti ?_) | (with_reducible refine rd_bm ?_) | (with_reducible refine rd_bm0 ?_)
  | (with_reducible refine rd_int ?_) | (with_reducible refine rd_intb ?_) | (with_reducible refine rd_abs ?_) | (with_reducible refine rd_min2 ?_) | (with_reducible refine rd_max2 ?_))
local macro_rules | `(tactic| walk_at "rds") => `(tactic| repeat (walk_at "rd"))
local macro_rules | `(tactic| walk_at "rq") => `(tactic| first
  | (with_reducible refine rd_seq ?_) | (with_reducible refine rd_asg ?_) | (with_reducible refine rd_ret ?_) | (with_reducible refine rd_next ?_)
  | (with_reducible refine rd_drop ?_) | ((with_reducible refine rd_name (σ' := ?ss) ?hs ?_); (case hs => (dsimp only [List.set]; exact rfl)))
  | ((with_reducible refine rd_var (v := ?vv) ?hv ?_); (case hv => exact rfl)) | (with_reducible refine rd_c ?_) | (with_reducible refine rd_op ?_) | (with_reducible refine rd_un ?_)
  | (with_reducible refine rd_I0 ?_) | (with_reducible refine rd_U ?_) | (with_reducible refine rd_test ?_) | (with_reducible refine rd_B ?_) | (with_reducible refine rd_k ?_)
  | (with_reducible refine rd_not ?_) | (with_reducible refine rd_and ?_) | (with_reducible refine rd_or ?_) | (with_reducible refine rd_ifE ?_)
  | (with_reducible refine rd_par ?_) | ((with_reducible refine rd_par2 (σ' := ?ss) ?hs ?_); (case hs => (dsimp only [List.set]; exact rfl)))
  | (with_reducible refine rd_gsub ?_) | (with_reducible refine rd_andV ?_) | (with_reducible refine rd_orV ?_) | (with_reducible refine rd_notV ?_)
  | (with_reducible refine rd_lc ?_) | (with_reducible refine rd_iTup ?_) | (with_reducible refine rd_iList ?_) | (with_reducible refine rd_iRng1 ?_) | (with_reducible refine rd_iRng2 ?_) | (with_reducible refine rd_iEnumT ?_) | (with_reducible refine rd_iEnum ?_) | (with_reducible refine rd_iZipM ?_)
  | (with_reducible refine rd_yes ?_) | (with_reducible refine rd_true ?_) | (with_reducible refine rd_false ?_) | (with_reducible refine rd_m1 ?_) | (with_reducible refine rd_isS ?_)
  | ((with_reducible refine rd_eq ?hs ?_); (case hs => exact rfl)) | ((with_reducible refine rd_ne ?hs ?_); (case hs => exact rfl))
  | (with_reducible refine rd_listRg ?_) | (with_reducible refine rd_rg2 ?_) | (with_reducible refine rd_rgk ?_)
  | (with_reducible refine rd_dnew ?_) | (with_reducible refine rd_ddel ?_) | (with_reducible refine rd_kw ?_) | (with_reducible refine rd_callS ?_) | (with_reducible refine rd_dc ?_) | (with_reducible refine rd_for ?_) | (with_reducible refine rd_tru ?_) | (with_reducible refine rd_truI ?_)
  | (with_reducible refine rd_nil ?_) | (with_reducible refine rd_cons ?_) | (with_reducible refine rd_call ?_) | (with_reducible refine rd_cb ?_)
  | (with_reducible refine rd_tup ?_) | (with_reducible refine rd_lst ?_) | (with_reducible refine rd_dget ?_) | (with_reducible refine rd_dput ?_) | (with_reducible refine rd_dget2 ?_) | (with_reducible refine rd_sl ?_)
  | (with_reducible refine rd_nopart ?_) | (with_reducible refine rd_part ?_) | (with_reducible refine rd_parti ?_) | (with_reducible refine rd_bm ?_) | (with_reducible refine rd_bm0 ?_)
  | (with_reducible refine rd_int ?_) | (with_reducible refine rd_intb ?_) | (with_reducible refine rd_abs ?_) | (with_reducible refine rd_min2 ?_) | (with_reducible refine rd_max2 ?_))
local macro_rules | `(tactic| walk_at "rqs") => `(tactic| repeat (walk_at "rq"))

section
variable {K : PySem.W.Frag} {H H' : Hp} {v : V} {xs : List V}
theorem merge_no {k : Key} : ∀ {kvs acc : List (Key × V)}, k ∉ kvs.map (·.1) → valV (mergeK acc kvs) k = valV acc k
  | [], _, _ => rfl
  | kv :: t, acc, h => by
    show valV (mergeK (putK acc kv.1 kv.2) t) k = _
    rw [merge_no (fun hm => h (List.mem_cons_of_mem _ hm)), valV_put, if_neg]
    exact fun e => h (e ▸ List.mem_cons_self)
theorem merge_val {k : Key} {v : V} : ∀ {kvs acc : List (Key × V)}, (kvs.map (·.1)).Nodup → (k, v) ∈ kvs → valV (mergeK acc kvs) k = some v
  | kv :: t, acc, hn, hm => by
    have hn' : kv.1 ∉ t.map (·.1) ∧ (t.map (·.1)).Nodup := List.nodup_cons.mp hn
    show valV (mergeK (putK acc kv.1 kv.2) t) k = _
    rcases List.mem_cons.mp hm with e | hm
    · subst e
      rw [merge_no hn'.1, valV_put, if_pos rfl]
    · exact merge_val hn'.2 hm
/-- the pairs of a row of plain answers -/
theorem pairs_of_ans : ∀ {xs : List V} {as : List An}, DpAll K H xs (as.map dP) → ∃ (ps : List Addr) (kvs : List (Key × V)), xs = ps.map V.ref ∧ Paired (fun p kv => SqT K H p [kV kv.1, kv.2]) ps kvs ∧
    kvs.map (·.1) = as.map (fun p => (Sum.inl p.1 : Key)) ∧ Paired (fun kv p => kv.1 = (Sum.inl p.1 : Key) ∧ Dp K H kv.2 (dA1 p.2)) kvs as
  | _, [], h => by
    cases h
    exact ⟨[], [], rfl, .nil, rfl, .nil⟩
  | _, p :: as, h => by
    cases h with
    | cons h1 h2 =>
      obtain ⟨ps, kvs, rfl, e1, e2, e3⟩ := pairs_of_ans h2
      unfold dP at h1
      cases h1 with
      | @tup a ys _ hs ha =>
        cases ha with
        | @cons _ _ _ _ g1 g2 =>
          cases g1
          cases g2 with
          | @cons v2 _ _ _ g3 g4 =>
            cases g4
            exact ⟨a :: ps, (Sum.inl p.1, v2) :: kvs, rfl, .cons hs e1, by rw [List.map_cons, List.map_cons, e2], .cons ⟨rfl, g3⟩ e3⟩
theorem paired_get {α β : Type} {R : α → β → Prop} : ∀ {l : List α} {m : List β} {i : Nat} {b : β}, Paired R l m → m[i]? = some b → ∃ a, l[i]? = some a ∧ R a b
  | _, _, 0, b, .cons h _, e => by
    obtain rfl : _ = b := Option.some.inj e
    exact ⟨_, rfl, h⟩
  | _, _, i + 1, b, .cons _ t, e => paired_get (i := i) t e
  | _, _, i, b, .nil, e => by simp at e
theorem paired_len {α β : Type} {R : α → β → Prop} : ∀ {l : List α} {m : List β}, Paired R l m → l.length = m.length
  | _, _, .nil => rfl
  | _, _, .cons _ t => congrArg (· + 1) (paired_len t)
theorem dp_none (h : Dp K H v (dA1 none)) : ∃ a, v = .ref a ∧ SqT K H a [.str "no"] := by
  unfold dA1 at h
  cases h with
  | tup hs ha =>
    cases ha with
    | cons g1 g2 =>
      cases g1
      cases g2
      exact ⟨_, rfl, hs⟩
theorem dp_some {r : List Int} (h : Dp K H v (dA1 (some r))) : ∃ a t, v = .ref a ∧ SqT K H a [.str "all", .ref t] ∧ SqT K H t (r.map V.int) := by
  unfold dA1 at h
  cases h with
  | tup hs ha =>
    cases ha with
    | cons g1 g2 =>
      cases g1
      cases g2 with
      | cons g3 g4 =>
        cases g4
        obtain ⟨t, rfl, st⟩ := dp_row g3
        exact ⟨_, t, rfl, hs, st⟩
end
/-- whether a plain answer says yes at these literals -/
def yesOf (o : Option (List Int)) (ms : List Int) : Bool := match o with
  | none => false
  | some r => r.all fun y => decide (y ∈ ms)
def sayA (o : Option (List Int)) (ms : List Int) : Int := if yesOf o ms = true then (ms.length : Int) + 1 else -((ms.length : Int) + 1)
theorem fst_inj {as : List An} (h : (as.map Prod.fst).Nodup) {p q : An} (hp : p ∈ as) (hq : q ∈ as) (e : p.1 = q.1) : p = q := by
  induction as with
  | nil => cases hp
  | cons a t ih =>
    have h' : a.1 ∉ t.map Prod.fst ∧ (t.map Prod.fst).Nodup := List.nodup_cons.mp h
    rcases List.mem_cons.mp hp with q1 | q1 <;> rcases List.mem_cons.mp hq with q2 | q2
    · rw [q1, q2]
    · refine absurd ?_ h'.1
      rw [← q1, e]
      exact List.mem_map_of_mem q2
    · refine absurd ?_ h'.1
      rw [← q2, ← e]
      exact List.mem_map_of_mem q1
    · exact ih h'.2 q1 q2
section
variable {P : Program} {w : World} {K : PySem.W.Frag} {mg : Str → Option Value} {base : Heap}
def spReply (K : PySem.W.Frag) : Sp := fun vs H Q _ => ∃ (a b : Addr) (xs : List V) (as : List An) (ms : List Int) (p : An), vs = [.ref a, .ref b] ∧ SqT K H a xs ∧ DpAll K H xs (as.map dP) ∧ as.length ≤ 1000 ∧ (as.map Prod.fst).Nodup ∧
  SqT K H b (ms.map V.int) ∧ ms.length ≤ 1000 ∧ p ∈ as ∧ p.1 = (ms.length : Int) + 1 ∧ (∀ r, p.2 = some r → r.length ≤ 1000) ∧ ∀ H', Evl.Ex H H' → Q (.int (sayA p.2 ms)) H'
theorem ok_reply {f : Addr} {fd : FuncData} (F : Fun K "answers_reply" "answers_reply" sanswers_reply f fd) (T : Bl mg) :
    FnOk P w K mg base CX0 1 f fd ["answers", "play"] (spReply K) := by
  refine F.ok scanswers_reply (fun vs H Q E h => ?_) (fun cdv A outer s H vs Q E hr h => ?_)
  · obtain ⟨a, b, xs, as, ms, p, rfl, _⟩ := h
    rfl
  · obtain ⟨a, b, xs, as, ms, p, rfl, ha, hd, hl, hnd, hb, hm, hp, ep, hr1, q⟩ := h
    refine ⟨_, (pss_cons (ps_set (i := 2) scanswers_reply.nd rfl (Or.inr rfl) (pe_op op_add (pe_callB (c_len (K := K) rfl) (by rfl) T.len (by decide +kernel) (pa_cons (pv 1) pa_nil)) pe_int))
 (pss_cons (ps_set (i := 3) scanswers_reply.nd rfl (Or.inl rfl) (pe_ix (ik_list (K := K) rfl) (pe_lc (own := [("given", 4), ("told", 5)]) (g := gTup K 2 (gCons (gName 4) (gCons (gName 5) gNil))) rfl scanswers_reply.nd (ik_tupI (K := K) rfl (pv 0)) (blkOk_by (own := [("given", 4), ("told", 5)]) (N := ["answers", "play", "letter", "answer", "given", "told", "literal"]) (sc := defScope sanswers_reply) (by decide +kernel)) (fun _ _ _ _ _ => (pgk_tup (K := K) rfl rfl (pgs_cons (pg_name (i := 4) scanswers_reply.nd rfl (Or.inl rfl)) (pgs_cons (pg_name (i := 5) scanswers_reply.nd rfl (Or.inl rfl)) pgs_nil)))) (fun _ _ _ _ _ => (pts_one (pt_cmpR op_eq (pv 4) (pv 2) (nomark _)))) (fun _ _ _ _ _ => (pv 5))) pe_int (fun _ _ => rfl)))
 (pss_cons (ps_if (PW.pt (pw_and (pt_cmpR op_eq (pe_ix (ik_tup (K := K) rfl) (pv 3) pe_int (fun _ _ => rfl)) pe_str (nomark _)) (pw_and1 (pt_val (pe_callB (c_all (K := K) rfl rfl) (by rfl) T.all (by decide +kernel) (pa_cons (pe_lc (own := [("literal", 6)]) (g := gName 6) rfl scanswers_reply.nd (ik_tupI (K := K) rfl (pe_ix (ik_tup (K := K) rfl) (pv 3) pe_int (fun _ _ => rfl))) (blkOk_by (own := [("literal", 6)]) (N := ["answers", "play", "letter", "answer", "given", "told", "literal"]) (sc := defScope sanswers_reply) (by decide +kernel)) (fun _ _ _ _ _ => (pg_name (i := 6) scanswers_reply.nd rfl (Or.inl rfl))) (fun _ _ _ _ _ => pts_nil) (fun _ _ _ _ _ => (pe_cmpR (ok_in (K := K) rfl) (pv 6) (pv 1) (by rfl)))) pa_nil)))))) (pss_one (ps_ret (pv 2))) pss_nil)
 (pss_one (ps_ret (pe_un un_neg (pv 2))))))), ?_⟩
    refine rd_start (σ' := [some (.ref a), some (.ref b), none, none, none, none, none]) rfl ?_
    walk_at "rds"
    refine rd_lenT hb ?_
    rw [List.length_map]
    walk_at "rds"
    refine rd_ref ha ?_
    obtain ⟨ps, kvs, rfl, e1, e2, e3⟩ := pairs_of_ans hd
    have l1 : ps.length = kvs.length := paired_len e1
    have l2 : kvs.length = as.length := paired_len e3
    have hat : ∀ i, i < as.length → ∃ v, kvs[i]? = some (Sum.inl (as.getD i (0, none)).1, v) ∧ Dp K H v (dA1 (as.getD i (0, none)).2) ∧ as.getD i (0, none) ∈ as := fun i hi => by
      have e4 : as[i]? = some (as.getD i (0, none)) := by rw [List.getD_eq_getElem?_getD, List.getElem?_eq_getElem hi] <;> rfl
      obtain ⟨kv, h1, h2, h3⟩ := paired_get e3 e4
      exact ⟨kv.2, by rw [h1, ← h2], h3, List.mem_of_getElem? e4⟩
    refine lc_prT (px := fun i => .int (as.getD i (0, none)).1) (py := fun i => (kvs.getD i (Sum.inl 0, .non)).2) rfl ha (by rw [List.length_map]; omega) (fun i hi => ?_) (σx := fun x y => [some (.ref a), some (.ref b), some (.int ((ms.length : Int) + 1)), none, some x, some y, none]) (fun _ _ => rfl) (fun _ _ => rfl)
      (f := fun i => decide ((as.getD i (0, none)).1 = (ms.length : Int) + 1)) (g := fun i => (kvs.getD i (Sum.inl 0, .non)).2) (fun i hi H' N S e kN kS => ?_) fun D H2 e4 eD hD => ?_
    · rw [List.length_map] at hi
      obtain ⟨v, h1, _⟩ := hat i (by omega)
      have hpi : ps[i]? = some ps[i] := List.getElem?_eq_getElem hi
      have hs : SqT K H ps[i] [kV (Sum.inl (as.getD i (0, none)).1), v] := by
        have key : ∀ {l : List Addr} {m : List (Key × V)} {i : Nat} {x : Addr} {kv : Key × V}, Paired (fun p kv => SqT K H p [kV kv.1, kv.2]) l m → l[i]? = some x → m[i]? = some kv → SqT K H x [kV kv.1, kv.2] := by
          intro l m i x kv hp hx hk
          obtain ⟨y, hy, hs⟩ := paired_get hp hk
          rw [hx] at hy
          cases hy
          exact hs
        exact key e1 hpi h1
      refine ⟨ps[i], by rw [List.getElem?_map, hpi] <;> rfl, ?_⟩
      have e5 : (kvs.getD i (Sum.inl 0, V.non)).2 = v := by rw [List.getD_eq_getElem?_getD, h1] <;> rfl
      rw [e5]
      exact hs
    · walk_at "rds"
      refine rd_ite (fun c => ?_) (fun c => ?_)
      · walk_at "rds"
        exact kN (decide_eq_true (V.int.inj c)) _ (Evl.Ex.refl _)
      · exact kS (decide_eq_false fun e => c (congrArg V.int e)) _ (Evl.Ex.refl _)
    rw [List.length_map] at hD
    obtain ⟨i0, hi0⟩ := List.getElem?_of_mem hp
    have hi0l : i0 < as.length := (List.getElem?_eq_some_iff.mp hi0).1
    have hmem : i0 ∈ (List.range ps.length).filter fun i => decide ((as.getD i (0, none)).1 = (ms.length : Int) + 1) := List.mem_filter.mpr ⟨List.mem_range.mpr (by omega), by
      rw [List.getD_eq_getElem?_getD, hi0]
      exact decide_eq_true ep⟩
    obtain ⟨j, t, ej⟩ : ∃ j t, ((List.range ps.length).filter fun i => decide ((as.getD i (0, none)).1 = (ms.length : Int) + 1)) = j :: t := by
      cases h : (List.range ps.length).filter fun i => decide ((as.getD i (0, none)).1 = (ms.length : Int) + 1) with
      | nil =>
        rw [h] at hmem
        cases hmem
      | cons j t => exact ⟨j, t, rfl⟩
    have hj := List.mem_filter.mp (ej ▸ List.mem_cons_self : j ∈ (List.range ps.length).filter fun i => decide ((as.getD i (0, none)).1 = (ms.length : Int) + 1))
    obtain ⟨v, h1, h2, h3⟩ := hat j (by have := List.mem_range.mp hj.1; omega)
    have ej2 : as.getD j (0, none) = p := fst_inj hnd h3 hp (by rw [of_decide_eq_true hj.2, ep])
    rw [ej, List.map_cons] at hD
    have e5 : (kvs.getD j (Sum.inl 0, V.non)).2 = v := by rw [List.getD_eq_getElem?_getD, h1] <;> rfl
    rw [e5] at hD
    rw [ej2] at h2
    walk_at "rds"
    refine rd_ixL (SqL.of hD) (at_nat (k := 0) rfl rfl) ?_
    replace h2 := dp_ex e4 _ _ h2
    have hb2 := Evl.ex_t e4 hb
    walk_at "rds"
    obtain ⟨x, o⟩ := p
    cases o with
    | none =>
      obtain ⟨a2, rfl, s2⟩ := dp_none h2
      refine rd_ixT s2 (at_nat (k := 0) rfl rfl) ?_
      walk_at "rds"
      refine rd_ite (fun c => absurd c (by decide)) (fun c => ?_)
      walk_at "rds"
      exact q _ e4
    | some r =>
      obtain ⟨a2, t2, rfl, s2, s3⟩ := dp_some h2
      refine rd_ixT s2 (at_nat (k := 0) rfl rfl) ?_
      walk_at "rds"
      refine rd_ite (fun c => ?_) (fun c => absurd rfl c)
      walk_at "rds"
      refine rd_ixT s2 (at_nat (k := 1) rfl rfl) ?_
      refine rd_ref s3 ?_
      refine lc_fmT (fun _ => true) (fun y => .bl (decide (y ∈ ms))) (σx := fun y => [some (.ref a), some (.ref b), some (.int ((ms.length : Int) + 1)), some (.ref a2), none, none, some y]) s3 (by have := hr1 r rfl; omega) (fun _ => rfl) (fun _ => rfl)
        (fun y hy H' N S e kN kS => ?_) fun D3 H3 e6 eD3 hD3 => ?_
      · walk_at "rds"
        exact rd_inT (Evl.ex_t e hb2) (kN rfl _ (Evl.Ex.refl _))
      rw [List.filter_eq_self.mpr fun _ _ => rfl] at hD3
      have e7 : r.map (fun y => V.bl (decide (y ∈ ms))) = (r.map fun y => decide (y ∈ ms)).map V.bl := by rw [List.map_map] <;> rfl
      rw [e7] at hD3
      walk_at "rds"
      refine rd_all (SqL.of hD3) ?_
      have e8 : (r.map fun y => decide (y ∈ ms)).all id = yesOf (some r) ms := by
        rw [List.all_map]
        rfl
      rw [e8]
      have q2 := q _ (e4.trans e6)
      unfold sayA at q2
      walk_at "rds"
      refine rd_iteb (fun c => ?_) (fun c => ?_)
      · walk_at "rds"
        rw [if_pos c] at q2
        exact q2
      · walk_at "rds"
        rw [if_neg (by rw [c]; decide)] at q2
        exact q2
def spSaid (K : PySem.W.Frag) : Sp := fun vs H Q _ => ∃ (a b : Addr) (xs : List V) (as : List An) (ms : List Int) (p : An), vs = [.ref a, .ref b] ∧ Fz H a xs ∧ DpAll K H xs (as.map dP) ∧ as.length ≤ 1000 ∧ (as.map Prod.fst).Nodup ∧
  SqT K H b (ms.map V.int) ∧ ms.length ≤ 1000 ∧ p ∈ as ∧ p.1 = (ms.length : Int) + 1 ∧ (∀ r, p.2 = some r → r.length ≤ 1000) ∧ ∀ H', Evl.Ex H H' → Q (.int (sayA p.2 ms)) H'
theorem ones_all (r ms : List Int) : PyData.eqv (.list (dI ((r.filter fun y => !decide (y ∈ ms)).map fun _ => 1))) (.list []) = r.all fun y => decide (y ∈ ms) := by
  induction r with
  | nil => rfl
  | cons y t ih =>
    rw [List.all_cons]
    by_cases c : y ∈ ms
    · rw [List.filter_cons_of_neg (by rw [decide_eq_true c]; decide), decide_eq_true c, Bool.true_and]
      exact ih
    · rw [List.filter_cons_of_pos (by rw [decide_eq_false c]; rfl), decide_eq_false c, Bool.false_and]
      rfl
theorem ok_said {f : Addr} {fd : FuncData} (F : Fun K "_law_said" "_law_said" s_law_said f fd) (T : Bl mg) :
    FnOk P w K mg base CX0 1 f fd ["heard", "play"] (spSaid K) := by
  refine F.ok sc_law_said (fun vs H Q E h => ?_) (fun cdv A outer s H vs Q E hr h => ?_)
  · obtain ⟨a, b, xs, as, ms, p, rfl, _⟩ := h
    rfl
  · obtain ⟨a, b, xs, as, ms, p, rfl, ha, hd, hl, hnd, hb, hm, hp, ep, hr1, q⟩ := h
    refine ⟨_, (pss_cons (ps_set (i := 2) sc_law_said.nd rfl (Or.inl rfl) (pe_op op_add (pe_callB (c_len (K := K) rfl) (by rfl) T.len (by decide +kernel) (pa_cons (pv 1) pa_nil)) pe_int))
 (pss_cons (ps_set (i := 3) sc_law_said.nd rfl (Or.inl rfl) (pe_dget (hu_of hr) (pe_callTy (c_dictFz (K := K) rfl rfl) (by rfl) T.dict (by decide +kernel) (pa_cons (pv 0) pa_nil)) (pv 2) (fun _ _ => rfl)))
 (pss_one (ps_ret (pe_ifExp (PW.pt (pw_and (pt_cmpR op_eq (pe_ix (ik_tup (K := K) rfl) (pv 3) pe_int (fun _ _ => rfl)) pe_str (nomark _)) (pw_and1 (pt_cmpR (ok_eqD (K := K) rfl hr.units) (pe_lc (own := [("y", 4)]) (g := gName 4) rfl sc_law_said.nd (ik_tupI (K := K) rfl (pe_ix (ik_tup (K := K) rfl) (pv 3) pe_int (fun _ _ => rfl))) (blkOk_by (own := [("y", 4)]) (N := ["heard", "play", "x", "answer", "y"]) (sc := defScope s_law_said) (by decide +kernel)) (fun _ _ _ _ _ => (pg_name (i := 4) sc_law_said.nd rfl (Or.inl rfl))) (fun _ _ _ _ _ => (pts_one (pt_cmpR (ok_notIn (K := K) rfl) (pv 4) (pv 1) (by rfl)))) (fun _ _ _ _ _ => pe_int)) (pe_lst pa_nil) (nomark _))))) (pv 2) (pe_un un_neg (pv 2))))))), ?_⟩
    refine rd_start (σ' := [some (.ref a), some (.ref b), none, none, none]) rfl ?_
    walk_at "rds"
    refine rd_lenT hb ?_
    rw [List.length_map]
    walk_at "rds"
    obtain ⟨ps, kvs, rfl, e1, e2, e3⟩ := pairs_of_ans hd
    refine rd_dictFz ha e1 fun dd hdd => ?_
    have e4 := Evl.Ex.new (o := .dK (mergeK [] kvs)) hdd
    obtain ⟨i0, hi0⟩ := List.getElem?_of_mem hp
    obtain ⟨kv, h1, h2, h3⟩ := paired_get e3 hi0
    have hkn : (kvs.map (·.1)).Nodup := by
      rw [e2]
      have e5 : as.map (fun p => (Sum.inl p.1 : Key)) = (as.map Prod.fst).map Sum.inl := by rw [List.map_map] <;> rfl
      rw [e5]
      unfold List.Nodup
      rw [List.pairwise_map]
      exact hnd.imp fun {x y} h e => h (Sum.inl.inj e)
    have hv : valV (mergeK [] kvs) (Sum.inl ((ms.length : Int) + 1)) = some kv.2 := by
      rw [← ep, ← h2]
      exact merge_val hkn (List.mem_of_getElem? h1)
    walk_at "rds"
    refine ⟨dd, kv.2, rfl, hv ▸ DGet.k (k := Sum.inl ((ms.length : Int) + 1)) upd_same, ?_⟩
    replace h3 := dp_ex e4 _ _ h3
    have hb2 := Evl.ex_t e4 hb
    generalize kv.2 = v at h3 ⊢
    walk_at "rds"
    obtain ⟨x, o⟩ := p
    cases o with
    | none =>
      obtain ⟨a2, rfl, s2⟩ := dp_none h3
      refine rd_ixT s2 (at_nat (k := 0) rfl rfl) ?_
      walk_at "rds"
      refine rd_ite (fun c => absurd c (by decide)) (fun c => ?_)
      walk_at "rds"
      exact q _ e4
    | some r =>
      obtain ⟨a2, t2, rfl, s2, s3⟩ := dp_some h3
      refine rd_ixT s2 (at_nat (k := 0) rfl rfl) ?_
      walk_at "rds"
      refine rd_ite (fun c => ?_) (fun c => absurd rfl c)
      walk_at "rds"
      refine rd_ixT s2 (at_nat (k := 1) rfl rfl) ?_
      refine rd_ref s3 ?_
      refine lc_fmT (fun y => !decide (y ∈ ms)) (fun _ => .int 1) (σx := fun y => [some (.ref a), some (.ref b), some (.int ((ms.length : Int) + 1)), some (.ref a2), some y]) s3 (by have := hr1 r rfl; omega) (fun _ => rfl) (fun _ => rfl)
        (fun y hy H' N S e kN kS => ?_) fun D3 H3 e6 eD3 hD3 => ?_
      · walk_at "rds"
        refine rd_notInT (Evl.ex_t e hb2) ?_
        walk_at "rds"
        refine rd_iten (fun c => ?_) (fun c => ?_)
        · walk_at "rds"
          exact kN (by show (!decide (y ∈ ms)) = true; rw [decide_eq_false c]; rfl) _ (Evl.Ex.refl _)
        · exact kS (by show (!decide (y ∈ ms)) = false; rw [decide_eq_true c]; rfl) _ (Evl.Ex.refl _)
      have e7 : (r.filter fun y => !decide (y ∈ ms)).map (fun _ => V.int 1) = ((r.filter fun y => !decide (y ∈ ms)).map fun _ => (1 : Int)).map V.int := by rw [List.map_map] <;> rfl
      rw [e7] at hD3
      walk_at "rds"
      refine ⟨Nat.zero_le _, fun c5 hc5 => ?_⟩
      have e8 := Evl.Ex.new (o := .lst []) hc5
      refine rd_eqD (dp_L (SqL.of (e8 _ _ hD3))) (dp_L (ns := []) (SqL.of upd_same)) (Nice.lst (NiceAll.ints fun x hx => by
        obtain ⟨_, _, rfl⟩ := List.mem_map.mp hx
        decide)) (Nice.lst (NiceAll.ints nofun)) (by decide) (by decide) ?_
      have e9 : PyData.eqv (.list (dI ((r.filter fun y => !decide (y ∈ ms)).map fun _ => (1 : Int)))) (.list (dI [])) = yesOf (some r) ms := ones_all r ms
      rw [e9]
      have q2 := q _ ((e4.trans e6).trans e8)
      unfold sayA at q2
      walk_at "rds"
      refine rd_iteb (fun c => ?_) (fun c => ?_)
      · walk_at "rds"
        rw [if_pos c] at q2
        exact q2
      · walk_at "rds"
        rw [if_neg (by rw [c]; decide)] at q2
        exact q2
end
end KA
set_option Elab.async false
set_option linter.all false
set_option maxRecDepth 100000
set_option maxHeartbeats 400000
set_option pp.maxSteps 300
namespace Ea
open PySem PySem.Spec PyProof.Rows L2
/-- an if of values, its ends brought together -/
theorem rd_ifV {tt : TT} {te tz : TE} {σ : L2.St} {H : Hp} {Q : VK} (I : V → Hp → Prop) (h1 : ∀ Q' : VK, (∀ v H', I v H' → Q' v H') → tIf tt te tz σ H Q') (h : ∀ v H', I v H' → Q v H') : tIf tt te tz σ H Q := h1 Q h
end Ea
namespace KA
open PySem PySem.Spec PyProof.Rows L2 Ea
abbrev slaw : Stmt := topS 10
theorem sclaw : FnScope ["script", "bag", "turn", "n", "owners", "heard", "known", "play", "k", "due", "seen", "whole", "own", "x", "answer", "is_yes", "y"] ["script"] (defScope slaw) :=
  ⟨rfl, rfl, rfl, by decide +kernel, rfl, by decide +kernel, by decide +kernel⟩
local macro_rules | `(tactic| walk_at "rd") => `(tactic| first
  | (with_reducible refine rd_seq ?_) | (with_reducible refine rd_asg ?_) | (with_reducible refine rd_if ?_) | (with_reducible refine rd_ret ?_) | (with_reducible refine rd_next ?_)
  | (with_reducible refine rd_drop ?_) | ((with_reducible refine rd_name (σ' := ?ss) ?hs ?_); (case hs => (dsimp only [List.set]; exact rfl)))
  | ((with_reducible refine rd_var (v := ?vv) ?hv ?_); (case hv => exact rfl)) | (with_reducible refine rd_c ?_) | (with_reducible refine rd_op ?_) | (with_reducible refine rd_un ?_)
  | (with_reducible refine rd_I0 ?_) | (with_reducible refine rd_U ?_) | (with_reducible refine rd_test ?_) | (with_reducible refine rd_B ?_) | (with_reducible refine rd_k ?_)
  | (with_reducible refine rd_not ?_) | (with_reducible refine rd_and ?_) | (with_reducible refine rd_or ?_) | (with_reducible refine rd_ifE ?_)
  | (with_reducible refine rd_par ?_) | ((with_reducible refine rd_par2 (σ' := ?ss) ?hs ?_); (case hs => (dsimp only [List.set]; exact rfl)))
  | (with_reducible refine rd_gsub ?_) | (with_reducible refine rd_andV ?_) | (with_reducible refine rd_orV ?_) | (with_reducible refine rd_notV ?_)
  | (with_reducible refine rd_lc ?_) | (with_reducible refine rd_iTup ?_) | (with_reducible refine rd_iList ?_) | (with_reducible refine rd_iRng1 ?_) | (with_reducible refine rd_iRng2 ?_) | (with_reducible refine rd_iEnumT ?_) | (with_reducible refine rd_iEnum ?_) | (with_reducible refine rd_iZipM ?_)
  | (with_reducible refine rd_yes ?_) | (with_reducible refine rd_true ?_) | (with_reducible refine rd_false ?_) | (with_reducible refine rd_m1 ?_) | (with_reducible refine rd_isS ?_)
  | ((with_reducible refine rd_eq ?hs ?_); (case hs => exact rfl)) | ((with_reducible refine rd_ne ?hs ?_); (case hs => exact rfl))
  | (with_reducible refine rd_listRg ?_) | (with_reducible refine rd_rg2 ?_) | (with_reducible refine rd_rgk ?_)
  | (with_reducible refine rd_dnew ?_) | (with_reducible refine rd_ddel ?_) | (with_reducible refine rd_kw ?_) | (with_reducible refine rd_callS ?_) | (with_reducible refine rd_dc ?_) | (with_reducible refine rd_for ?_) | (with_reducible refine rd_tru ?_) | (with_reducible refine rd_truI ?_)
  | (with_reducible refine rd_nil ?_) | (with_reducible refine rd_cons ?_) | (with_reducible refine rd_call ?_) | (with_reducible refine rd_cb ?_)
  | (with_reducible refine rd_tup ?_) | (with_reducible refine rd_lst ?_) | (with_reducible refine rd_dget ?_) | (with_reducible refine rd_dput ?_) | (with_reducible refine rd_dget2 ?_) | (with_reducible refine rd_sl ?_)
  | (with_reducible refine rd_nopart ?_) | (with_reducible refine rd_part ?_) | (with_reducible refine rd_parti ?_) | (with_reducible refine rd_bm ?_) | (with_reducible refine rd_bm0 ?_)
  | (with_reducible refine rd_int ?_) | (with_reducible refine rd_intb ?_) | (with_reducible refine rd_abs ?_) | (with_reducible refine rd_min2 ?_) | (with_reducible refine rd_max2 ?_))
local macro_rules | `(tactic| walk_at "rds") => `(tactic| repeat (walk_at "rd"))
local macro_rules | `(tactic| walk_at "rq") => `(tactic| first
  | (with_reducible refine rd_seq ?_) | (with_reducible refine rd_asg ?_) | (with_reducible refine rd_ret ?_) | (with_reducible refine rd_next ?_)
  | (with_reducible refine rd_drop ?_) | ((with_reducible refine rd_name (σ' := ?ss) ?hs ?_); (case hs => (dsimp only [List.set]; exact rfl)))
  | ((with_reducible refine rd_var (v := ?vv) ?hv ?_); (case hv => exact rfl)) | (with_reducible refine rd_c ?_) | (with_reducible refine rd_op ?_) | (with_reducible refine rd_un ?_)
  | (with_reducible refine rd_I0 ?_) | (with_reducible refine rd_U ?_) | (with_reducible refine rd_test ?_) | (with_reducible refine rd_B ?_) | (with_reducible refine rd_k ?_)
  | (with_reducible refine rd_not ?_) | (with_reducible refine rd_and ?_) | (with_reducible refine rd_or ?_) | (with_reducible refine rd_ifE ?_)
  | (with_reducible refine rd_par ?_) | ((with_reducible refine rd_par2 (σ' := ?ss) ?hs ?_); (case hs => (dsimp only [List.set]; exact rfl)))
  | (with_reducible refine rd_gsub ?_) | (with_reducible refine rd_andV ?_) | (with_reducible refine rd_orV ?_) | (with_reducible refine rd_notV ?_)
  | (with_reducible refine rd_lc ?_) | (with_reducible refine rd_iTup ?_) | (with_reducible refine rd_iList ?_) | (with_reducible refine rd_iRng1 ?_) | (with_reducible refine rd_iRng2 ?_) | (with_reducible refine rd_iEnumT ?_) | (with_reducible refine rd_iEnum ?_) | (with_reducible refine rd_iZipM ?_)
  | (with_reducible refine rd_yes ?_) | (with_reducible refine rd_true ?_) | (with_reducible refine rd_false ?_) | (with_reducible refine rd_m1 ?_) | (with_reducible refine rd_isS ?_)
  | ((with_reducible refine rd_eq ?hs ?_); (case hs => exact rfl)) | ((with_reducible refine rd_ne ?hs ?_); (case hs => exact rfl))
  | (with_reducible refine rd_listRg ?_) | (with_reducible refine rd_rg2 ?_) | (with_reducible refine rd_rgk ?_)
  | (with_reducible refine rd_dnew ?_) | (with_reducible refine rd_ddel ?_) | (with_reducible refine rd_kw ?_) | (with_reducible refine rd_callS ?_) | (with_reducible refine rd_dc ?_) | (with_reducible refine rd_for ?_) | (with_reducible refine rd_tru ?_) | (with_reducible refine rd_truI ?_)
  | (with_reducible refine rd_nil ?_) | (with_reducible refine rd_cons ?_) | (with_reducible refine rd_call ?_) | (with_reducible refine rd_cb ?_)
  | (with_reducible refine rd_tup ?_) | (with_reducible refine rd_lst ?_) | (with_reducible refine rd_dget ?_) | (with_reducible refine rd_dput ?_) | (with_reducible refine rd_dget2 ?_) | (with_reducible refine rd_sl ?_)
  | (with_reducible refine rd_nopart ?_) | (with_reducible refine rd_part ?_) | (with_reducible refine rd_parti ?_) | (with_reducible refine rd_bm ?_) | (with_reducible refine rd_bm0 ?_)
  | (with_reducible refine rd_int ?_) | (with_reducible refine rd_intb ?_) | (with_reducible refine rd_abs ?_) | (with_reducible refine rd_min2 ?_) | (with_reducible refine rd_max2 ?_))
local macro_rules | `(tactic| walk_at "rqs") => `(tactic| repeat (walk_at "rq"))
local macro_rules | `(tactic| walk_at "rv") => `(tactic| first
  | (with_reducible refine rd_seq ?_) | (with_reducible refine rd_asg ?_) | (with_reducible refine rd_ret ?_) | (with_reducible refine rd_next ?_)
  | (with_reducible refine rd_drop ?_) | ((with_reducible refine rd_name (σ' := ?ss) ?hs ?_); (case hs => (dsimp only [List.set]; exact rfl)))
  | ((with_reducible refine rd_var (v := ?vv) ?hv ?_); (case hv => exact rfl)) | (with_reducible refine rd_c ?_) | (with_reducible refine rd_op ?_) | (with_reducible refine rd_un ?_)
  | (with_reducible refine rd_I0 ?_) | (with_reducible refine rd_U ?_) | (with_reducible refine rd_test ?_) | (with_reducible refine rd_B ?_) | (with_reducible refine rd_k ?_)
  | (with_reducible refine rd_not ?_) | (with_reducible refine rd_and ?_) | (with_reducible refine rd_or ?_)
  | (with_reducible refine rd_par ?_) | ((with_reducible refine rd_par2 (σ' := ?ss) ?hs ?_); (case hs => (dsimp only [List.set]; exact rfl)))
  | (with_reducible refine rd_gsub ?_) | (with_reducible refine rd_andV ?_) | (with_reducible refine rd_orV ?_) | (with_reducible refine rd_notV ?_)
  | (with_reducible refine rd_lc ?_) | (with_reducible refine rd_iTup ?_) | (with_reducible refine rd_iList ?_) | (with_reducible refine rd_iRng1 ?_) | (with_reducible refine rd_iRng2 ?_) | (with_reducible refine rd_iEnumT ?_) | (with_reducible refine rd_iEnum ?_) | (with_reducible refine rd_iZipM ?_)
  | (with_reducible refine rd_yes ?_) | (with_reducible refine rd_true ?_) | (with_reducible refine rd_false ?_) | (with_reducible refine rd_m1 ?_) | (with_reducible refine rd_isS ?_)
  | ((with_reducible refine rd_eq ?hs ?_); (case hs => exact rfl)) | ((with_reducible refine rd_ne ?hs ?_); (case hs => exact rfl))
  | (with_reducible refine rd_listRg ?_) | (with_reducible refine rd_rg2 ?_) | (with_reducible refine rd_rgk ?_)
  | (with_reducible refine rd_dnew ?_) | (with_reducible refine rd_ddel ?_) | (with_reducible refine rd_kw ?_) | (with_reducible refine rd_callS ?_) | (with_reducible refine rd_dc ?_) | (with_reducible refine rd_for ?_) | (with_reducible refine rd_tru ?_) | (with_reducible refine rd_truI ?_)
  | (with_reducible refine rd_nil ?_) | (with_reducible refine rd_cons ?_) | (with_reducible refine rd_call ?_) | (with_reducible refine rd_cb ?_)
  | (with_reducible refine rd_tup ?_) | (with_reducible refine rd_lst ?_) | (with_reducible refine rd_dget ?_) | (with_reducible refine rd_dput ?_) | (with_reducible refine rd_dget2 ?_) | (with_reducible refine rd_sl ?_)
  | (with_reducible refine rd_nopart ?_) | (with_reducible refine rd_part ?_) | (with_reducible refine rd_parti ?_) | (with_reducible refine rd_bm ?_) | (with_reducible refine rd_bm0 ?_)
  | (with_reducible refine rd_int ?_) | (with_reducible refine rd_intb ?_) | (with_reducible refine rd_abs ?_) | (with_reducible refine rd_min2 ?_) | (with_reducible refine rd_max2 ?_))
local macro_rules | `(tactic| walk_at "rvs") => `(tactic| repeat (walk_at "rv"))

/-- by names alone: the values stand the other way round -/
abbrev KwRev (fd : FuncData) (ks : List Str) : Prop := ∀ (s : Shared) (ws : List Value), ws.length = ks.length → BindsTo s fd ⟨[], ks.reverse.zip ws⟩ (ks.zip ws.reverse)
section
variable {K : PySem.W.Frag} {H H' : Hp} {d l a : Addr} {xs : List V}
theorem Gl.fz (g : Gl d l H H') (hD : DeckL d l H) (h : Fz H a xs) : Fz H' a xs := by
  obtain ⟨o, h, ho⟩ := h
  obtain ⟨ns, m, c, e1, e2, _⟩ := hD
  refine ⟨o, g.kp a _ (fun z => ?_) (fun z => ?_) h, ho⟩
  · rw [z, e1] at h
    cases h
  · rw [z, e2] at h
    cases h
end
theorem sayA_abs (o : Option (List Int)) (ms : List Int) : (sayA o ms).natAbs = ms.length + 1 := by
  unfold sayA
  split <;> omega
theorem AnsOk.nodup {n : Nat} {z : Str} {as : List An} (h : AnsOk n z as) : (as.map Prod.fst).Nodup := by
  rw [h.fst]
  exact (upI_nodup n).sublist List.filter_sublist
theorem AnsOk.mem {n : Nat} {z : Str} {as : List An} (h : AnsOk n z as) {p : An} (hp : p ∈ as) : (1 ≤ p.1 ∧ p.1 ≤ (n : Int)) ∧ heldBy z "s" p.1 = true := by
  have h1 : p.1 ∈ (upI n).filter (heldBy z "s") := h.fst ▸ List.mem_map_of_mem hp
  obtain ⟨h2, h3⟩ := List.mem_filter.mp h1
  exact ⟨upI_mem.mp h2, h3⟩
theorem AnsOk.get {n : Nat} {z : Str} {as : List An} (h : AnsOk n z as) {x : Int} (h1 : 1 ≤ x) (h2 : x ≤ (n : Int)) (c : heldBy z "s" x = true) : ∃ p ∈ as, p.1 = x := by
  have h3 : x ∈ as.map Prod.fst := by
    rw [h.fst]
    exact List.mem_filter.mpr ⟨upI_mem.mpr ⟨h1, h2⟩, c⟩
  obtain ⟨p, hp, e⟩ := List.mem_map.mp h3
  exact ⟨p, hp, e⟩
theorem AnsOk.row {n : Nat} {z : Str} {as : List An} (h : AnsOk n z as) {p : An} (hp : p ∈ as) {r : List Int} (e : p.2 = some r) : r.length ≤ n := by
  have h1 := (h.good p hp r e).1.length
  have := (h.mem hp).1
  omega
theorem nice_no : Nice 2 0 (.str "no") := Nice.str (by decide) (by decide) (by first | decide | decide +kernel | kernel_rfl | simp [PyData.canLay0])
theorem nice_all : Nice 3 0 (.str "all") := Nice.str (by decide) (by decide) (by first | decide | decide +kernel | kernel_rfl | simp [PyData.canLay0])
theorem nice_A1 {z : Str} {p : An} {n : Nat} (h : GoodA z p) (hn : p.1.natAbs ≤ n) (h60 : n ≤ 60) : Nice 70 2 (dA1 p.2) := by
  cases e : p.2 with
  | none => exact (Nice.tup (NiceAll.cons nice_no NiceAll.nil)).mono (by decide) (by decide)
  | some r =>
    have hr := (h r e).1
    have hl := hr.length
    have hi : NiceAll r.length 0 (dI r) := NiceAll.ints fun x hx => by
      have := (hr.2 x hx).2
      have : (10 : Nat) ^ 12 = 1000000000000 := by decide
      omega
    exact (Nice.tup (Nice.cons2 (nice_all.mono (Nat.le_refl _) (Nat.zero_le 1)) (Nice.tup hi))).mono (by omega) (by decide)
theorem nice_P {z : Str} {p : An} {n : Nat} (h : GoodA z p) (hn : p.1.natAbs ≤ n) (h60 : n ≤ 60) : Nice 80 3 (dP p) := by
  have h1 : Nice 0 0 (.int p.1) := Nice.int (by
    have : (10 : Nat) ^ 12 = 1000000000000 := by decide
    omega)
  exact (Nice.tup (Nice.cons2 (h1.mono (Nat.le_refl _) (Nat.zero_le 2)) (nice_A1 h hn h60))).mono (by decide) (by decide)
theorem nice_Ps {z : Str} {n : Nat} (h60 : n ≤ 60) : ∀ {as : List An}, (∀ p ∈ as, GoodA z p ∧ p.1.natAbs ≤ n) → NiceAll (81 * as.length) 3 (as.map dP)
  | [], _ => NiceAll.nil
  | p :: t, h => (NiceAll.cons (nice_P (h p List.mem_cons_self).1 (h p List.mem_cons_self).2 h60) (nice_Ps h60 fun q hq => h q (List.mem_cons_of_mem _ hq))).mono (by rw [List.length_cons]; omega) (Nat.le_refl _)
theorem AnsOk.nice {n : Nat} {z : Str} {as : List An} (h : AnsOk n z as) (h60 : n ≤ 60) : Nice 4860 4 (.tuple (as.map dP)) :=
  (Nice.tup (nice_Ps h60 fun p hp => ⟨h.good p hp, by have := (h.mem hp).1; omega⟩)).mono (by have := h.len; omega) (by decide)
/-- a play in which SOME answers so -/
structure PlayA (as : List An) (ms : List Int) : Prop where
  abs : ∀ (j : Nat) (s : Int), ms[j]? = some s → s.natAbs = j + 1
  say : ∀ (j : Nat) (s : Int), ms[j]? = some s → ∀ p ∈ as, p.1 = (j : Int) + 1 → s = sayA p.2 (ms.take j)
theorem PlayA.nil (as : List An) : PlayA as [] := ⟨fun j s e => by simp at e, fun j s e => by simp at e⟩
theorem PlayA.put {as : List An} {ms : List Int} {s : Int} (h : PlayA as ms) (h1 : s.natAbs = ms.length + 1) (h2 : ∀ p ∈ as, p.1 = (ms.length : Int) + 1 → s = sayA p.2 ms) : PlayA as (ms ++ [s]) := by
  have key : ∀ (j : Nat) (t : Int), (ms ++ [s])[j]? = some t → (j < ms.length ∧ ms[j]? = some t) ∨ (j = ms.length ∧ t = s) := fun j t e => by
    by_cases c : j < ms.length
    · rw [List.getElem?_append_left c] at e
      exact .inl ⟨c, e⟩
    · have hj := (List.getElem?_eq_some_iff.mp e).1
      rw [List.length_append, List.length_singleton] at hj
      have ej : j = ms.length := by omega
      subst ej
      rw [List.getElem?_append_right (Nat.le_refl _), Nat.sub_self] at e
      exact .inr ⟨rfl, (Option.some.inj e).symm⟩
  refine ⟨fun j t e => ?_, fun j t e p hp ep => ?_⟩
  · rcases key j t e with ⟨_, q⟩ | ⟨rfl, rfl⟩
    · exact h.abs j t q
    · exact h1
  · rcases key j t e with ⟨c, q⟩ | ⟨rfl, rfl⟩
    · rw [List.take_append_of_le_length (by omega)]
      exact h.say j t q p hp ep
    · rw [List.take_left' rfl]
      exact h2 p hp ep
theorem PlayA.yes {as : List An} {ms : List Int} {z : Str} (h : PlayA as ms) {p : An} (hg : GoodA z p) {j : Nat} (ep : p.1 = (j : Int) + 1) : yesOf p.2 (ms.take j) = yesOf p.2 ms := by
  unfold yesOf
  cases e : p.2 with
  | none => rfl
  | some r =>
    have hr := (hg r e).1
    have key : ∀ y ∈ r, (decide (y ∈ ms.take j)) = decide (y ∈ ms) := fun y hy => by
      have hb := hr.2 y hy
      by_cases c : y ∈ ms
      · rw [decide_eq_true c]
        obtain ⟨i, hi⟩ := List.getElem?_of_mem c
        have ha := h.abs i y hi
        refine decide_eq_true (List.mem_of_getElem? (i := i) ?_)
        rw [List.getElem?_take, if_pos (by omega)]
        exact hi
      · rw [decide_eq_false c]
        exact decide_eq_false fun q => c (List.mem_of_mem_take q)
    show r.all _ = r.all _
    clear e hr
    induction r with
    | nil => rfl
    | cons y t ih =>
      rw [List.all_cons, List.all_cons, key y List.mem_cons_self, ih fun q hq => key q (List.mem_cons_of_mem _ hq)]
section
variable {P : Program} {w : World} {K : PySem.W.Frag} {mg : Str → Option Value} {base : Heap}
def spLaw (K : PySem.W.Frag) : Sp := fun vs H Q _ => ∃ (a : Addr) (ns : List Int), vs = [.ref a] ∧ SqL K H a (ns.map V.int) ∧ ns.length ≤ 63 ∧ ∀ H', Q (.bl true) H'
theorem ok_law {f fK fD fP fO fW fS fR : Addr} {fd fdK fdD fdP fdO fdW fdS fdR : FuncData} (F : Fun K "law" "law" slaw f fd) (T : Bl mg)
    (G_law_bag : FnOk P w K mg base CX0 1 fK fdK ["script"] (spDeck K)) (C_law_bag : Callee K mg "_law_bag" fK fdK ["script"])
    (G_law_draw : FnOk P w K mg base CX0 1 fD fdD ["bag", "many"] spDraw) (C_law_draw : Callee K mg "_law_draw" fD fdD ["bag", "many"])
    (G_law_pick : FnOk P w K mg base CX0 2 fP fdP ["bag", "row"] spPick) (C_law_pick : Callee K mg "_law_pick" fP fdP ["bag", "row"])
    (G_law_owners : FnOk P w K mg base CX0 3 fO fdO ["bag", "n"] spOwners) (C_law_owners : Callee K mg "_law_owners" fO fdO ["bag", "n"])
    (G_law_own : FnOk P w K mg base CX0 3 fW fdW ["bag", "owners", "most", "signs"] (spOwn K)) (C_law_own : Callee K mg "_law_own" fW fdW ["bag", "owners", "most", "signs"])
    (G_law_said : FnOk P w K mg base CX0 1 fS fdS ["heard", "play"] (spSaid K)) (C_law_said : Callee K mg "_law_said" fS fdS ["heard", "play"])
    (Ganswers_reply : FnOk P w K mg base CX0 1 fR fdR ["answers", "play"] (spReply K)) (Canswers_reply : Callee K mg "answers_reply" fR fdR ["answers", "play"]) (Kanswers_reply : KwRev fdR ["answers", "play"]) :
    FnG P w K mg base 4 f fd ["script"] (spLaw K) := by
  refine okG F sclaw (fun vs H Q E h => ?_) (fun cdv A outer s H vs Q E hr hg h => ?_)
  · obtain ⟨a, ns, rfl, _⟩ := h
    rfl
  · obtain ⟨a, ns, rfl, ha, hl, q⟩ := h
    refine ⟨_, (pss_cons (ps_set (i := 1) sclaw.nd rfl (Or.inl rfl) (pe_call G_law_bag (hr.mono (by decide)) (by rfl) C_law_bag.m C_law_bag.k C_law_bag.b .nil pass0 (pa_cons (pv 0) pa_nil)))
 (pss_cons (ps_for PassesOwn.never rfl (pi_range1 (by rfl) T.range (pa_cons pe_int pa_nil)) (pg_name (i := 2) sclaw.nd rfl (Or.inl rfl)) (pss_cons (ps_set (i := 3) sclaw.nd rfl (Or.inl rfl) (pe_ifExp (PW.pt (pw_and (pt_cmpR op_eq (pv 2) pe_int (nomark _)) (pw_and1 (pt_cmpR op_eq (pe_call G_law_draw (hr.mono (by decide)) (by rfl) C_law_draw.m C_law_draw.k C_law_draw.b .nil pass0 (pa_cons (pv 1) (pa_cons pe_int pa_nil))) pe_int (nomark _))))) pe_int (pe_op op_add pe_int (pe_call G_law_draw (hr.mono (by decide)) (by rfl) C_law_draw.m C_law_draw.k C_law_draw.b .nil pass0 (pa_cons (pv 1) (pa_cons pe_int pa_nil))))))
 (pss_cons (ps_set (i := 4) sclaw.nd rfl (Or.inl rfl) (pe_call G_law_owners (hr.mono (by decide)) (by rfl) C_law_owners.m C_law_owners.k C_law_owners.b .nil pass0 (pa_cons (pv 1) (pa_cons (pv 3) pa_nil))))
 (pss_cons (ps_set (i := 5) sclaw.nd rfl (Or.inl rfl) (pe_call G_law_own (hr.mono (by decide)) (by rfl) C_law_own.m C_law_own.k C_law_own.b .nil pass0 (pa_cons (pv 1) (pa_cons (pv 4) (pa_cons (pe_ifExp (pt_cmpR op_gt (pv 3) pe_int (nomark _)) pe_int pe_int) (pa_cons (pe_call G_law_pick (hr.mono (by decide)) (by rfl) C_law_pick.m C_law_pick.k C_law_pick.b .nil pass0 (pa_cons (pv 1) (pa_cons (pe_lst (pa_cons (pe_lst (pa_cons pe_int pa_nil)) (pa_cons (pe_lst (pa_cons pe_int (pa_cons (pe_un un_neg pe_int) pa_nil))) (pa_cons (pe_lst (pa_cons (pe_un un_neg pe_int) pa_nil)) pa_nil)))) pa_nil))) pa_nil))))))
 (pss_cons (ps_par (i := 6) (j := 7) rfl sclaw.nd rfl rfl (by decide) rfl rfl (pa_cons (pe_callB (c_repr (K := K) rfl hg hr.units) (by rfl) T.repr (by decide +kernel) (pa_cons (pv 5) pa_nil)) (pa_cons (pe_tup pa_nil) pa_nil)) (by rfl))
 (pss_cons (ps_for PassesOwn.never rfl (pi_range2 (by rfl) T.range (pa_cons pe_int (pa_cons (pe_op op_add (pv 3) pe_int) pa_nil))) (pg_name (i := 8) sclaw.nd rfl (Or.inl rfl)) (pss_one (ps_if (PW.pt (pw_and (pt_cmpR op_eq (pe_ix ix_str (pv 4) (pe_op op_sub (pv 8) pe_int) (fun _ _ => rfl)) pe_str (nomark _)) (pw_and1 (pt_cmpR op_gt (pe_call G_law_draw (hr.mono (by decide)) (by rfl) C_law_draw.m C_law_draw.k C_law_draw.b .nil pass0 (pa_cons (pv 1) (pa_cons pe_int pa_nil))) pe_int (nomark _))))) (pss_cons (ps_set (i := 9) sclaw.nd rfl (Or.inl rfl) (pe_call G_law_said (hr.mono (by decide)) (by rfl) C_law_said.m C_law_said.k C_law_said.b .nil pass0 (pa_cons (pv 5) (pa_cons (pv 7) pa_nil))))
 (pss_cons (ps_set (i := 10) sclaw.nd rfl (Or.inl rfl) (pe_ifExp (pt_cmpR op_eq (pe_op op_mod (pv 8) pe_int) pe_int (nomark _)) (pe_kw (E := fun _ => E0) (ks := ["play", "answers"]) (g := List.reverse) (gV := List.reverse) Ganswers_reply (hr.mono (by decide)) (by rfl) Canswers_reply.m Canswers_reply.k Kanswers_reply (fun _ r => rel_rev r) (fun _ => passAt0) (pk_cons (pv 7) (pk_cons (pv 5) pk_nil))) (pe_call Ganswers_reply (hr.mono (by decide)) (by rfl) Canswers_reply.m Canswers_reply.k Canswers_reply.b .nil pass0 (pa_cons (pv 5) (pa_cons (pv 7) pa_nil)))))
 (pss_cons (ps_if (PW.pt (pw_or (pt_cmpR op_ne (pe_callB c_reprI (by rfl) T.repr (by decide +kernel) (pa_cons (pv 10) pa_nil)) (pe_callB c_reprI (by rfl) T.repr (by decide +kernel) (pa_cons (pv 9) pa_nil)) (nomark _)) (pw_or1 (pt_cmpR op_ne (pe_callB c_reprI (by rfl) T.repr (by decide +kernel) (pa_cons (pe_call Ganswers_reply (hr.mono (by decide)) (by rfl) Canswers_reply.m Canswers_reply.k Canswers_reply.b .nil pass0 (pa_cons (pv 5) (pa_cons (pv 7) pa_nil))) pa_nil)) (pe_callB c_reprI (by rfl) T.repr (by decide +kernel) (pa_cons (pv 9) pa_nil)) (nomark _))))) (pss_one (ps_ret pe_bl)) pss_nil)
 (pss_one (ps_set (i := 7) sclaw.nd rfl (Or.inl rfl) (pe_op (ok_catT (K := K) rfl) (pv 7) (pe_tup (pa_cons (pv 9) pa_nil)))))))) (pss_one (ps_set (i := 7) sclaw.nd rfl (Or.inl rfl) (pe_op (ok_catT (K := K) rfl) (pv 7) (pe_tup (pa_cons (pe_op op_mul (pv 8) (pe_call G_law_pick (hr.mono (by decide)) (by rfl) C_law_pick.m C_law_pick.k C_law_pick.b .nil pass0 (pa_cons (pv 1) (pa_cons (pe_lst (pa_cons pe_int (pa_cons pe_int (pa_cons (pe_un un_neg pe_int) pa_nil)))) pa_nil)))) pa_nil))))))))
 (pss_cons (ps_if (pt_cmpR op_ne (pe_callB (c_repr (K := K) rfl hg hr.units) (by rfl) T.repr (by decide +kernel) (pa_cons (pv 5) pa_nil)) (pv 6) (nomark _)) (pss_one (ps_ret pe_bl)) pss_nil)
 (pss_cons (ps_set (i := 11) sclaw.nd rfl (Or.inr rfl) (pe_tup pa_nil))
 (pss_cons (ps_for PassesOwn.never rfl (pi_range2 (by rfl) T.range (pa_cons pe_int (pa_cons (pe_op op_add (pv 3) pe_int) pa_nil))) (pg_name (i := 8) sclaw.nd rfl (Or.inl rfl)) (pss_cons (ps_set (i := 12) sclaw.nd rfl (Or.inl rfl) (pe_ifExp (pt_cmpR op_eq (pe_ix ix_str (pv 4) (pe_op op_sub (pv 8) pe_int) (fun _ _ => rfl)) pe_str (nomark _)) (pe_call Ganswers_reply (hr.mono (by decide)) (by rfl) Canswers_reply.m Canswers_reply.k Canswers_reply.b .nil pass0 (pa_cons (pv 5) (pa_cons (pv 11) pa_nil))) (pe_op op_mul (pv 8) (pe_call G_law_pick (hr.mono (by decide)) (by rfl) C_law_pick.m C_law_pick.k C_law_pick.b .nil pass0 (pa_cons (pv 1) (pa_cons (pe_lst (pa_cons pe_int (pa_cons (pe_un un_neg pe_int) pa_nil))) pa_nil))))))
 (pss_one (ps_set (i := 11) sclaw.nd rfl (Or.inr rfl) (pe_op (ok_catT (K := K) rfl) (pv 11) (pe_tup (pa_cons (pv 12) pa_nil)))))))
 (pss_one (ps_for PassesOwn.never rfl (ik_tupI (K := K) rfl (pv 5)) (pgk_tup (K := K) rfl rfl (pgs_cons (pg_name (i := 13) sclaw.nd rfl (Or.inl rfl)) (pgs_cons (pg_name (i := 14) sclaw.nd rfl (Or.inl rfl)) pgs_nil))) (pss_cons (ps_set (i := 15) sclaw.nd rfl (Or.inl rfl) (pe_and (pe_cmpR op_eq (pe_ix (ik_tup (K := K) rfl) (pv 14) pe_int (fun _ _ => rfl)) pe_str (nomark _)) (pe_one (pe_cmpR (ok_eqD (K := K) rfl hr.units) (pe_lc (own := [("y", 16)]) (g := gName 16) rfl sclaw.nd (ik_tupI (K := K) rfl (pe_ix (ik_tup (K := K) rfl) (pv 14) pe_int (fun _ _ => rfl))) (blkOk_by (own := [("y", 16)]) (N := ["script", "bag", "turn", "n", "owners", "heard", "known", "play", "k", "due", "seen", "whole", "own", "x", "answer", "is_yes", "y"]) (sc := defScope slaw) (by decide +kernel)) (fun _ _ _ _ _ => (pg_name (i := 16) sclaw.nd rfl (Or.inl rfl))) (fun _ _ _ _ _ => (pts_one (pt_cmpR (ok_notIn (K := K) rfl) (pv 16) (pv 11) (by rfl)))) (fun _ _ _ _ _ => pe_int)) (pe_lst pa_nil) (nomark _)))))
 (pss_one (ps_if (pt_cmpR op_ne (pe_ix (ik_tup (K := K) rfl) (pv 11) (pe_op op_sub (pv 13) pe_int) (fun _ _ => rfl)) (pe_ifExp (pt_val (pv 15)) (pv 13) (pe_un un_neg (pv 13))) (nomark _)) (pss_one (ps_ret pe_bl)) pss_nil))))))))))))))
 (pss_one (ps_ret pe_bl)))), ?_⟩
    refine rd_start (σ' := [some (.ref a), none, none, none, none, none, none, none, none, none, none, none, none, none, none, none, none]) rfl ?_
    walk_at "rvs"
    refine ⟨a, ns, rfl, ha, hl, fun d l H1 e1 hd hl0 hD1 => ?_⟩
    walk_at "rvs"
    refine rd_rng1 (by decide) (by decide) ?_
    refine fr_range (lo := 0) (n := 6) (fun i σ' H' => ∃ x2 x3 x4 x5 x6 x7 x8 x9 xa xb xc xd xe xf : Option V, σ' = [some (.ref a), some (.ref d), x2, x3, x4, x5, x6, x7, x8, x9, xa, xb, xc, xd, xe, xf, none] ∧ DeckL d l H')
      ⟨_, _, _, _, _, _, _, _, _, _, _, _, _, _, rfl, hD1⟩ (fun i σ' H2 hi hP => ?_) fun σ' H2 hP => ?_
    · obtain ⟨x2, x3, x4, x5, x6, x7, x8, x9, xa, xb, xc, xd, xe, xf, rfl, hD2⟩ := hP
      refine rd_start (σ' := [some (.ref a), some (.ref d), some (.int (0 + (i : Int))), x3, x4, x5, x6, x7, x8, x9, xa, xb, xc, xd, xe, xf, none]) rfl ?_
      walk_at "rvs"
      refine rd_ifV (fun v H' => ∃ n : Int, v = .int n ∧ Gl d l H2 H' ∧ 1 ≤ n ∧ n ≤ 60) (fun N kN => ?_) fun v H3 hv => ?_
      · have other : ∀ (H' : Hp) (r : Int), Gl d l H2 H' → 0 ≤ r → r < 10 → N (.int (1 + r)) H' := fun H' r g r0 r1 => kN _ _ ⟨1 + r, rfl, g, by omega, by omega⟩
        walk_at "rds"
        refine rd_ite (fun c => ?_) (fun c => ?_)
        · walk_at "rds"
          refine ⟨d, l, 4, rfl, hD2, by decide, by decide, fun r H3 g3 r0 r1 => ?_⟩
          walk_at "rds"
          refine rd_ite (fun c => ?_) (fun c => ?_)
          · walk_at "rds"
            exact kN _ _ ⟨60, rfl, g3, by decide, by decide⟩
          · walk_at "rds"
            refine ⟨d, l, 10, rfl, g3.dk, by decide, by decide, fun r H4 g4 r0 r1 => ?_⟩
            walk_at "rds"
            exact other _ r (g3.trans g4) r0 r1
        · walk_at "rds"
          refine ⟨d, l, 10, rfl, hD2, by decide, by decide, fun r H4 g4 r0 r1 => ?_⟩
          walk_at "rds"
          exact other _ r g4 r0 r1
      obtain ⟨n', rfl, g3, n0, n1⟩ := hv
      obtain ⟨n, rfl⟩ : ∃ n : Nat, n' = (n : Int) := ⟨n'.toNat, by omega⟩
      have hD3 := g3.dk
      clear g3 hD2
      walk_at "rvs"
      refine ⟨d, l, (n : Int), rfl, hD3, by omega, n1, fun z H4 g4 hz => ?_⟩
      rw [Int.toNat_natCast] at hz
      have hD4 := g4.dk
      clear g4 hD3
      walk_at "rvs"
      refine rd_ifV (fun v H' => ∃ m : Int, v = .int m ∧ H' = H4 ∧ 0 ≤ m ∧ m ≤ 60) (fun N kN => ?_) fun v H5 hv => ?_
      · walk_at "rds"
        refine rd_ite (fun c => ?_) (fun c => ?_)
        · walk_at "rds"
          exact kN _ _ ⟨6, rfl, rfl, by decide, by decide⟩
        · walk_at "rds"
          exact kN _ _ ⟨3, rfl, rfl, by decide, by decide⟩
      obtain ⟨most, rfl, rfl, m0, m1⟩ := hv
      walk_at "rvs"
      refine ⟨by decide, fun p1 hp1 => ?_⟩
      walk_at "rvs"
      refine ⟨by decide, fun p2 hp2 => ?_⟩
      walk_at "rvs"
      refine ⟨by decide, fun p3 hp3 => ?_⟩
      refine ⟨(by show 3 ≤ sizeLine; decide), fun p4 hp4 => ?_⟩
      have g1 := Gl.new (o := .lst [V.int 1]) hD4 hp1
      have g2 := g1.trans (Gl.new (o := .lst [V.int 1, V.int (-1)]) g1.dk hp2)
      have g3 := g2.trans (Gl.new (o := .lst [V.int (-1)]) g2.dk hp3)
      have g4 := g3.trans (Gl.new (o := .lst [V.ref p1, V.ref p2, V.ref p3]) g3.dk hp4)
      have q1 : ∀ p ∈ [p1, p2, p3], p ≠ d ∧ p ≠ l ∧ ∃ ys : List Int, (upd (upd (upd (upd H5 p1 (.lst [V.int 1])) p2 (.lst [V.int 1, V.int (-1)])) p3 (.lst [V.int (-1)])) p4 (.lst [V.ref p1, V.ref p2, V.ref p3])) p = some (.lst (ys.map V.int)) ∧ 1 ≤ ys.length ∧ ys.length ≤ 10 ∧ ∀ y ∈ ys, y = 1 ∨ y = -1 := by
        have a4 : ∀ {p : Addr} {o : HO}, (upd (upd (upd H5 p1 (.lst [V.int 1])) p2 (.lst [V.int 1, V.int (-1)])) p3 (.lst [V.int (-1)])) p = some o → (upd (upd (upd (upd H5 p1 (.lst [V.int 1])) p2 (.lst [V.int 1, V.int (-1)])) p3 (.lst [V.int (-1)])) p4 (.lst [V.ref p1, V.ref p2, V.ref p3])) p = some o := fun e => (upd_ne (ne_of_none e hp4)).trans e
        have a3 : ∀ {p : Addr} {o : HO}, (upd (upd H5 p1 (.lst [V.int 1])) p2 (.lst [V.int 1, V.int (-1)])) p = some o → (upd (upd (upd H5 p1 (.lst [V.int 1])) p2 (.lst [V.int 1, V.int (-1)])) p3 (.lst [V.int (-1)])) p = some o := fun e => (upd_ne (ne_of_none e hp3)).trans e
        have a2 : ∀ {p : Addr} {o : HO}, (upd H5 p1 (.lst [V.int 1])) p = some o → (upd (upd H5 p1 (.lst [V.int 1])) p2 (.lst [V.int 1, V.int (-1)])) p = some o := fun e => (upd_ne (ne_of_none e hp2)).trans e
        intro p hp
        simp only [List.mem_cons, List.not_mem_nil, or_false] at hp
        rcases hp with rfl | rfl | rfl
        · exact ⟨(hD4.off hp1).1, (hD4.off hp1).2, [1], a4 (a3 (a2 upd_same)), by decide, by decide, by decide⟩
        · exact ⟨(g1.dk.off hp2).1, (g1.dk.off hp2).2, [1, -1], a4 (a3 upd_same), by decide, by decide, by decide⟩
        · exact ⟨(g2.dk.off hp3).1, (g2.dk.off hp3).2, [-1], a4 upd_same, by decide, by decide, by decide⟩
      refine ⟨d, l, p4, _, rfl, g4.dk, upd_same, (g3.dk.off hp4).1, (g3.dk.off hp4).2, (by show 1 ≤ 3; decide), (by show 3 ≤ 1000; decide), fun y H6 g6 hy => ?_⟩
      obtain ⟨p, rfl, hp⟩ : ∃ p, y = .ref p ∧ p ∈ [p1, p2, p3] := by
        simp only [List.mem_cons, List.not_mem_nil, or_false] at hy
        rcases hy with rfl | rfl | rfl
        · exact ⟨_, rfl, by simp⟩
        · exact ⟨_, rfl, by simp⟩
        · exact ⟨_, rfl, by simp⟩
      obtain ⟨pd, pl, ys, hys, l0, l1, hyy⟩ := q1 p hp
      refine ⟨d, l, p, n, z, most, ys, rfl, g6.dk, hz, by omega, m0, m1, g6.kp p _ pd pl hys, pd, pl, l0, l1, hyy, fun b xs as H7 g7 hfz hdp hok => ?_⟩
      have hD7 := g7.dk
      clear g7 hyy hys q1 g6 g4 g3 g2 g1 hp1 hp2 hp3 hp4 hp hy hD4 m0 m1 l0 l1 pd pl
      have hnice := hok.nice (by omega : n ≤ 60)
      have zl : z.length ≤ sizeLine := by rw [hz.1, sizeLine_eq]; omega
      have hnd := hok.nodup
      have hlen := hok.len
      have hrow : ∀ p ∈ as, ∀ r, p.2 = some r → r.length ≤ 1000 := fun p hp r e => by
        have := hok.row hp e
        omega
      walk_at "rvs"
      refine rd_repr (.tup hfz.sq hdp) hnice (by decide) (by decide) rfl ?_
      walk_at "rvs"
      refine ⟨Nat.zero_le _, fun t0 ht0 => ?_⟩
      have gt := Gl.new (o := .tup []) hD7 ht0
      walk_at "rvs"
      have en : ((n : Int) + 1 - 1).toNat = n := by omega
      refine ⟨1, (n : Int) + 1, rfl, ⟨by decide, by decide, by omega, by omega⟩, ?_⟩
      refine fr_range (lo := 1) (n := ((n : Int) + 1 - 1).toNat) (fun i2 σ' H' => ∃ (y8 y9 ya : Option V) (t : Addr) (ms : List Int), σ' = [some (.ref a), some (.ref d), some (.int (0 + (i : Int))), some (.int (n : Int)), some (.str z), some (.ref b), some (.str (PyData.tuple (as.map dP)).shown), some (.ref t), y8, y9, ya, xb, xc, xd, xe, xf, none] ∧ Gl d l H7 H' ∧
          SqT K H' t (ms.map V.int) ∧ ms.length = i2)
        ⟨_, _, _, t0, [], rfl, gt, SqT.of upd_same, rfl⟩ (fun i2 σ' H8 hi2 hP => ?_) fun σ' H8 hP => ?_
      · obtain ⟨y8, y9, ya, t, ms, rfl, g8, st, lm⟩ := hP
        rw [en] at hi2
        have hfz8 := Gl.fz g8 hD7 hfz
        have hdp8 := Gl.dps g8 hD7 (noL_Ps as) hdp
        have hD8 := g8.dk
        refine rd_start (σ' := [some (.ref a), some (.ref d), some (.int (0 + (i : Int))), some (.int (n : Int)), some (.str z), some (.ref b), some (.str (PyData.tuple (as.map dP)).shown), some (.ref t), some (.int (1 + (i2 : Int))), y9, ya, xb, xc, xd, xe, xf, none]) rfl ?_
        walk_at "rds"
        refine rd_ixS zl (at_up hz (by omega) (by omega)) ?_
        walk_at "rds"
        refine rd_iteb (b := heldBy z "s" (1 + (i2 : Int))) (fun c => ?_) (fun c => ?_)
        · walk_at "rds"
          refine ⟨d, l, 4, rfl, hD8, by decide, by decide, fun r H9 g9 r0 r1 => ?_⟩
          walk_at "rds"
          refine rd_ite (fun c2 => ?_) (fun c2 => ?_)
          · walk_at "rvs"
            have hfz9 := Gl.fz g9 hD8 hfz8
            have hdp9 := Gl.dps g9 hD8 (noL_Ps as) hdp8
            have st9 := g9.tup hD8 st
            have hD9 := g9.dk
            obtain ⟨p, hp, ep⟩ := hok.get (by omega) (by omega) c
            have ep2 : p.1 = (ms.length : Int) + 1 := by omega
            refine ⟨b, t, xs, as, ms, p, rfl, hfz9, hdp9, by omega, hnd, st9, by omega, hp, ep2, hrow p hp, fun HA eA => ?_⟩
            walk_at "rvs"
            refine rd_ifV (fun v H' => v = .int (sayA p.2 ms) ∧ Evl.Ex HA H') (fun N kN => ?_) fun v HB hv => ?_
            · walk_at "rds"
              refine rd_I (by decide) ?_
              walk_at "rds"
              refine rd_ite (fun c3 => ?_) (fun c3 => ?_)
              · walk_at "rds"
                exact ⟨rfl, b, t, xs, as, ms, p, rfl, Evl.ex_t eA hfz9.sq, dpAll_ex eA _ _ hdp9, by omega, hnd, Evl.ex_t eA st9, by omega, hp, ep2, hrow p hp, fun H' e => kN _ _ ⟨rfl, e⟩⟩
              · walk_at "rds"
                exact ⟨b, t, xs, as, ms, p, rfl, Evl.ex_t eA hfz9.sq, dpAll_ex eA _ _ hdp9, by omega, hnd, Evl.ex_t eA st9, by omega, hp, ep2, hrow p hp, fun H' e => kN _ _ ⟨rfl, e⟩⟩
            obtain ⟨rfl, eB⟩ := hv
            have habs : (sayA p.2 ms).natAbs < 10 ^ 12 := by
              rw [sayA_abs]
              have : (10 : Nat) ^ 12 = 1000000000000 := by decide
              omega
            walk_at "rds"
            refine rd_reprI habs ?_
            walk_at "rds"
            refine rd_reprI habs ?_
            walk_at "rds"
            refine rd_iten (fun c => absurd rfl c) fun _ => ?_
            walk_at "rds"
            have eAB := eA.trans eB
            refine ⟨b, t, xs, as, ms, p, rfl, Evl.ex_t eAB hfz9.sq, dpAll_ex eAB _ _ hdp9, by omega, hnd, Evl.ex_t eAB st9, by omega, hp, ep2, hrow p hp, fun HC eC => ?_⟩
            walk_at "rds"
            refine rd_reprI habs ?_
            walk_at "rds"
            refine rd_reprI habs ?_
            walk_at "rds"
            refine rd_iten (fun c => absurd rfl c) fun _ => ?_
            walk_at "rds"
            refine ⟨(by show 1 ≤ sizeLine; decide), fun t1 ht1 => ?_⟩
            have eD := Evl.Ex.new (o := .tup [V.int (sayA p.2 ms)]) ht1
            have eAD := (eAB.trans eC).trans eD
            walk_at "rds"
            refine rd_catT (Evl.ex_t eAD st9) (SqT.of upd_same) (by rw [List.length_map, List.length_singleton, sizeLine_eq]; omega) fun t2 HE eE sE => ?_
            walk_at "rds"
            refine ⟨_, _, _, t2, ms ++ [sayA p.2 ms], rfl, (g8.trans g9).trans (Gl.ex (eAD.trans eE) hD9), ?_, by rw [List.length_append, lm] <;> rfl⟩
            rw [List.map_append]
            exact sE
          · walk_at "rds"
            refine ⟨by decide, fun p5 hp5 => ?_⟩
            have g5 := Gl.new (o := .lst [V.int 1, V.int 1, V.int (-1)]) g9.dk hp5
            refine ⟨d, l, p5, _, rfl, g5.dk, upd_same, (g9.dk.off hp5).1, (g9.dk.off hp5).2, by decide, by decide, fun y HA gA hy => ?_⟩
            obtain ⟨s, rfl, hs⟩ : ∃ s : Int, y = .int s ∧ (s = 1 ∨ s = -1) := by
              simp only [List.mem_cons, List.not_mem_nil, or_false] at hy
              rcases hy with rfl | rfl | rfl
              · exact ⟨_, rfl, .inl rfl⟩
              · exact ⟨_, rfl, .inl rfl⟩
              · exact ⟨_, rfl, .inr rfl⟩
            walk_at "rds"
            refine rd_I (.inl ⟨by omega, by omega⟩) ?_
            walk_at "rds"
            refine ⟨(by show 1 ≤ sizeLine; decide), fun t1 ht1 => ?_⟩
            have gB := ((g9.trans g5).trans gA).trans (Gl.new (o := .tup [V.int ((1 + (i2 : Int)) * s)]) gA.dk ht1)
            walk_at "rds"
            refine rd_catT (gB.tup hD8 st) (SqT.of upd_same) (by rw [List.length_map, List.length_singleton, sizeLine_eq]; omega) fun t2 HE eE sE => ?_
            walk_at "rds"
            refine ⟨_, _, _, t2, ms ++ [(1 + (i2 : Int)) * s], rfl, (g8.trans gB).trans (Gl.ex eE gB.dk), ?_, by rw [List.length_append, lm] <;> rfl⟩
            rw [List.map_append]
            exact sE
        · walk_at "rds"
          refine ⟨by decide, fun p5 hp5 => ?_⟩
          have g5 := Gl.new (o := .lst [V.int 1, V.int 1, V.int (-1)]) hD8 hp5
          refine ⟨d, l, p5, _, rfl, g5.dk, upd_same, (hD8.off hp5).1, (hD8.off hp5).2, by decide, by decide, fun y HA gA hy => ?_⟩
          obtain ⟨s, rfl, hs⟩ : ∃ s : Int, y = .int s ∧ (s = 1 ∨ s = -1) := by
            simp only [List.mem_cons, List.not_mem_nil, or_false] at hy
            rcases hy with rfl | rfl | rfl
            · exact ⟨_, rfl, .inl rfl⟩
            · exact ⟨_, rfl, .inl rfl⟩
            · exact ⟨_, rfl, .inr rfl⟩
          walk_at "rds"
          refine rd_I (.inl ⟨by omega, by omega⟩) ?_
          walk_at "rds"
          refine ⟨(by show 1 ≤ sizeLine; decide), fun t1 ht1 => ?_⟩
          have gB := (g5.trans gA).trans (Gl.new (o := .tup [V.int ((1 + (i2 : Int)) * s)]) gA.dk ht1)
          walk_at "rds"
          refine rd_catT (gB.tup hD8 st) (SqT.of upd_same) (by rw [List.length_map, List.length_singleton, sizeLine_eq]; omega) fun t2 HE eE sE => ?_
          walk_at "rds"
          refine ⟨_, _, _, t2, ms ++ [(1 + (i2 : Int)) * s], rfl, (g8.trans gB).trans (Gl.ex eE gB.dk), ?_, by rw [List.length_append, lm] <;> rfl⟩
          rw [List.map_append]
          exact sE
      obtain ⟨y8, y9, ya, t, ms, rfl, g8, st, lm⟩ := hP
      have hfz8 := Gl.fz g8 hD7 hfz
      have hdp8 := Gl.dps g8 hD7 (noL_Ps as) hdp
      have hD8 := g8.dk
      clear g8 st lm hfz hdp gt ht0 hD7
      walk_at "rds"
      refine rd_repr (.tup hfz8.sq hdp8) hnice (by decide) (by decide) rfl ?_
      walk_at "rds"
      refine rd_iten (fun c => absurd rfl c) fun _ => ?_
      walk_at "rds"
      refine ⟨Nat.zero_le _, fun t0 ht0 => ?_⟩
      have gt := Gl.new (o := .tup []) hD8 ht0
      walk_at "rds"
      refine ⟨1, (n : Int) + 1, rfl, ⟨by decide, by decide, by omega, by omega⟩, ?_⟩
      refine fr_range (lo := 1) (n := ((n : Int) + 1 - 1).toNat) (fun i2 σ' H' => ∃ (y8 yc : Option V) (t2 : Addr) (ms : List Int), σ' = [some (.ref a), some (.ref d), some (.int (0 + (i : Int))), some (.int (n : Int)), some (.str z), some (.ref b), some (.str (PyData.tuple (as.map dP)).shown), some (.ref t), y8, y9, ya, some (.ref t2), yc, xd, xe, xf, none] ∧ Gl d l H8 H' ∧
          SqT K H' t2 (ms.map V.int) ∧ ms.length = i2 ∧ PlayA as ms)
        ⟨_, _, t0, [], rfl, gt, SqT.of upd_same, rfl, PlayA.nil as⟩ (fun i2 σ' H9 hi2 hP => ?_) fun σ' H9 hP => ?_
      · obtain ⟨z8, zc, t2, ms, rfl, g9, st, lm, hpl⟩ := hP
        rw [en] at hi2
        have hfz9 := Gl.fz g9 hD8 hfz8
        have hdp9 := Gl.dps g9 hD8 (noL_Ps as) hdp8
        have hD9 := g9.dk
        refine rd_start (σ' := [some (.ref a), some (.ref d), some (.int (0 + (i : Int))), some (.int (n : Int)), some (.str z), some (.ref b), some (.str (PyData.tuple (as.map dP)).shown), some (.ref t), some (.int (1 + (i2 : Int))), y9, ya, some (.ref t2), zc, xd, xe, xf, none]) rfl ?_
        walk_at "rvs"
        refine rd_ifV (fun v H' => ∃ s : Int, v = .int s ∧ Gl d l H9 H' ∧ s.natAbs = ms.length + 1 ∧ ∀ p ∈ as, p.1 = (ms.length : Int) + 1 → s = sayA p.2 ms) (fun N kN => ?_) fun v HA hv => ?_
        · walk_at "rds"
          refine rd_ixS zl (at_up hz (by omega) (by omega)) ?_
          walk_at "rds"
          refine rd_iteb (b := heldBy z "s" (1 + (i2 : Int))) (fun c => ?_) (fun c => ?_)
          · walk_at "rds"
            obtain ⟨p, hp, ep⟩ := hok.get (by omega) (by omega) c
            have ep2 : p.1 = (ms.length : Int) + 1 := by omega
            refine ⟨b, t2, xs, as, ms, p, rfl, hfz9.sq, hdp9, by omega, hnd, st, by omega, hp, ep2, hrow p hp, fun H' e => kN _ _ ⟨_, rfl, Gl.ex e hD9, sayA_abs _ _, fun p' hp' e' => ?_⟩⟩
            rw [fst_inj hnd hp' hp (e'.trans ep2.symm)]
          · walk_at "rds"
            refine ⟨by decide, fun p5 hp5 => ?_⟩
            have g5 := Gl.new (o := .lst [V.int 1, V.int (-1)]) hD9 hp5
            refine ⟨d, l, p5, _, rfl, g5.dk, upd_same, (hD9.off hp5).1, (hD9.off hp5).2, by decide, by decide, fun y HA gA hy => ?_⟩
            obtain ⟨s, rfl, hs⟩ : ∃ s : Int, y = .int s ∧ (s = 1 ∨ s = -1) := by
              simp only [List.mem_cons, List.not_mem_nil, or_false] at hy
              rcases hy with rfl | rfl
              · exact ⟨_, rfl, .inl rfl⟩
              · exact ⟨_, rfl, .inr rfl⟩
            walk_at "rds"
            refine rd_I (.inl ⟨by omega, by omega⟩) ?_
            refine kN _ _ ⟨_, rfl, g5.trans gA, ?_, fun p' hp' e' => ?_⟩
            · rcases hs with rfl | rfl <;> omega
            · have := (hok.mem hp').2
              rw [e', lm, Int.add_comm] at this
              rw [this] at c
              cases c
        obtain ⟨s, rfl, gA, s1, s2⟩ := hv
        walk_at "rds"
        refine ⟨(by show 1 ≤ sizeLine; decide), fun t1 ht1 => ?_⟩
        have gB := gA.trans (Gl.new (o := .tup [V.int s]) gA.dk ht1)
        walk_at "rds"
        refine rd_catT (gB.tup hD9 st) (SqT.of upd_same) (by rw [List.length_map, List.length_singleton, sizeLine_eq]; omega) fun t3 HE eE sE => ?_
        walk_at "rds"
        refine ⟨_, _, t3, ms ++ [s], rfl, (g9.trans gB).trans (Gl.ex eE gB.dk), ?_, by rw [List.length_append, lm] <;> rfl, hpl.put s1 s2⟩
        rw [List.map_append]
        exact sE
      obtain ⟨z8, zc, t2, ms, rfl, g9, st, lm, hpl⟩ := hP
      rw [en] at lm
      have hfz9 := Gl.fz g9 hD8 hfz8
      have hdp9 := Gl.dps g9 hD8 (noL_Ps as) hdp8
      have hD9 := g9.dk
      walk_at "rds"
      refine rd_ref hfz9.sq ?_
      obtain ⟨ps, kvs, rfl, e1', e2', e3'⟩ := pairs_of_ans hdp9
      have l1 : ps.length = kvs.length := paired_len e1'
      have l2 : kvs.length = as.length := paired_len e3'
      refine fr_tupP (px := fun i => .int (as.getD i (0, none)).1) (py := fun i => (kvs.getD i (Sum.inl 0, .non)).2) rfl (fun i2 σ' H' => ∃ yd ye yf : Option V, σ' = [some (.ref a), some (.ref d), some (.int (0 + (i : Int))), some (.int (n : Int)), some (.str z), some (.ref b), some (.str (PyData.tuple (as.map dP)).shown), some (.ref t), z8, y9, ya, some (.ref t2), zc, yd, ye, yf, none] ∧ Evl.Ex H9 H')
        ⟨_, _, _, rfl, Evl.Ex.refl _⟩ (fun i2 σ' H' _ ⟨_, _, _, _, e⟩ => Evl.ex_t e hfz9.sq) (fun i2 σ' HA hi2 hP => ?_) fun σ' HA hP => ?_
      · obtain ⟨yd, ye, yf, rfl, eA⟩ := hP
        rw [List.length_map] at hi2
        have e4 : as[i2]? = some (as.getD i2 (0, none)) := by rw [List.getD_eq_getElem?_getD, List.getElem?_eq_getElem (by omega)] <;> rfl
        obtain ⟨kv, h1, h2, h3⟩ := paired_get e3' e4
        obtain ⟨T', hT, sT⟩ := paired_get e1' h1
        have e5 : (kvs.getD i2 (Sum.inl 0, V.non)).2 = kv.2 := by rw [List.getD_eq_getElem?_getD, h1] <;> rfl
        have hp := List.mem_of_getElem? e4
        refine ⟨T', by rw [List.getElem?_map, hT] <;> rfl, ?_, ?_⟩
        · show SqT K HA T' [.int (as.getD i2 (0, none)).1, (kvs.getD i2 (Sum.inl 0, .non)).2]
          rw [h2] at sT
          rw [e5]
          exact Evl.ex_t eA sT
        · refine rd_start (σ' := [some (.ref a), some (.ref d), some (.int (0 + (i : Int))), some (.int (n : Int)), some (.str z), some (.ref b), some (.str (PyData.tuple (as.map dP)).shown), some (.ref t), z8, y9, ya, some (.ref t2), zc, some (.int (as.getD i2 (0, none)).1), some kv.2, yf, none]) (by rw [← e5]; rfl) ?_
          have h4 := dp_ex eA _ _ h3
          clear h3 h2 h1 hT sT e5 e4
          generalize as.getD i2 (0, none) = p at h4 hp ⊢
          generalize kv.2 = v at h4 ⊢
          have hpm := hok.mem hp
          obtain ⟨j, ej⟩ : ∃ j : Nat, p.1 = (j : Int) + 1 := ⟨(p.1 - 1).toNat, by omega⟩
          have hj : j < ms.length := by omega
          have hsj : ms[j]? = some ms[j] := List.getElem?_eq_getElem hj
          have hs := hpl.say j _ hsj p hp ej
          have hy := hpl.yes (hok.good p hp) ej
          have ht : (ms.take j).length = j := by rw [List.length_take]; omega
          have key : ms[j] = if yesOf p.2 ms = true then p.1 else -p.1 := by
            rw [hs]
            unfold sayA
            rw [hy, ht, ej]
          have st2 := Evl.ex_t eA st
          have hix : atI (ms.map V.int) (p.1 - 1) = some (.int ms[j]) := at_nat (k := j) (by omega) (by rw [List.getElem?_map, hsj] <;> rfl)
          generalize ms[j] = s at key hix
          clear hs hsj hy ht
          obtain ⟨x, o⟩ := p
          cases o with
          | none =>
            obtain ⟨a2, rfl, s2⟩ := dp_none h4
            walk_at "rds"
            refine rd_ixT s2 (at_nat (k := 0) rfl rfl) ?_
            walk_at "rds"
            refine rd_ite (fun c => absurd c (by decide)) (fun c => ?_)
            walk_at "rds"
            refine rd_ixT st2 hix ?_
            walk_at "rds"
            refine rd_iten (fun c => absurd (congrArg V.int key) c) fun _ => ?_
            walk_at "rds"
            exact ⟨_, _, _, rfl, eA⟩
          | some r =>
            obtain ⟨a2, t3, rfl, s2, s3⟩ := dp_some h4
            walk_at "rds"
            refine rd_ixT s2 (at_nat (k := 0) rfl rfl) ?_
            walk_at "rds"
            refine rd_ite (fun c => ?_) (fun c => absurd rfl c)
            walk_at "rds"
            refine rd_ixT s2 (at_nat (k := 1) rfl rfl) ?_
            refine rd_ref s3 ?_
            refine lc_fmT (fun y => !decide (y ∈ ms)) (fun _ => .int 1) (σx := fun y => [some (.ref a), some (.ref d), some (.int (0 + (i : Int))), some (.int (n : Int)), some (.str z), some (.ref b), some (.str (PyData.tuple (as.map dP)).shown), some (.ref t), z8, y9, ya, some (.ref t2), zc, some (.int x), some (.ref a2), yf, some y]) s3 (by have := hrow _ hp r rfl; omega) (fun _ => rfl) (fun _ => rfl)
              (fun y hy H' N S e kN kS => ?_) fun D3 H3 e6 eD3 hD3 => ?_
            · walk_at "rds"
              refine rd_notInT (Evl.ex_t e st2) ?_
              walk_at "rds"
              refine rd_iten (fun c => ?_) (fun c => ?_)
              · walk_at "rds"
                exact kN (by show (!decide (y ∈ ms)) = true; rw [decide_eq_false c]; rfl) _ (Evl.Ex.refl _)
              · exact kS (by show (!decide (y ∈ ms)) = false; rw [decide_eq_true c]; rfl) _ (Evl.Ex.refl _)
            have e7 : (r.filter fun y => !decide (y ∈ ms)).map (fun _ => V.int 1) = ((r.filter fun y => !decide (y ∈ ms)).map fun _ => (1 : Int)).map V.int := by rw [List.map_map] <;> rfl
            rw [e7] at hD3
            walk_at "rds"
            refine ⟨Nat.zero_le _, fun c5 hc5 => ?_⟩
            have e8 := Evl.Ex.new (o := .lst []) hc5
            refine rd_eqD (dp_L (SqL.of (e8 _ _ hD3))) (dp_L (ns := []) (SqL.of upd_same)) (Nice.lst (NiceAll.ints fun x hx => by
              obtain ⟨_, _, rfl⟩ := List.mem_map.mp hx
              decide)) (Nice.lst (NiceAll.ints nofun)) (by decide) (by decide) ?_
            have e9 : PyData.eqv (.list (dI ((r.filter fun y => !decide (y ∈ ms)).map fun _ => (1 : Int)))) (.list (dI [])) = yesOf (some r) ms := ones_all r ms
            rw [e9]
            replace key : s = if yesOf (some r) ms = true then x else -x := key
            have eAll := (eA.trans e6).trans e8
            generalize yesOf (some r) ms = bb at key ⊢
            walk_at "rds"
            refine rd_ixT (Evl.ex_t (e6.trans e8) st2) hix ?_
            walk_at "rds"
            refine rd_iteb (fun c => ?_) (fun c => ?_)
            · rw [if_pos c] at key
              walk_at "rds"
              refine rd_iten (fun c => absurd (congrArg V.int key) c) fun _ => ?_
              walk_at "rds"
              exact ⟨_, _, _, rfl, eAll⟩
            · rw [if_neg (by rw [c]; decide)] at key
              walk_at "rds"
              refine rd_iten (fun c => absurd (congrArg V.int key) c) fun _ => ?_
              walk_at "rds"
              exact ⟨_, _, _, rfl, eAll⟩
      · obtain ⟨yd, ye, yf, rfl, eA⟩ := hP
        walk_at "rds"
        exact ⟨_, _, _, _, _, _, _, _, _, _, _, _, _, _, rfl, (Gl.ex eA hD9).dk⟩
    · obtain ⟨x2, x3, x4, x5, x6, x7, x8, x9, xa, xb, xc, xd, xe, xf, rfl, hD2⟩ := hP
      walk_at "rds"
      exact q _
end
end KA
set_option Elab.async false
set_option linter.all false
set_option maxRecDepth 100000
set_option maxHeartbeats 400000
namespace KA
open PySem PySem.Spec PyProof.Rows L2 Ea
theorem all_mk {l : PySem.W.OpenLaw} {w : World} {K : PySem.W.Frag} {h : Heap} {mg : Str → Option Value} {fa f0 f1 f2 f3 f4 f5 f6 f7 f8 : Addr} (X : K.In h) (G : h.Ns mainGlobals mg) (hfa : mg "law" = some (.ref fa))
    {od0 an0 : Option Addr} {sl0 : Array (Option Value)} {oc0 kV0 dc0 pm0 cd0 ct0 : Value} {od1 an1 : Option Addr} {sl1 : Array (Option Value)} {oc1 kV1 dc1 pm1 cd1 ct1 : Value} {od2 an2 : Option Addr} {sl2 : Array (Option Value)} {oc2 kV2 dc2 pm2 cd2 ct2 : Value} {od3 an3 : Option Addr} {sl3 : Array (Option Value)} {oc3 kV3 dc3 pm3 cd3 ct3 : Value} {od4 an4 : Option Addr} {sl4 : Array (Option Value)} {oc4 kV4 dc4 pm4 cd4 ct4 : Value} {od5 an5 : Option Addr} {sl5 : Array (Option Value)} {oc5 kV5 dc5 pm5 cd5 ct5 : Value} {od6 an6 : Option Addr} {sl6 : Array (Option Value)} {oc6 kV6 dc6 pm6 cd6 ct6 : Value} {od7 an7 : Option Addr} {sl7 : Array (Option Value)} {oc7 kV7 dc7 pm7 cd7 ct7 : Value} {od8 an8 : Option Addr} {sl8 : Array (Option Value)} {oc8 kV8 dc8 pm8 cd8 ct8 : Value}
    (a0 : PySem.W.nsIn K mainGlobals "answers_reply" = some (some (.ref f0))) (l0 : K.lookup f0 = some ⟨oc0, od0, .func (PySem.W.fnOf "answers_reply" "answers_reply" (defArgs sanswers_reply) (defBody sanswers_reply) (defScope sanswers_reply) .none kV0 dc0 pm0 an0 cd0 ct0), sl0⟩) (c0 : PySem.W.codeIn K cd0 "answers_reply" = true) (k0 : PySem.W.keepIn K (.ref f0) = true)
    (a1 : PySem.W.nsIn K mainGlobals "_law_bag" = some (some (.ref f1))) (l1 : K.lookup f1 = some ⟨oc1, od1, .func (PySem.W.fnOf "_law_bag" "_law_bag" (defArgs s_law_bag) (defBody s_law_bag) (defScope s_law_bag) .none kV1 dc1 pm1 an1 cd1 ct1), sl1⟩) (c1 : PySem.W.codeIn K cd1 "_law_bag" = true) (k1 : PySem.W.keepIn K (.ref f1) = true)
    (a2 : PySem.W.nsIn K mainGlobals "_law_draw" = some (some (.ref f2))) (l2 : K.lookup f2 = some ⟨oc2, od2, .func (PySem.W.fnOf "_law_draw" "_law_draw" (defArgs s_law_draw) (defBody s_law_draw) (defScope s_law_draw) .none kV2 dc2 pm2 an2 cd2 ct2), sl2⟩) (c2 : PySem.W.codeIn K cd2 "_law_draw" = true) (k2 : PySem.W.keepIn K (.ref f2) = true)
    (a3 : PySem.W.nsIn K mainGlobals "_law_pick" = some (some (.ref f3))) (l3 : K.lookup f3 = some ⟨oc3, od3, .func (PySem.W.fnOf "_law_pick" "_law_pick" (defArgs s_law_pick) (defBody s_law_pick) (defScope s_law_pick) .none kV3 dc3 pm3 an3 cd3 ct3), sl3⟩) (c3 : PySem.W.codeIn K cd3 "_law_pick" = true) (k3 : PySem.W.keepIn K (.ref f3) = true)
    (a4 : PySem.W.nsIn K mainGlobals "_law_mixed" = some (some (.ref f4))) (l4 : K.lookup f4 = some ⟨oc4, od4, .func (PySem.W.fnOf "_law_mixed" "_law_mixed" (defArgs s_law_mixed) (defBody s_law_mixed) (defScope s_law_mixed) .none kV4 dc4 pm4 an4 cd4 ct4), sl4⟩) (c4 : PySem.W.codeIn K cd4 "_law_mixed" = true) (k4 : PySem.W.keepIn K (.ref f4) = true)
    (a5 : PySem.W.nsIn K mainGlobals "_law_owners" = some (some (.ref f5))) (l5 : K.lookup f5 = some ⟨oc5, od5, .func (PySem.W.fnOf "_law_owners" "_law_owners" (defArgs s_law_owners) (defBody s_law_owners) (defScope s_law_owners) .none kV5 dc5 pm5 an5 cd5 ct5), sl5⟩) (c5 : PySem.W.codeIn K cd5 "_law_owners" = true) (k5 : PySem.W.keepIn K (.ref f5) = true)
    (a6 : PySem.W.nsIn K mainGlobals "_law_own" = some (some (.ref f6))) (l6 : K.lookup f6 = some ⟨oc6, od6, .func (PySem.W.fnOf "_law_own" "_law_own" (defArgs s_law_own) (defBody s_law_own) (defScope s_law_own) .none kV6 dc6 pm6 an6 cd6 ct6), sl6⟩) (c6 : PySem.W.codeIn K cd6 "_law_own" = true) (k6 : PySem.W.keepIn K (.ref f6) = true)
    (a7 : PySem.W.nsIn K mainGlobals "_law_said" = some (some (.ref f7))) (l7 : K.lookup f7 = some ⟨oc7, od7, .func (PySem.W.fnOf "_law_said" "_law_said" (defArgs s_law_said) (defBody s_law_said) (defScope s_law_said) .none kV7 dc7 pm7 an7 cd7 ct7), sl7⟩) (c7 : PySem.W.codeIn K cd7 "_law_said" = true) (k7 : PySem.W.keepIn K (.ref f7) = true)
    (a8 : PySem.W.nsIn K mainGlobals "law" = some (some (.ref f8))) (l8 : K.lookup f8 = some ⟨oc8, od8, .func (PySem.W.fnOf "law" "law" (defArgs slaw) (defBody slaw) (defScope slaw) .none kV8 dc8 pm8 an8 cd8 ct8), sl8⟩) (c8 : PySem.W.codeIn K cd8 "law" = true) (k8 : PySem.W.keepIn K (.ref f8) = true)
    (z0 : PySem.W.nsIn K mainGlobals "len" = some none) (z1 : PySem.W.nsIn K mainGlobals "abs" = some none) (z2 : PySem.W.nsIn K mainGlobals "min" = some none) (z3 : PySem.W.nsIn K mainGlobals "max" = some none) (z4 : PySem.W.nsIn K mainGlobals "sorted" = some none) (z5 : PySem.W.nsIn K mainGlobals "tuple" = some none) (z6 : PySem.W.nsIn K mainGlobals "list" = some none) (z7 : PySem.W.nsIn K mainGlobals "set" = some none) (z8 : PySem.W.nsIn K mainGlobals "int" = some none) (z9 : PySem.W.nsIn K mainGlobals "range" = some none) (z10 : PySem.W.nsIn K mainGlobals "repr" = some none) (z11 : PySem.W.nsIn K mainGlobals "isinstance" = some none) (z12 : PySem.W.nsIn K mainGlobals "enumerate" = some none) (z13 : PySem.W.nsIn K mainGlobals "zip" = some none) (z14 : PySem.W.nsIn K mainGlobals "sum" = some none) (z15 : PySem.W.nsIn K mainGlobals "all" = some none) (z16 : PySem.W.nsIn K mainGlobals "any" = some none) (z17 : PySem.W.nsIn K mainGlobals "dict" = some none)
    : ∃ fd : FuncData, (∀ (s : Shared) (v : Value), BindsTo s fd ⟨[v], []⟩ [("script", v)]) ∧ ∀ base : Heap, K.In base → base.Ns mainGlobals mg → FnG l.prog w K mg base 4 fa fd ["script"] (spLaw K) := by
  have e := hfa.symm.trans (PySem.W.mg_of X G a8)
  cases e
  have F0 := fun_mk (st := sanswers_reply) l0 c0 k0
  have b0 := F0.binds (ps := ["answers", "play"]) fun _ _ _ _ _ _ us hl => match us, hl with | [_, _], _ => rfl
  have Canswers_reply : Callee K mg "answers_reply" f0 _ ["answers", "play"] := ⟨PySem.W.mg_of X G a0, k0, b0⟩
  have F1 := fun_mk (st := s_law_bag) l1 c1 k1
  have b1 := F1.binds (ps := ["script"]) fun _ _ _ _ _ _ us hl => match us, hl with | [_], _ => rfl
  have C_law_bag : Callee K mg "_law_bag" f1 _ ["script"] := ⟨PySem.W.mg_of X G a1, k1, b1⟩
  have F2 := fun_mk (st := s_law_draw) l2 c2 k2
  have b2 := F2.binds (ps := ["bag", "many"]) fun _ _ _ _ _ _ us hl => match us, hl with | [_, _], _ => rfl
  have C_law_draw : Callee K mg "_law_draw" f2 _ ["bag", "many"] := ⟨PySem.W.mg_of X G a2, k2, b2⟩
  have F3 := fun_mk (st := s_law_pick) l3 c3 k3
  have b3 := F3.binds (ps := ["bag", "row"]) fun _ _ _ _ _ _ us hl => match us, hl with | [_, _], _ => rfl
  have C_law_pick : Callee K mg "_law_pick" f3 _ ["bag", "row"] := ⟨PySem.W.mg_of X G a3, k3, b3⟩
  have F4 := fun_mk (st := s_law_mixed) l4 c4 k4
  have b4 := F4.binds (ps := ["bag", "row"]) fun _ _ _ _ _ _ us hl => match us, hl with | [_, _], _ => rfl
  have C_law_mixed : Callee K mg "_law_mixed" f4 _ ["bag", "row"] := ⟨PySem.W.mg_of X G a4, k4, b4⟩
  have F5 := fun_mk (st := s_law_owners) l5 c5 k5
  have b5 := F5.binds (ps := ["bag", "n"]) fun _ _ _ _ _ _ us hl => match us, hl with | [_, _], _ => rfl
  have C_law_owners : Callee K mg "_law_owners" f5 _ ["bag", "n"] := ⟨PySem.W.mg_of X G a5, k5, b5⟩
  have F6 := fun_mk (st := s_law_own) l6 c6 k6
  have b6 := F6.binds (ps := ["bag", "owners", "most", "signs"]) fun _ _ _ _ _ _ us hl => match us, hl with | [_, _, _, _], _ => rfl
  have C_law_own : Callee K mg "_law_own" f6 _ ["bag", "owners", "most", "signs"] := ⟨PySem.W.mg_of X G a6, k6, b6⟩
  have F7 := fun_mk (st := s_law_said) l7 c7 k7
  have b7 := F7.binds (ps := ["heard", "play"]) fun _ _ _ _ _ _ us hl => match us, hl with | [_, _], _ => rfl
  have C_law_said : Callee K mg "_law_said" f7 _ ["heard", "play"] := ⟨PySem.W.mg_of X G a7, k7, b7⟩
  have F8 := fun_mk (st := slaw) l8 c8 k8
  have T : Bl mg := ⟨PySem.W.mg_none_of X G z0, PySem.W.mg_none_of X G z1, PySem.W.mg_none_of X G z2, PySem.W.mg_none_of X G z3, PySem.W.mg_none_of X G z4, PySem.W.mg_none_of X G z5, PySem.W.mg_none_of X G z6, PySem.W.mg_none_of X G z7, PySem.W.mg_none_of X G z8, PySem.W.mg_none_of X G z9, PySem.W.mg_none_of X G z10, PySem.W.mg_none_of X G z11, PySem.W.mg_none_of X G z12, PySem.W.mg_none_of X G z13, PySem.W.mg_none_of X G z14, PySem.W.mg_none_of X G z15, PySem.W.mg_none_of X G z16, PySem.W.mg_none_of X G z17⟩
  have Kanswers_reply : KwRev (PySem.W.fnOf "answers_reply" "answers_reply" (defArgs sanswers_reply) (defBody sanswers_reply) (defScope sanswers_reply) .none kV0 dc0 pm0 an0 cd0 ct0) ["answers", "play"] := fun s ws hw => match ws, hw with | [_, _], _ => .of_eq rfl
  refine ⟨PySem.W.fnOf "law" "law" (defArgs slaw) (defBody slaw) (defScope slaw) .none kV8 dc8 pm8 an8 cd8 ct8, fun s v => .of_eq rfl, fun base _ _ => ?_⟩
  have Ganswers_reply := ok_reply (P := l.prog) (w := w) (base := base) F0 T  
  have G_law_bag := ok_deck (P := l.prog) (w := w) (base := base) F1 T  
  have G_law_draw := ok_draw (P := l.prog) (w := w) (base := base) F2 T  
  have G_law_pick := ok_pick (P := l.prog) (w := w) (base := base) F3 T  G_law_draw C_law_draw
  have G_law_mixed := ok_mixed (P := l.prog) (w := w) (base := base) F4 T  G_law_draw C_law_draw
  have G_law_owners := ok_owners (P := l.prog) (w := w) (base := base) F5 T  G_law_draw C_law_draw G_law_pick C_law_pick
  have G_law_own := ok_own (P := l.prog) (w := w) (base := base) F6 T  G_law_draw C_law_draw G_law_pick C_law_pick G_law_mixed C_law_mixed
  have G_law_said := ok_said (P := l.prog) (w := w) (base := base) F7 T  
  exact ok_law F8 T  G_law_bag C_law_bag G_law_draw C_law_draw G_law_pick C_law_pick G_law_owners C_law_owners G_law_own C_law_own G_law_said C_law_said Ganswers_reply Canswers_reply Kanswers_reply
end KA
open PySem PySem.W PyProof.Rows
set_option Elab.async false
set_option linter.all false
set_option maxRecDepth 100000
set_option maxHeartbeats 0 in
theorem PySem.Challenge.cw_eachsome_k46_whole_plain_answers_along_p_holds : PySem.Challenge.rw_eachsome_k46_whole_plain_answers_along_p.Holds := by
  w_on; o_law; k_head; (case hw => w_witness2)
  k_fill
  refine Ea.walk_G (l := PySem.Challenge.rw_eachsome_k46_whole_plain_answers_along_p) (n := 63) (k := 4) (x := "script") (sp := fun w => KA.spLaw _) rfl (by decide) rfl ⟨rfl, by decide, by decide⟩ (fun w h Y => PySem.W.kIn_of Y) ?F (fun _ _ a ns hl _ hS => ⟨a, ns, rfl, hS, hl, fun _ => rfl⟩)
  case F =>
    intro w mg fa h KX G hmg
    refine' KA.all_mk KX G hmg ?a0 ?l0 ?c0 ?k0 ?a1 ?l1 ?c1 ?k1 ?a2 ?l2 ?c2 ?k2 ?a3 ?l3 ?c3 ?k3 ?a4 ?l4 ?c4 ?k4 ?a5 ?l5 ?c5 ?k5 ?a6 ?l6 ?c6 ?k6 ?a7 ?l7 ?c7 ?k7 ?a8 ?l8 ?c8 ?k8 ?z0 ?z1 ?z2 ?z3 ?z4 ?z5 ?z6 ?z7 ?z8 ?z9 ?z10 ?z11 ?z12 ?z13 ?z14 ?z15 ?z16 ?z17
    (case a0 => k_is)
    (case l0 => k_is)
    (case c0 => k_is)
    (case k0 => k_is)
    (case a1 => k_is)
    (case l1 => k_is)
    (case c1 => k_is)
    (case k1 => k_is)
    (case a2 => k_is)
    (case l2 => k_is)
    (case c2 => k_is)
    (case k2 => k_is)
    (case a3 => k_is)
    (case l3 => k_is)
    (case c3 => k_is)
    (case k3 => k_is)
    (case a4 => k_is)
    (case l4 => k_is)
    (case c4 => k_is)
    (case k4 => k_is)
    (case a5 => k_is)
    (case l5 => k_is)
    (case c5 => k_is)
    (case k5 => k_is)
    (case a6 => k_is)
    (case l6 => k_is)
    (case c6 => k_is)
    (case k6 => k_is)
    (case a7 => k_is)
    (case l7 => k_is)
    (case c7 => k_is)
    (case k7 => k_is)
    (case a8 => k_is)
    (case l8 => k_is)
    (case c8 => k_is)
    (case k8 => k_is)
    (case z0 => k_is)
    (case z1 => k_is)
    (case z2 => k_is)
    (case z3 => k_is)
    (case z4 => k_is)
    (case z5 => k_is)
    (case z6 => k_is)
    (case z7 => k_is)
    (case z8 => k_is)
    (case z9 => k_is)
    (case z10 => k_is)
    (case z11 => k_is)
    (case z12 => k_is)
    (case z13 => k_is)
    (case z14 => k_is)
    (case z15 => k_is)
    (case z16 => k_is)
    (case z17 => k_is)
