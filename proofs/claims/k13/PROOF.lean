import PyProof.Rows.All
import Wide.All
import OpenK.AllK
import Wide.FinOn
import PyProof.Rows.NestShow
import HandS.ForMost
import HandS.Exc
import HandS.ExcOwn
import HandS.WordsExc
import HandS.Defaults
import HandS.More
import HandS.Strs
import HandS.Conv
import HandS.SetFor
import HandS.SortInts
import HandS.DictComp
import HandS.TupAny
import HandS.ExcIs
import HandS.Evl
import PySem.Challenge.RW_eachsome_k13_whole_rows_dropped_and_met
set_option Elab.async false
set_option linter.all false
set_option maxRecDepth 100000
set_option maxHeartbeats 4000000
/-! Own rules: repr of data where nothing is being shown, set of a tuple of ints, a text times a number, an own error made without arguments, calls by names alone; defs whose promise needs that nothing is being shown. -/
namespace Ea
open PySem PySem.Spec PyProof.Rows L2

/-! ### repr -/
def rRepr (K : PySem.W.Frag) : List V → Hp → VK → Prop := fun xs H Q =>
  ∃ (x : V) (d : PyData), xs = [x] ∧ Dp K H x d ∧ d.showable = true ∧ isDisplay d = true ∧ d.hasDict = false ∧ d.depth ≤ 40 ∧ d.shown.length ≤ sizeLine ∧ Q (.str d.shown) H
section
variable {X : Cx}
theorem cr_repr (hg : X.A.guards = some []) (hu : X.A.units + 64 < cLine) : CallR X (.builtin "repr") (rRepr X.K) := by
  intro pins s σ H xs us Q I r h
  obtain ⟨x, d, rfl, hd, h1, h2, h3, h4, h5, q⟩ := h
  obtain ⟨u, rfl, ru⟩ := vals1 r
  obtain ⟨as, rd⟩ := Dp.reads I d x u hd ru
  obtain ⟨a, rfl⟩ := isRef_of_reads rd h2
  exact repr_of_reads' rd h1 (PyData.noDict_hsm h3) hg (by omega) (fun _ _ e => e)
    (fun h' tk u hk => ⟨.str d.shown, H, I.kept hk, ⟨_, rfl⟩, q⟩) h5

/-! ### set of a tuple of ints -/
def rSetI (K : PySem.W.Frag) (w : World) : List V → Hp → VK → Prop := fun xs H Q =>
  ∃ (p : Addr) (ns : List Int), xs = [.ref p] ∧ SqT K H p (ns.map V.int) ∧ ns.length ≤ 1000 ∧
    ∀ (a : Addr) (c : Nat), H a = none → c ≤ ns.length → Q (.ref a) (upd H a (SetO w a (fun j => decide (j ∈ ns)) c))
theorem cr_setI (hc : X.calm = true) : CallR X (.type "set") (rSetI X.K X.w) := by
  intro pins s σ H xs us Q I r h
  obtain ⟨p, ns, rfl, hp, hl, q⟩ := h
  rw [Vals.ref1 r]
  obtain ⟨its, rv, pt, hz⟩ := I.tuple hp
  have hi : IntsAre its.toArray.toList ns := by simpa using rv.ints
  have hf : H s.heap.objs.size = none := I.hok.fresh (Nat.le_refl _)
  refine call_set_tupI ns (I.ok.hd hc) pt hi (by unfold scanBound; omega) fun h' tk c R1 hcn k => ?_
  exact ⟨.ref _, upd H s.heap.objs.size (SetO X.w s.heap.objs.size (fun j => decide (j ∈ ns)) c),
    I.laid (t' := tk) k (Nat.le_refl _) (setO_new R1), rfl, q _ c hf hcn⟩

/-! ### a text times a number -/
theorem folded_size (z : Array Nat) : ∀ (n : Nat) (acc : Array Nat), ((List.replicate n z).foldl (· ++ ·) acc).size = acc.size + n * z.size
  | 0, acc => by simp
  | n + 1, acc => by
    rw [List.replicate_succ, List.foldl_cons, folded_size z n, Array.size_append, Nat.succ_mul]
    omega
def repS (z : Str) (n : Int) : Str := ⟨(List.replicate n.toNat z.cps).foldl (· ++ ·) #[]⟩
def rMulS : R2 := fun x y H Q => ∃ z n, x = .str z ∧ y = .int n ∧ 0 ≤ n ∧ n ≤ 1000 ∧ z.length ≤ 1000 ∧ 1 ≤ z.length ∧ Q (.str (repS z n)) H
theorem repS_length (z : Str) (n : Int) : (repS z n).length = n.toNat * z.length := by
  have h := folded_size z.cps n.toNat #[]
  rw [Array.size_empty, Nat.zero_add] at h
  exact h
theorem repS_fits {z : Str} {n : Int} (h1 : n ≤ 1000) (h2 : z.length ≤ 1000) : (repS z n).length ≤ sizeLine := by
  rw [repS_length, sizeLine_eq]
  have : n.toNat * z.length ≤ 1000 * 1000 := Nat.mul_le_mul (by omega) h2
  omega
theorem op_mulS : OpR X (binaryOp .Mult) rMulS := by
  intro pins s σ H x y v u Q I rx ry h
  obtain ⟨z, n, rfl, rfl, h0, h1, h2, h3, q⟩ := h
  obtain ⟨t, rfl⟩ := rx
  obtain ⟨t', rfl⟩ := ry
  have hlen : z.length * n.toNat ≤ 1000 * 1000 := Nat.mul_le_mul h2 (by omega)
  have hr : (decide (n < -(2 ^ 63 : Int)) || decide (n ≥ 2 ^ 63)) = false := by
    rw [decide_eq_false (by omega), decide_eq_false (by omega)]; rfl
  refine PySem.P.mul_str hr ?_ ?_ ?_
  · intro hn _ hgt
    have e : (1000 : Int) ≤ (2 ^ 63 - 1) / n := by
      rw [Int.le_ediv_iff_mul_le (by omega)]
      omega
    omega
  · intro _ _
    unfold Builtin.Str.tooLong
    rw [decide_eq_false_iff_not, sizeLine_eq]
    omega
  · by_cases c1 : n < 1
    · rw [if_pos c1]
      have e0 : n = 0 := by omega
      subst e0
      refine ⟨by decide, .str (repS z 0), H, I.tok _, ⟨_, rfl⟩, q⟩
    · rw [if_neg c1]
      by_cases c2 : (n == 1 || z.length == 0) = true
      · rw [if_pos c2]
        have e1 : n = 1 := by
          rcases Bool.or_eq_true _ _ |>.mp c2 with h | h
          · exact eq_of_beq h
          · have := eq_of_beq h
            omega
        subst e1
        have e2 : repS z 1 = z := by
          unfold repS
          show (⟨#[] ++ z.cps⟩ : Str) = z
          rw [Array.empty_append]
        rw [e2] at q
        exact ⟨.str z, H, I, ⟨_, rfl⟩, q⟩
      · rw [if_neg c2]
        exact ⟨repS_fits h1 h2, .str (repS z n), H, I.tok _, ⟨_, rfl⟩, q⟩

/-! ### X(): an own error without arguments -/
theorem pmk_own0 {C : Addr} {bmB : List Value} {B newId initId : String} {x : Str} {p pos : Pos} (F : ExcBaseFacts B newId initId bmB)
    (q : PySem.W.excIn X.K C bmB newId = true) (gC : X.mg x = some (.ref C)) (kC : PySem.W.keepIn X.K (.ref C) = true)
    (r : Raises X (.ref C)) (hg : Gl X x) (hdb : (x == ("__debug__" : Str)) = false := by decide) :
    PMk X (.Call (.Name x p) [] [] pos) (fun _ H Q => Q (.ref C) none H) := by
  intro pins s σ H Q I h
  refine wpAny_Call_Name_kw (ld_glob I hg gC (PySem.W.callWith_K0 I.kIn kC ?_) hdb)
  obtain ⟨bm, N, nm, qn, bs, hdct, sn, sub, ab, col, dd, k0, k1, k2, k3, k5, mN, hC, hN, hni, T⟩ := exc_obj I.kIn q
  exact wpAny_call_exc_subT F T hC hN hni (fun h' e hm => mk_of I hm r h (I.hok.gone hm.new)) (Nat.zero_le _)

/-! ### f(k = v, ..) by names alone; what it lets out is wished at the slots -/
def tKw (m : Nat) (sp : Sp) (gV : List V → List V) (E : L2.St → XK) (tk : TA) : TE := fun σ H Q =>
  tk σ H fun zs H2 => zs.length = m ∧ sp (gV zs) H2 Q (E σ)
theorem pe_kw {CX : CXT} {k : Nat} {f : Addr} {fd : FuncData} {ps ks : List Str} {sp : Sp} {E : L2.St → XK} {x : Str} {p pos : Pos} {kws : List Keyword} {tk : TA}
    {g : List Value → List Value} {gV : List V → List V} (F : FnOk X.prog X.w X.K X.mg X.base CX k f fd ps sp) (hr : Room k X.A) (hg : Gl X x)
    (hm : X.mg x = some (.ref f)) (hk : PySem.W.keepIn X.K (.ref f) = true)
    (hto : ∀ (s : Shared) (ws : List Value), ws.length = ks.length → BindsTo s fd ⟨[], ks.zip ws⟩ (ps.zip (g ws)))
    (hrel : ∀ {zs : List V} {ws : List Value}, zs.length = ks.length → Vals zs ws → Vals (gV zs) (g ws))
    (hx : ∀ σ, PassesAt CX X σ (E σ)) (hkw : PK X kws tk)
    (hall : (backToKw pos (keywordEach kws X.env)).all (·.1.isSome) = true := by rfl)
    (hks : (backToKw pos (keywordEach kws X.env)).filterMap (·.1) = ks := by rfl)
    (hdb : (x == ("__debug__" : Str)) = false := by decide)
    (hpl : ((backTo pos (starEach [] X.env)).any (·.1) || (backToKw pos (keywordEach kws X.env)).any (·.1.isNone)) = false := by rfl) :
    PE X (.Call (.Name x p) [] kws pos) (tKw ks.length sp gV E tk) := by
  refine ⟨fun pins s σ H Q I h => ?_⟩
  refine wpAny_Call_Name_kw (ld_glob I hg hm (PySem.W.callWith_KW0 (h₀ := X.base) I.ok.mod.kin hk hall ?_ hpl) hdb)
  refine thn (hkw.run pos pins s σ H _ I h) fun ws s2 ⟨zs, H2, I2, rz, l2, q2⟩ => ⟨I2.kIn, ?_⟩
  rw [hks]
  have hl : (g ws).length = ps.length := by
    rw [← (hrel l2 rz).length]
    exact F.len _ _ _ _ q2
  refine wpAny_call (codeAny_mono (F.run X.A X.stack s2 H2 ⟨[], ks.zip ws⟩ (g ws) (gV zs) Q (E σ) hr I2.env0
    (hto s2 ws (rz.length.symm.trans l2)) (hrel l2 rz) q2) fun r s' hq => ?_)
  match r, hq with
  | .error e, hq => exact hx σ pins H2 s2 e s' I2 hq
  | .ok (.ret u), hq => exact I2.after hq

/-! ### where nothing is being shown -/
structure FnG (P : Program) (w : World) (K : PySem.W.Frag) (mg : Str → Option Value) (base : Heap) (k : Nat) (f : Addr) (fd : FuncData)
    (ps : List Str) (sp : Sp) : Prop where
  len : ∀ vs H Q E, sp vs H Q E → vs.length = ps.length
  run : ∀ (A : Around) (outer : List Env) (s : Shared) (H : Hp) (args : Args) (us : List Value) (vs : List V) (Q : VK) (E : XK),
    Room k A → A.guards = some [] → Env0 P w K mg base A outer s H → BindsTo s fd args (ps.zip us) → Vals vs us → sp vs H Q E →
    codeAny (model P w) A (.call (.ref f) args) (CR CX0 outer P w H s Q E) s
theorem FnG.mono {P : Program} {w : World} {K : PySem.W.Frag} {mg : Str → Option Value} {base : Heap} {j k : Nat} {f : Addr} {fd : FuncData}
    {ps : List Str} {sp : Sp} (F : FnG P w K mg base j f fd ps sp) (h : j ≤ k) : FnG P w K mg base k f fd ps sp :=
  ⟨F.len, fun A outer s H args us vs Q E hr => F.run A outer s H args us vs Q E (hr.mono h)⟩
theorem pe_callG {k : Nat} {f : Addr} {fd : FuncData} {ps : List Str} {sp : Sp} {x : Str} {p pos : Pos} {e : Expr} {es : List Expr} {t : TA}
    (F : FnG X.prog X.w X.K X.mg X.base k f fd ps sp) (hr : Room k X.A) (h0 : X.A.guards = some []) (hg : Gl X x)
    (hm : X.mg x = some (.ref f)) (hk : PySem.W.keepIn X.K (.ref f) = true) (hb : Binds X.K fd ps []) (ha : PA X (e :: es) t)
    (hdb : (x == ("__debug__" : Str)) = false := by decide)
    (he : starEach (e :: es) X.env = (false, eval e X.env) :: starEach es X.env := by rfl)
    (hpl : (backTo pos (starEach es X.env)).any (·.1) = false := by rfl) :
    PE X (.Call (.Name x p) (e :: es) [] pos) (tCall sp [] E0 t) := by
  refine ⟨fun pins s σ H Q I h => ?_⟩
  refine wpAny_Call_Name_kw (ld_glob I hg hm (PySem.W.callWith_K (h₀ := X.base) I.ok.mod.kin hk
    (thn (ha.run pos pins s σ H _ I h) fun us s1 hu => ?_) he hpl) hdb)
  obtain ⟨vs, H1, I1, r, q⟩ := hu
  rw [List.append_nil] at q
  refine ⟨I1.kIn, wpAny_call ?_⟩
  have hl : us.length = ps.length := by
    rw [← r.length]
    exact F.len _ _ _ _ q
  have b := hb s1 us I1.kIn (by rw [List.append_nil]; exact hl)
  rw [List.append_nil] at b
  refine codeAny_mono (F.run X.A X.stack s1 H1 ⟨us, []⟩ us vs Q E0 hr h0 I1.env0 b r q) fun r s' hq => ?_
  match r, hq with
  | .error e, hq => exact False.elim hq
  | .ok (.ret u), hq => exact I1.after hq
end
section
variable {P : Program} {w : World} {K : PySem.W.Frag} {mg : Str → Option Value} {base : Heap}
theorem okG {x qual : Str} {st : Stmt} {f : Addr} {fd : FuncData} {N ps : List Str} {k : Nat} {sp : Sp} (F : Fun K x qual st f fd)
    (S : FnScope N ps (defScope st)) (len : ∀ vs H Q E, sp vs H Q E → vs.length = ps.length)
    (hbody : ∀ (cdv : Value) (A : Around) (outer : List Env) (s : Shared) (H : Hp) (vs : List V) (Q : VK) (E : XK),
      Room k (A.deeper (envOfC qual (defScope st) s.heap.objs.size f cdv)) → A.guards = some [] → sp vs H Q E →
      ∃ t, PSs (cxOf CX0 P w K mg base N qual (defScope st) f cdv A outer s H E).nox (defBody st) t ∧
        t { nx := fun _ H' => Q .non H', rt := Q } (start N vs) H) : FnG P w K mg base (k + 1) f fd ps sp := by
  obtain ⟨oc, od, kV, doc, pm, an, cdv, ct, osl, rfl, lk, hcd⟩ := F.ex
  refine ⟨len, fun A outer s H args us vs Q E hr h0 e0 hb r hsp => ?_⟩
  have KX : K.In s.heap := e0.mod.kin.keeps fun b o e => (e0.bs b o e).1
  have lim : s.heap.NoLimit := e0.mod.nolimit.keeps fun b o e => (e0.bs b o e).1
  refine codeAny_call_function hr.depth (KX _ _ lk) rfl S.co S.gen rfl (PySem.W.codeRec_of KX hcd) (hb _ _ _ _
    (wpAny_newFunctionEnv_cells S.kind (fun y hy => ?_) fun env he s1 y => ?_))
  · obtain ⟨n, v⟩ := y
    exact (S.par n (List.of_mem_zip hy).1).imp id fun z => ⟨z, PySem.W.cellsFrom_some _ _ _ (.inl z)⟩
  · subst he
    refine ⟨lim.keeps y.toInCall.keep, codeAny_func ?_⟩
    obtain ⟨t, ht, hq⟩ := hbody cdv A outer s H vs Q E (hr.deeper _) h0 hsp
    have I : Inv (cxOf CX0 P w K mg base N qual (defScope st) f cdv A outer s H E) [] (start N vs) H s1 :=
      inv_start S hr.hd e0 (len _ _ _ _ hsp) r y
    refine wpAny_mono (ht.nox.run [] s1 (start N vs) H _ I hq) (fun fl s' hs => ?_) fun e s' hs => hs
    match fl, hs with
    | .ret u, ⟨v, σ', H', J, rv, q⟩ => exact ⟨v, H', J.os, J.bare, J.base, J.hok, rv, q⟩
    | .next, ⟨σ', H', J, q⟩ => exact ⟨V.non, H', J.os, J.bare, J.base, J.hok, rfl, q⟩
    | .brk, ⟨_, _, _, q⟩ => exact False.elim q
    | .cont, ⟨_, _, _, q⟩ => exact False.elim q
end
end Ea
set_option Elab.async false
set_option linter.all false
set_option maxRecDepth 100000
set_option maxHeartbeats 4000000
/-! The law's own call, from a promise that needs that nothing is being shown. -/
namespace Ea
open PySem PySem.Spec PyProof.Rows L2

section
variable {P : Program} {w : World} {K : PySem.W.Frag} {mg mb : Str → Option Value} {k : Nat} {fa a : Addr} {fd : FuncData} {x : Str} {sp : Sp}
  {s₁ : Shared} {vs : List Value} {ns : List Int}
/-- what the call is to end with -/
abbrev Fine (s₁ : Shared) : Result → Shared → Prop := fun r s' => r = .ok (.ret (.bool true)) ∧ OldK s₁.heap s'.heap ∧ s'.os = s₁.os ∧ AllBare s'.gens

theorem call_from (KX : K.In s₁.heap) (hns : s₁.heap.Ns mainGlobals mg) (hb : s₁.heap.Ns builtinsNs mb)
    (hbb : ∀ x : Str, x ≠ "__name__" → mb x = bootBuiltins x) (hlim : s₁.heap.NoLimit) (hg : s₁.gens = #[])
    (ha : s₁.heap.get? a = some { cls := .type "list", data := .seq vs.toArray }) (hr : Room k callerA)
    (F : ∀ base : Heap, K.In base → base.Ns mainGlobals mg → FnG P w K mg base k fa fd [x] sp)
    (hbind : ∀ (s : Shared) (u : Value), BindsTo s fd ⟨[u], []⟩ [(x, u)])
    {H : Hp} (hO : Only H) (hok : HOk P w H s₁.heap) (hA : ∀ b, H b ≠ none → b = a) (hK : H a ≠ none → K.lookup a = none)
    (h : sp [.ref a] H (fun v _ => v = .bl true) fun _ _ _ => False) :
    codeAny (model P w) callerA (.call (.ref fa) ⟨[.ref a], []⟩) (Fine s₁) s₁ := by
  have out : ∀ {b : Addr}, (∃ u, H b = some u) → b = a := fun {b} ⟨u, e⟩ => hA b (by rw [e]; exact nofun)
  have free : ∀ {b : Addr} {o : Obj} {es : Array DictEntry} {ep : Nat}, s₁.heap.get? b = some o → o.data = .dict es ep → H b = none := by
    intro b o es ep e d
    cases q : H b with
    | none => rfl
    | some u =>
      obtain rfl := out ⟨u, q⟩
      rw [ha] at e
      cases e
      cases d
  have nsK : ∀ {b : Addr} {m : Str → Option Value}, s₁.heap.Ns b m → (hidT s₁.heap H).Ns b m :=
    fun {b m} ⟨o, es, ep, e, d, r⟩ => ⟨o, es, ep, hidT_get e (free e d), d, r⟩
  have hKb : K.In (hidT s₁.heap H) := by
    intro b o e
    refine hidT_get (KX b o e) ?_
    cases q : H b with
    | none => rfl
    | some u =>
      obtain rfl := out ⟨u, q⟩
      rw [hK (by rw [q]; exact nofun)] at e
      cases e
  have lim : (hidT s₁.heap H).NoLimit := by
    obtain ⟨mc, h1, h2⟩ := hlim
    exact ⟨mc, nsK h1, h2⟩
  have e0 : Env0 P w K mg (hidT s₁.heap H) callerA [] s₁ H :=
    ⟨rfl, ⟨hKb, nsK hns, ⟨mb, nsK hb, hbb⟩, lim⟩, fun b o e => of_hidT e, Nat.le_of_eq (hidT_size _ _), trivial, nofun, hok, .of_eq hg⟩
  have run := (F _ hKb (nsK hns)).run callerA [] s₁ H ⟨[.ref a], []⟩ [.ref a] [.ref a] (fun v _ => v = .bl true) (fun _ _ _ => False) hr rfl e0
    (hbind s₁ (.ref a)) (.cons rfl .nil) h
  refine codeAny_mono run fun r s' hq => ?_
  match r, hq with
  | .error e, hq => exact False.elim hq
  | .ok (.ret u), ⟨v, H', os, bare, un, hok', r', (q' : v = .bl true)⟩ =>
    subst q'
    obtain rfl : u = Value.bool true := r'
    refine ⟨rfl, OldK.of_keep fun b o e => ?_, os, bare⟩
    cases q : H b with
    | none => exact un.keep b o e q nofun nofun
    | some u =>
      rcases hO b with z | ⟨ob, xs, z⟩
      · rw [q] at z
        cases z
      · obtain ⟨e1, _⟩ := hok b _ z
        obtain ⟨e2, _⟩ := hok' b _ (un.frzs b ob _ z)
        rw [e] at e1
        cases e1
        exact e2

theorem call_law (KX : K.In s₁.heap) (hns : s₁.heap.Ns mainGlobals mg) (hb : s₁.heap.Ns builtinsNs mb)
    (hbb : ∀ x : Str, x ≠ "__name__" → mb x = bootBuiltins x) (hlim : s₁.heap.NoLimit) (hg : s₁.gens = #[])
    (ha : s₁.heap.get? a = some { cls := .type "list", data := .seq vs.toArray }) (hi : IntsAre vs ns) (hl : ns.length ≤ sizeLine) (hr : Room k callerA)
    (F : ∀ base : Heap, K.In base → base.Ns mainGlobals mg → FnG P w K mg base k fa fd [x] sp)
    (hbind : ∀ (s : Shared) (u : Value), BindsTo s fd ⟨[u], []⟩ [(x, u)])
    (hsp : ∀ H : Hp, Only H → SqL K H a (ns.map V.int) → sp [.ref a] H (fun v _ => v = .bl true) fun _ _ _ => False) :
    codeAny (model P w) callerA (.call (.ref fa) ⟨[.ref a], []⟩) (Fine s₁) s₁ := by
  have rv := vals_ints hi
  cases hk : K.lookup a with
  | some o =>
    have e := KX a o hk
    rw [ha] at e
    cases e
    have hS : SqL K (fun _ => none) a (ns.map V.int) :=
      .inr ⟨_, vs.toArray, _, hk, rfl, rfl, rfl, by rw [List.size_toArray, hi.length]; exact hl, by simpa using rv⟩
    exact call_from KX hns hb hbb hlim hg ha hr F hbind (H := fun _ => none) (fun _ => .inl rfl) nofun (fun b z => absurd rfl z) (fun z => absurd rfl z) (hsp _ (fun _ => .inl rfl) hS)
  | none =>
    let one : HO := .frz { cls := .type "list", data := .seq vs.toArray } (.lst (ns.map V.int))
    let H : Hp := fun b => if b = a then some one else none
    have at_ : H a = some one := if_pos rfl
    have off : ∀ {b : Addr}, b ≠ a → H b = none := fun h => if_neg h
    have hO : Only H := fun b => by
      by_cases e : b = a
      · subst e
        exact .inr ⟨_, _, at_⟩
      · exact .inl (off e)
    have hS : SqL K H a (ns.map V.int) := .inl (.inr ⟨_, at_⟩)
    refine call_from KX hns hb hbb hlim hg ha hr F hbind hO (fun b u z => ?_) (fun b z => ?_) (fun _ => hk) (hsp H hO hS)
    · by_cases e : b = a
      · subst e
        rw [at_] at z
        cases z
        exact ⟨ha, by rw [List.length_map]; exact hl, vs, _, rv, ha⟩
      · rw [off e] at z
        cases z
    · by_cases e : b = a
      · exact e
      · exact absurd (off e) z
end
theorem walk_G {l : PySem.W.OpenLaw} {n k : Nat} {q : Program} {loose : List Str} {XP : (Str → Option Value) → Heap → Prop} {YP : World → Heap → Prop}
    {d : DefRec} {K : Params → PySem.W.Frag} {sp : World → Sp} {x : Str}
    (hn : l.most = some n) (hn2 : n ≤ sizeLine) (hdf : d.params.defaults = []) (hr : Room k callerA)
    (hY : ∀ (w : World) (h : Heap), YP w h → (K w.params).In h)
    (F : ∀ (w : World) (mg : Str → Option Value) (fa : Addr) (h : Heap), (K w.params).In h → h.Ns mainGlobals mg → mg d.name = some (.ref fa) →
      ∃ fd : FuncData, (∀ (s : Shared) (u : Value), BindsTo s fd ⟨[u], []⟩ [(x, u)]) ∧
        ∀ base : Heap, (K w.params).In base → base.Ns mainGlobals mg → FnG l.prog w (K w.params) mg base k fa fd [x] (sp w))
    (hsp : ∀ (w : World) (H : Hp) (a : Addr) (ns : List Int), ns.length ≤ n → Only H → SqL (K w.params) H a (ns.map V.int) →
      sp w [.ref a] H (fun v _ => v = .bl true) fun _ _ _ => False) :
    PySem.W.WalkO q loose XP YP l.row.toRowW d [] (fun f vs => PySem.call f vs) := by
  refine Att.attach_call hn hdf fun w s₀ s₁ mg mb fa o pm cd doc a vs ns G Y ho hd hcd hmg hobj hints hlen hg => ?_
  obtain ⟨fd, hb, hF⟩ := F w mg fa _ (hY w _ Y) G.T.g hmg
  exact call_law (hY w _ Y) G.T.g G.T.b G.T.builtins G.T.nolimit hg hobj hints (Nat.le_trans hlen hn2) hr hF hb fun H hO hS => hsp w H a ns hlen hO hS
end Ea
set_option Elab.async false
set_option linter.all false
set_option maxRecDepth 100000
set_option maxHeartbeats 4000000
/-! Readings gone through from the left: one lemma for each shape; a deck of draws (a dict). -/
namespace Ea
open PySem PySem.Spec PyProof.Rows L2

/-! ### built-ins by names of their own -/
def rInt : List V → Hp → VK → Prop := fun xs H Q => (∃ i, xs = [.int i] ∧ Q (.int i) H) ∨ ∃ k, xs = [.bl k] ∧ Q (.int (if k then 1 else 0)) H
def rAbs : List V → Hp → VK → Prop := fun xs H Q => ∃ i, xs = [.int i] ∧ Q (.int (if i < 0 then -i else i)) H
def rMin2 : List V → Hp → VK → Prop := fun xs H Q => ∃ i j, xs = [.int i, .int j] ∧ Q (.int (if j < i then j else i)) H
def rMax2 : List V → Hp → VK → Prop := fun xs H Q => ∃ i j, xs = [.int i, .int j] ∧ Q (.int (if j > i then j else i)) H
def rLenQ (K : PySem.W.Frag) : List V → Hp → VK → Prop := fun xs H Q => ∃ p ys, xs = [.ref p] ∧ (SqL K H p ys ∨ SqT K H p ys) ∧ Q (.int ys.length) H
def rLenS : List V → Hp → VK → Prop := fun xs H Q => ∃ z, xs = [.str z] ∧ z.length ≤ sizeLine ∧ Q (.int z.length) H
def rTupOf (K : PySem.W.Frag) : List V → Hp → VK → Prop := fun xs H Q => ∃ p ys, xs = [.ref p] ∧ ((SqL K H p ys ∧ ∀ l, H l = none → Q (.ref l) (upd H l (.tup ys))) ∨ (SqT K H p ys ∧ Q (.ref p) H))
def rListOf (K : PySem.W.Frag) : List V → Hp → VK → Prop := fun xs H Q => ∃ p ys, xs = [.ref p] ∧ (SqL K H p ys ∨ SqT K H p ys) ∧ ∀ l, H l = none → Q (.ref l) (upd H l (.lst ys))
section
variable {X : Cx}
theorem c_int : CallR X (.type "int") rInt := call_int1
theorem c_abs : CallR X (.builtin "abs") rAbs := call_abs
theorem c_min2 (hc : X.calm = true) : CallR X (.builtin "min") rMin2 := call_min2 hc
theorem c_max2 (hc : X.calm = true) : CallR X (.builtin "max") rMax2 := call_max2 hc
theorem c_len {K : PySem.W.Frag} (h : X.K = K) : CallR X (.builtin "len") (rLenQ K) := h ▸ call_len_seq
theorem c_lenS : CallR X (.builtin "len") rLenS := call_len_str
theorem c_tuple {K : PySem.W.Frag} (h : X.K = K) : CallR X (.type "tuple") (rTupOf K) := h ▸ call_tuple_of
theorem c_list {K : PySem.W.Frag} (h : X.K = K) : CallR X (.type "list") (rListOf K) := h ▸ call_list_of
theorem c_sum {K : PySem.W.Frag} (h : X.K = K) (hc : X.calm = true) : CallR X (.builtin "sum") (rSum K) := h ▸ cr_sum hc
theorem c_max {K : PySem.W.Frag} (h : X.K = K) (hc : X.calm = true) : CallR X (.builtin "max") (rMax K) := h ▸ cr_max hc
theorem c_min {K : PySem.W.Frag} (h : X.K = K) (hc : X.calm = true) : CallR X (.builtin "min") (rMin K) := h ▸ cr_min hc
theorem c_sorted {K : PySem.W.Frag} (h : X.K = K) : CallR X (.builtin "sorted") (rSortedI K) := h ▸ cr_sortedI
theorem c_repr {K : PySem.W.Frag} (h : X.K = K) (hg : X.A.guards = some []) (hu : X.A.units + 64 < cLine) : CallR X (.builtin "repr") (rRepr K) := h ▸ cr_repr hg hu
theorem c_set {K : PySem.W.Frag} {w : World} (h : X.K = K) (h2 : X.w = w) (hc : X.calm = true) : CallR X (.type "set") (rSetI K w) := h ▸ h2 ▸ cr_setI hc
theorem ik_list {K : PySem.W.Frag} (h : X.K = K) : IxR X (rIxL K) := h ▸ ix_list
theorem ik_tup {K : PySem.W.Frag} (h : X.K = K) : IxR X (rIxT K) := h ▸ ix_tup
theorem ik_dict {K : PySem.W.Frag} {w : World} (h : X.K = K) (h2 : X.w = w) : IxR X (rIxD K w) := h ▸ h2 ▸ ix_kdict
theorem sk_list {K : PySem.W.Frag} (h : X.K = K) : SlR X (rSlL K) := h ▸ sl_list
theorem sk_tup {K : PySem.W.Frag} (h : X.K = K) : SlR X (rSlA K) := h ▸ sl_tupA
theorem ok_in {K : PySem.W.Frag} (h : X.K = K) : OpR X (compareOp .In) (rIn K false) := h ▸ op_in_seq
theorem ok_notIn {K : PySem.W.Frag} (h : X.K = K) : OpR X (compareOp .NotIn) (rIn K true) := h ▸ op_notIn_seq
theorem ok_eqD {K : PySem.W.Frag} (h : X.K = K) (hu : X.A.units + 64 < cLine) : OpR X (compareOp .Eq) (rEqD K) := h ▸ op_eqD hu
theorem ok_neD {K : PySem.W.Frag} (h : X.K = K) (hu : X.A.units + 64 < cLine) : OpR X (compareOp .NotEq) (rNeD K) := h ▸ op_neD hu
theorem ok_catT {K : PySem.W.Frag} (h : X.K = K) : OpR X (binaryOp .Add) (rCatA K) := h ▸ op_catA
theorem ok_sin {w : World} (h : X.w = w) : OpR X (compareOp .In) (rSIn w) := h ▸ or_sin
theorem ok_snotin {w : World} (h : X.w = w) : OpR X (compareOp .NotIn) (rSNotIn w) := h ▸ or_snotin
theorem ik_tupI {K : PySem.W.Frag} (h : X.K = K) {tg l : Expr} {tl : TE} (hl : PE X l tl) : PI X tg l (iTup K tl) := h ▸ pi_tup hl
theorem ik_listI {K : PySem.W.Frag} (h : X.K = K) {tg l : Expr} {tl : TE} (hl : PE X l tl) : PI X tg l (iList K tl) := h ▸ pi_list hl
def tTruK (K : PySem.W.Frag) (ta : TE) : TT := fun σ H Q => ta σ H fun x H' => ∃ k, TruV K x H' k ∧ Q k H'
theorem pk_truth {K : PySem.W.Frag} (h : X.K = K) {a : Expr} {ta : TE} (ha : PE X a ta)
    (he : ∀ whole, isTrue a X.env whole = (do let v ← whole; standAt a.pos; holding [v] (truthy v))) : PT X a (tTruK K ta) := h ▸ pt_truth ha he
end
section
variable {K : PySem.W.Frag} {σ σ' : L2.St} {H : Hp} {Q : VK} {QB : Bool → Hp → Prop} {QA : List V → Hp → Prop} {D : Ends} {i j : Nat} {x y v w : V}
  {ta tb te td ty : TE} {tt tu : TT} {r : R2} {a b : Int} {ts tz : TS} {g : Int → Int → V} {gi : Int → V} {C : Int → Int → Prop} {tr : TA} {tl th : TO}
theorem rd_start {t : TS} (e : σ = σ') (h : t D σ' H) : t D σ H := by
  subst e
  exact h
theorem rd_seq (h : ts { D with nx := tz D } σ H) : tSeq ts tz D σ H := h
theorem rd_if (h : tt σ H fun c H1 => if c = true then ts D σ H1 else tz D σ H1) : tIfS tt ts tz D σ H := h
theorem rd_next (h : D.nx σ H) : tNext D σ H := h
theorem rd_ret (h : te σ H D.rt) : tRet te D σ H := h
theorem rd_drop (h : te σ H fun _ H1 => D.nx σ H1) : tDrop te D σ H := h
theorem rd_asg {tg : TG} (h : te σ H fun x H1 => tg x σ H1 D.nx) : tAsg te tg D σ H := h
theorem rd_name {N : L2.St → Hp → Prop} (hs : σ.set i (some v) = σ') (h : N σ' H) : gName i v σ H N := by
  subst hs
  exact h
theorem rd_var (hv : σ[i]? = some (some v)) (h : Q v H) : tVar i σ H Q := ⟨v, hv, h⟩
theorem rd_c (h : Q v H) : tC v σ H Q := h
theorem rd_op (h : ta σ H fun x H1 => tb σ H1 fun y H2 => r x y H2 Q) : tOp r ta tb σ H Q := h
theorem rd_un {ru : V → Hp → VK → Prop} (h : ta σ H fun x H1 => ru x H1 Q) : tUn ru ta σ H Q := h
theorem rd_I0 (h : Q (g a b) H) : rI0 g (.int a) (.int b) H Q := ⟨a, b, rfl, rfl, h⟩
theorem rd_I (hc : C a b) (h : Q (g a b) H) : rI C g (.int a) (.int b) H Q := ⟨a, b, rfl, rfl, hc, h⟩
theorem rd_U (h : Q (gi a) H) : rU gi (.int a) H Q := ⟨a, rfl, h⟩
theorem rd_eq (hs : scal x y = true) (h : Q (.bl (decide (x = y))) H) : rEq x y H Q := ⟨hs, h⟩
theorem rd_ne (hs : scal x y = true) (h : Q (.bl (!decide (x = y))) H) : rNe x y H Q := ⟨hs, h⟩
theorem rd_test (h : te σ H fun x H' => ∃ k, x = .bl k ∧ QB k H') : tTest te σ H QB := h
theorem rd_B (h : te σ H fun x H' => ∃ k, x = .bl k ∧ QB k H') : tB te σ H QB := h
theorem rd_not (h : tt σ H fun c H1 => QB (!c) H1) : tNot tt σ H QB := h
theorem rd_and (h : tt σ H fun c H1 => if c = true then tu σ H1 QB else QB false H1) : tAnd tt tu σ H QB := h
theorem rd_or (h : tt σ H fun c H1 => if c = true then QB true H1 else tu σ H1 QB) : tOr tt tu σ H QB := h
theorem rd_k {b : Bool} {P : Bool → Prop} (h : P b) : ∃ k, V.bl b = V.bl k ∧ P k := ⟨b, rfl, h⟩
theorem rd_ite {p : Prop} {_ : Decidable p} {A B : Prop} (h1 : p → A) (h2 : ¬ p → B) : if decide p = true then A else B := by
  by_cases h : p
  · rw [if_pos (decide_eq_true h)]
    exact h1 h
  · rw [if_neg (by rw [decide_eq_true_eq]; exact h)]
    exact h2 h
theorem rd_iten {p : Prop} {_ : Decidable p} {A B : Prop} (h1 : ¬ p → A) (h2 : p → B) : if (!decide p) = true then A else B := by
  by_cases h : p
  · rw [decide_eq_true h]
    exact h2 h
  · rw [decide_eq_false h]
    exact h1 h
theorem rd_iteb {b : Bool} {A B : Prop} (h1 : b = true → A) (h2 : b = false → B) : if b = true then A else B := by
  cases b with
  | true => exact h1 rfl
  | false => exact h2 rfl
theorem rd_ifE (h : tt σ H fun c H1 => if c = true then ta σ H1 Q else tb σ H1 Q) : tIf tt ta tb σ H Q := h
theorem rd_nil (h : QA [] H) : tNil σ H QA := h
theorem rd_cons (h : te σ H fun x H1 => tr σ H1 fun xs H2 => QA (x :: xs) H2) : tCons te tr σ H QA := h
theorem rd_call {sp : Sp} {ds : List V} {E : XK} (h : tr σ H fun vs H1 => sp (vs ++ ds) H1 Q E) : tCall sp ds E tr σ H Q := h
theorem rd_cb {rc : List V → Hp → VK → Prop} (h : tr σ H fun vs H1 => rc vs H1 Q) : tCB rc tr σ H Q := h
theorem rd_tup (h : tr σ H fun xs H1 => xs.length ≤ sizeLine ∧ ∀ p, H1 p = none → Q (.ref p) (upd H1 p (.tup xs))) : tTup tr σ H Q := h
theorem rd_lst (h : tr σ H fun xs H1 => xs.length ≤ sizeLine ∧ ∀ p, H1 p = none → Q (.ref p) (upd H1 p (.lst xs))) : tLst tr σ H Q := h
theorem rd_dget (h : td σ H fun x H1 => ty σ H1 fun y H2 => ∃ a v, x = .ref a ∧ DGet H2 a y (some v) ∧ Q v H2) : tDGet td ty σ H Q := h
theorem rd_sl {rs : V → Option Int → Option Int → Hp → VK → Prop} (h : te σ H fun x H1 => tl σ H1 fun l H2 => th σ H2 fun u H3 => rs x l u H3 Q) : tSl rs te tl th σ H Q := h
theorem rd_nopart {QO : Option Int → Hp → Prop} (h : QO none H) : tNoPart σ H QO := h
theorem rd_part {QO : Option Int → Hp → Prop} (h : te σ H fun x H1 => ∃ i, x = .int i ∧ QO (some i) H1) : tPart te σ H QO := h
theorem rd_parti {P : Int → Prop} (h : P a) : ∃ i, V.int a = .int i ∧ P i := ⟨a, rfl, h⟩
theorem rd_bm {T : String} {rm : V → List V → Hp → VK → Prop} (h : te σ H fun x H1 => tyV K T x H1 ∧ tr σ H1 fun xs H2 => rm x xs H2 Q) : tBM K T rm te tr σ H Q := h
theorem rd_bm0 {T : String} {rm : V → List V → Hp → VK → Prop} (h : te σ H fun x H1 => tyV K T x H1 ∧ rm x [] H1 Q) : tBM0 K T rm te σ H Q := h
theorem rd_dput (h : te σ H fun v H1 => td σ H1 fun x H2 => ty σ H2 fun y H3 => ∃ a H4, x = .ref a ∧ DPut H3 a y v H4 ∧ D.nx σ H4) : sDPut td ty te D σ H := h
theorem rd_par {t : TA} (h : t σ H fun vs H1 => ∃ v w, vs = [v, w] ∧ D.nx ((σ.set i (some v)).set j (some w)) H1) : tPar i j t D σ H := h
theorem rd_par2 {N : L2.St → Hp → Prop} (hs : (σ.set i (some v)).set j (some w) = σ') (h : N σ' H) :
    ∃ v' w', ([v, w] : List V) = [v', w'] ∧ N ((σ.set i (some v')).set j (some w')) H := by
  subst hs
  exact ⟨v, w, rfl, h⟩
/-- while, by a word that falls -/
theorem rd_while (W : Nat → L2.St → Hp → Prop) (m : Nat) (h0 : W m σ H)
    (hs : ∀ m σ1 H1, W m σ1 H1 → tt σ1 H1 fun b H2 => if b = true then
      ts { D with nx := fun σ' H' => ∃ m', m' < m ∧ W m' σ' H', ct := fun σ' H' => ∃ m', m' < m ∧ W m' σ' H', bk := D.nx } σ1 H2 else D.nx σ1 H2)
    (mono : ∀ σ H Q Q', (∀ b H1, Q b H1 → Q' b H1) → tt σ H Q → tt σ H Q') : tWhile tt ts D σ H :=
  ⟨W, ⟨m, h0⟩, fun m σ1 H1 w => mono _ _ _ _ (fun b H2 h => by
    cases b with
    | true => exact ⟨_, fun _ _ z => z, h⟩
    | false => exact h) (hs m σ1 H1 w)⟩
theorem rd_whileE (h : ∃ W : Nat → L2.St → Hp → Prop, (∃ m, W m σ H) ∧ ∀ m σ H, W m σ H → tt σ H fun b H1 => if b = true then ∃ N : L2.St → Hp → Prop,
    (∀ σ' H', N σ' H' → ∃ m', m' < m ∧ W m' σ' H') ∧ ts { D with nx := N, ct := N, bk := D.nx } σ H1 else D.nx σ H1) : tWhile tt ts D σ H := h
theorem rd_tru (h : ta σ H fun x H' => ∃ k, TruV K x H' k ∧ QB k H') : tTruK K ta σ H QB := h
theorem rd_truI {P : Bool → Prop} (h : P (a != 0)) : ∃ k, TruV K (.int a) H k ∧ P k := ⟨_, rfl, h⟩
theorem rd_int1 (h : Q (.int a) H) : (∃ i, ([.int a] : List V) = [.int i] ∧ Q (.int i) H) ∨ ∃ k, ([.int a] : List V) = [.bl k] ∧ Q (.int (if k then 1 else 0)) H := .inl ⟨a, rfl, h⟩
end

section
variable {K : PySem.W.Frag} {H : Hp} {Q : VK} {a b : Int} {k : Bool} {p : Addr} {ys : List V} {z : Str}
theorem rd_int (h : Q (.int a) H) : rInt [.int a] H Q := .inl ⟨a, rfl, h⟩
theorem rd_intb (h : Q (.int (if k then 1 else 0)) H) : rInt [.bl k] H Q := .inr ⟨k, rfl, h⟩
theorem rd_abs (h : Q (.int (a.natAbs : Int)) H) : rAbs [.int a] H Q := ⟨a, rfl, by
  rw [show (if a < 0 then -a else a) = (a.natAbs : Int) by split <;> omega]
  exact h⟩
theorem rd_min2 (h : Q (.int (if b < a then b else a)) H) : rMin2 [.int a, .int b] H Q := ⟨a, b, rfl, h⟩
theorem rd_max2 (h : Q (.int (if b > a then b else a)) H) : rMax2 [.int a, .int b] H Q := ⟨a, b, rfl, h⟩
theorem rd_lenL (s : SqL K H p ys) (h : Q (.int ys.length) H) : rLenQ K [.ref p] H Q := ⟨p, ys, rfl, .inl s, h⟩
theorem rd_lenT (s : SqT K H p ys) (h : Q (.int ys.length) H) : rLenQ K [.ref p] H Q := ⟨p, ys, rfl, .inr s, h⟩
theorem rd_lenS (s : z.length ≤ sizeLine) (h : Q (.int z.length) H) : rLenS [.str z] H Q := ⟨z, rfl, s, h⟩
theorem rd_tupL (s : SqL K H p ys) (h : ∀ l, H l = none → Q (.ref l) (upd H l (.tup ys))) : rTupOf K [.ref p] H Q := ⟨p, ys, rfl, .inl ⟨s, h⟩⟩
theorem rd_tupT (s : SqT K H p ys) (h : Q (.ref p) H) : rTupOf K [.ref p] H Q := ⟨p, ys, rfl, .inr ⟨s, h⟩⟩
theorem rd_listL (s : SqL K H p ys) (h : ∀ l, H l = none → Q (.ref l) (upd H l (.lst ys))) : rListOf K [.ref p] H Q := ⟨p, ys, rfl, .inl s, h⟩
theorem rd_listT (s : SqT K H p ys) (h : ∀ l, H l = none → Q (.ref l) (upd H l (.lst ys))) : rListOf K [.ref p] H Q := ⟨p, ys, rfl, .inr s, h⟩
theorem rd_ixL {x : V} {i : Int} (s : SqL K H p ys) (e : atI ys i = some x) (h : Q x H) : rIxL K (.ref p) (.int i) H Q := ⟨p, ys, i, x, rfl, rfl, s, e, h⟩
theorem rd_ixT {x : V} {i : Int} (s : SqT K H p ys) (e : atI ys i = some x) (h : Q x H) : rIxT K (.ref p) (.int i) H Q := ⟨p, ys, i, x, rfl, rfl, s, e, h⟩
theorem rd_ixS {c : Nat} {i : Int} (s : z.length ≤ sizeLine) (e : atI z.cps.toList i = some c) (h : Q (.str ⟨#[c]⟩) H) : rIxS (.str z) (.int i) H Q := ⟨z, i, c, rfl, rfl, s, e, h⟩
end

/-! ### a deck of draws, a dict -/
def DeckB (d l : Addr) (H : Hp) : Prop := ∃ (ns : List Int) (s : Int),
  H d = some (.dK [(.inr "deep", .ref l), (.inr "state", .int s)]) ∧ H l = some (.lst (ns.map V.int)) ∧ ns.length ≤ 63 ∧ (∀ n ∈ ns, 0 ≤ n) ∧ 0 ≤ s ∧ s < 2305843009213693951
/-- what is left as it was by draws: all but the deck -/
structure Go (d l : Addr) (H H' : Hp) : Prop where
  dk : DeckB d l H'
  kp : ∀ a o, a ≠ d → a ≠ l → H a = some o → H' a = some o
section
variable {d l : Addr} {H H1 H2 : Hp}
theorem DeckB.ne (h : DeckB d l H) : d ≠ l := by
  obtain ⟨ns, s, e1, e2, _⟩ := h
  exact ne_of e1 e2 nofun
theorem Go.refl (h : DeckB d l H) : Go d l H H := ⟨h, fun _ _ _ _ e => e⟩
theorem Go.trans (a : Go d l H H1) (b : Go d l H1 H2) : Go d l H H2 := ⟨b.dk, fun p o n1 n2 e => b.kp p o n1 n2 (a.kp p o n1 n2 e)⟩
theorem DeckB.off (h : DeckB d l H) {p : Addr} (e : H p = none) : p ≠ d ∧ p ≠ l := by
  obtain ⟨ns, s, e1, e2, _⟩ := h
  exact ⟨fun z => (by rw [z, e1] at e; cases e), fun z => (by rw [z, e2] at e; cases e)⟩
theorem DeckB.upd (h : DeckB d l H) {p : Addr} {o : HO} (n1 : p ≠ d) (n2 : p ≠ l) : DeckB d l (upd H p o) := by
  obtain ⟨ns, s, e1, e2, r⟩ := h
  exact ⟨ns, s, by rw [upd_ne n1.symm]; exact e1, by rw [upd_ne n2.symm]; exact e2, r⟩
theorem Go.new (h : DeckB d l H) {p : Addr} {o : HO} (e : H p = none) : Go d l H (upd H p o) := by
  obtain ⟨n1, n2⟩ := h.off e
  exact ⟨h.upd n1 n2, fun q u _ _ eq => by rw [upd_ne (ne_of_none eq e)]; exact eq⟩
/-- an object that H does not know may change -/
theorem Go.mut (g : Go d l H H1) (h : DeckB d l H) {p : Addr} {o : HO} (e : H p = none) : Go d l H (upd H1 p o) := by
  obtain ⟨n1, n2⟩ := h.off e
  exact ⟨g.dk.upd n1 n2, fun q u m1 m2 eq => by rw [upd_ne (ne_of_none eq e)]; exact g.kp q u m1 m2 eq⟩
theorem Go.back (g : Go d l H H1) (h : DeckB d l H) {p : Addr} (e : H1 p = none) : H p = none := by
  obtain ⟨n1, n2⟩ := g.dk.off e
  cases q : H p with
  | none => rfl
  | some o =>
    rw [g.kp p o n1 n2 q] at e
    cases e
/-- a tuple stays -/
theorem Go.tup {K : PySem.W.Frag} (g : Go d l H H1) (h : DeckB d l H) {a : Addr} {xs : List V} (t : SqT K H a xs) : SqT K H1 a xs := by
  obtain ⟨ns, s, e1, e2, _⟩ := h
  have hn : ∀ {o : HO}, H a = some o → (∀ kv, o ≠ .dK kv) → (∀ ys, o ≠ .lst ys) → H1 a = some o := fun e c1 c2 =>
    g.kp a _ (fun z => (by rw [z, e1] at e; cases e; exact c1 _ rfl)) (fun z => (by rw [z, e2] at e; cases e; exact c2 _ rfl)) e
  rcases t with (t | ⟨o, t⟩) | t
  · exact .inl (.inl (hn t nofun nofun))
  · exact .inl (.inr ⟨o, hn t nofun nofun⟩)
  · exact .inr t
end
end Ea
set_option Elab.async false
set_option linter.all false
set_option maxRecDepth 100000
set_option maxHeartbeats 4000000
/-! Data that can be shown, compared: how great they are. -/
namespace Ea
open PySem PySem.Spec PyProof.Rows L2

structure Nice (n k : Nat) (d : PyData) : Prop where
  bulk : d.bulk ≤ n
  depth : d.depth ≤ k
  lay : d.canLay0 = true
  show_ : d.showable = true
  short : d.leavesShort 13 = true
  dict : d.hasDict = false
structure NiceAll (n k : Nat) (ds : List PyData) : Prop where
  bulk : PyData.bulkAll ds ≤ n
  depth : PyData.depthAll ds ≤ k
  lay : PyData.canLayAll0 ds = true
  show_ : PyData.showableAll ds = true
  short : PyData.leavesShortAll 13 ds = true
  dict : PyData.hasDictAll ds = false
theorem Nice.mono {n k m j : Nat} {d : PyData} (h : Nice n k d) (a : n ≤ m) (b : k ≤ j) : Nice m j d := ⟨Nat.le_trans h.bulk a, Nat.le_trans h.depth b, h.lay, h.show_, h.short, h.dict⟩
theorem NiceAll.mono {n k m j : Nat} {d : List PyData} (h : NiceAll n k d) (a : n ≤ m) (b : k ≤ j) : NiceAll m j d := ⟨Nat.le_trans h.bulk a, Nat.le_trans h.depth b, h.lay, h.show_, h.short, h.dict⟩
theorem Nice.non : Nice 0 0 .none := ⟨Nat.le_refl _, Nat.le_refl _, rfl, rfl, rfl, rfl⟩
theorem Nice.bool (b : Bool) : Nice 0 0 (.bool b) := ⟨Nat.le_refl _, Nat.le_refl _, rfl, rfl, rfl, rfl⟩
theorem log2_small {n : Nat} (h : n < 10 ^ 12) : n.log2 < 1920 := by
  by_cases h0 : n = 0
  · subst h0
    decide
  · rw [Nat.log2_lt h0]
    exact Nat.lt_trans h (by decide +kernel)
theorem Nice.int {i : Int} (h : i.natAbs < 10 ^ 12) : Nice 0 0 (.int i) :=
  ⟨Nat.le_refl _, Nat.le_refl _, rfl, decide_eq_true (log2_small h), decide_eq_true (PyData.shown_int_le h), rfl⟩
theorem Nice.str {x : Str} {n : Nat} (h : x.cps.size ≤ n) (hs : ∀ c ∈ x.cps.toList, c < 1114112) (ho : PyData.canLay0 (.str x) = true) : Nice n 0 (.str x) :=
  ⟨h, Nat.le_refl _, ho, rfl, by
    show (x.cps.toList.all fun c => decide (c < 16 ^ 8)) = true
    rw [List.all_eq_true]
    exact fun c hc => decide_eq_true (Nat.lt_of_lt_of_le (hs c hc) (by decide)), rfl⟩
theorem NiceAll.nil {k : Nat} : NiceAll 0 k [] := ⟨Nat.le_refl _, Nat.zero_le _, rfl, rfl, rfl, rfl⟩
theorem NiceAll.cons {n m k : Nat} {d : PyData} {ds : List PyData} (h : Nice n k d) (hs : NiceAll m k ds) : NiceAll (n + 1 + m) k (d :: ds) := by
  refine ⟨?_, ?_, ?_, ?_, ?_, ?_⟩
  · show d.bulk + 1 + PyData.bulkAll ds ≤ _
    have := h.bulk
    have := hs.bulk
    omega
  · show max d.depth (PyData.depthAll ds) ≤ _
    have := h.depth
    have := hs.depth
    omega
  · show (d.canLay0 && PyData.canLayAll0 ds) = true
    rw [h.lay, hs.lay] <;> rfl
  · show (d.showable && PyData.showableAll ds) = true
    rw [h.show_, hs.show_] <;> rfl
  · show (d.leavesShort 13 && PyData.leavesShortAll 13 ds) = true
    rw [h.short, hs.short] <;> rfl
  · show (d.hasDict || PyData.hasDictAll ds) = false
    rw [h.dict, hs.dict] <;> rfl
theorem Nice.cons2 {n m k : Nat} {d e : PyData} (h : Nice n k d) (h2 : Nice m k e) : NiceAll (n + 1 + (m + 1 + 0)) k [d, e] := NiceAll.cons h (NiceAll.cons h2 NiceAll.nil)
theorem Nice.cons3 {n m o k : Nat} {d e f : PyData} (h : Nice n k d) (h2 : Nice m k e) (h3 : Nice o k f) : NiceAll (n + 1 + (m + 1 + (o + 1 + 0))) k [d, e, f] := NiceAll.cons h (NiceAll.cons h2 (NiceAll.cons h3 NiceAll.nil))
theorem Nice.cons1 {n k : Nat} {d : PyData} (h : Nice n k d) : NiceAll (n + 1 + 0) k [d] := NiceAll.cons h NiceAll.nil
theorem Nice.tup {n k : Nat} {ds : List PyData} (h : NiceAll n k ds) : Nice n (k + 1) (.tuple ds) := ⟨h.bulk, Nat.succ_le_succ h.depth, h.lay, h.show_, h.short, h.dict⟩
theorem Nice.lst {n k : Nat} {ds : List PyData} (h : NiceAll n k ds) : Nice n (k + 1) (.list ds) := ⟨h.bulk, Nat.succ_le_succ h.depth, h.lay, h.show_, h.short, h.dict⟩
def dI (ns : List Int) : List PyData := ns.map PyData.int
theorem NiceAll.ints : ∀ {ns : List Int}, (∀ n ∈ ns, n.natAbs < 10 ^ 12) → NiceAll ns.length 0 (dI ns)
  | [], _ => NiceAll.nil
  | n :: r, h => by
    have z := NiceAll.cons (Nice.int (h n List.mem_cons_self)) (NiceAll.ints (ns := r) fun m hm => h m (List.mem_cons_of_mem _ hm))
    exact z.mono (by rw [List.length_cons]; omega) (Nat.le_refl _)
theorem dp_ints {K : PySem.W.Frag} {H : Hp} : ∀ (ns : List Int), DpAll K H (ns.map V.int) (dI ns)
  | [] => .nil
  | n :: r => .cons (.int n) (dp_ints r)
theorem dp_T {K : PySem.W.Frag} {H : Hp} {a : Addr} {ns : List Int} (h : SqT K H a (ns.map V.int)) : Dp K H (.ref a) (.tuple (dI ns)) := .tup h (dp_ints ns)
theorem dp_L {K : PySem.W.Frag} {H : Hp} {a : Addr} {ns : List Int} (h : SqL K H a (ns.map V.int)) : Dp K H (.ref a) (.list (dI ns)) := .lst h (dp_ints ns)
theorem Nice.shaped {n k : Nat} {d : PyData} (h : Nice n k d) (hk : k ≤ 64) : SeqAt.shaped d = true := by
  show (d.canLay0 && decide (d.depth ≤ 64)) = true
  rw [h.lay, decide_eq_true (Nat.le_trans h.depth hk)] <;> rfl

theorem lay_ints : ∀ ns : List Int, PyData.canLayAll0 (dI ns) = true ∧ PyData.depthAll (dI ns) = 0
  | [] => ⟨rfl, rfl⟩
  | n :: r => by
    obtain ⟨h1, h2⟩ := lay_ints r
    refine ⟨?_, ?_⟩
    · show (true && PyData.canLayAll0 (dI r)) = true
      rw [h1] <;> rfl
    · show max 0 (PyData.depthAll (dI r)) = 0
      rw [h2] <;> rfl
theorem shaped_ints (ns : List Int) : SeqAt.shaped (.list (dI ns)) = true := by
  obtain ⟨h1, h2⟩ := lay_ints ns
  show (PyData.canLayAll0 (dI ns) && decide (PyData.depthAll (dI ns) + 1 ≤ 64)) = true
  rw [h1, h2] <;> rfl
section
variable {K : PySem.W.Frag} {H : Hp} {Q : VK} {x y : V} {d e : PyData} {n k m j : Nat}
theorem rd_repr (hx : Dp K H x d) (h : Nice n k d) (hn : n ≤ 2 ^ 20) (hk : k ≤ 40) (hd : isDisplay d = true) (q : Q (.str d.shown) H) : rRepr K [x] H Q :=
  ⟨x, d, rfl, hx, h.show_, hd, h.dict, Nat.le_trans h.depth hk, PyData.shown_fits_bulk (by decide) (by decide) h.short (Nat.le_trans h.bulk hn), q⟩
theorem rd_eqD (hx : Dp K H x d) (hy : Dp K H y e) (h1 : Nice n k d) (h2 : Nice m j e) (hk : k ≤ 64) (hj : j ≤ 64) (q : Q (.bl (PyData.eqv d e)) H) : rEqD K x y H Q :=
  ⟨d, e, hx, hy, h1.shaped hk, h2.shaped hj, q⟩
theorem rd_neD (hx : Dp K H x d) (hy : Dp K H y e) (h1 : Nice n k d) (h2 : Nice m j e) (hk : k ≤ 64) (hj : j ≤ 64) (q : Q (.bl (!PyData.eqv d e)) H) : rNeD K x y H Q :=
  ⟨d, e, hx, hy, h1.shaped hk, h2.shaped hj, q⟩
/-- xs != [] -/
theorem rd_full {p : Addr} {a : Addr} {vs : List V} {ds : List PyData} (hx : SqL K H a vs) (hv : DpAll K H vs ds) (h : SeqAt.shaped (.list ds) = true) (hp : SqL K H p [])
    (q : Q (.bl (!vs.isEmpty)) H) : rNeD K (.ref a) (.ref p) H Q := by
  refine ⟨.list ds, .list [], .lst hx hv, .lst hp .nil, h, rfl, ?_⟩
  cases hv with
  | nil => exact q
  | cons a b => exact q
end
section
variable {K : PySem.W.Frag} {H : Hp} {Q : VK} {l : Addr} {xs : List V} {y : V} {A : Prop}
theorem rd_tyL (h : H l = some (.lst xs)) (q : A) : tyV K "list" (.ref l) H ∧ A := ⟨.inl ⟨rfl, _, SqL.of h⟩, q⟩
theorem rd_append (h : H l = some (.lst xs)) (hz : xs.length < 100000) (q : Q .non (upd H l (.lst (xs ++ [y])))) : rAppend (.ref l) [y] H Q :=
  ⟨l, xs, y, rfl, rfl, h, Evl.sz_lt hz, q⟩
theorem rd_pop (h : H l = some (.lst (xs ++ [y]))) (q : Q y (upd H l (.lst xs))) : rPop (.ref l) [] H Q :=
  ⟨l, xs ++ [y], y, rfl, rfl, h, by rw [List.length_append, List.length_singleton, Nat.add_sub_cancel, List.getElem?_append_right (Nat.le_refl _), Nat.sub_self] <;> rfl, by
    rw [List.dropLast_concat]
    exact q⟩
theorem rd_popAt {k : Nat} {i : Int} (h : H l = some (.lst xs)) (e : i = (k : Int)) (hk : xs[k]? = some y) (hz : xs.length ≤ 100000) (q : Q y (upd H l (.lst (xs.eraseIdx k)))) : rPopAt (.ref l) [.int i] H Q := by
  have hk' : k < xs.length := (List.getElem?_eq_some_iff.mp hk).1
  refine ⟨l, xs, i, k, y, rfl, rfl, h, by omega, by omega, ?_, hk, q⟩
  subst e
  have z := seqIndex_of (k := (k : Int)) (n := xs.length) (Int.natCast_nonneg k) (by exact_mod_cast hk')
  simpa using z
theorem at_nat {ys : List V} {i : Int} {k : Nat} (e : i = (k : Int)) (h : ys[k]? = some y) : atI ys i = some y := by
  rw [e]
  exact atI_nat h
end
/-! ### the draws' deck read -/
theorem kv_text {x : Str} : kV (Sum.inr x) = V.str x := rfl
theorem deck_deep {d l : Addr} {s : Int} {H : Hp} (h : H d = some (.dK [(.inr "deep", .ref l), (.inr "state", .int s)])) : DGet H d (.str "deep") (some (.ref l)) :=
  DGet.k (k := Sum.inr "deep") h
theorem deck_state {d l : Addr} {s : Int} {H : Hp} (h : H d = some (.dK [(.inr "deep", .ref l), (.inr "state", .int s)])) : DGet H d (.str "state") (some (.int s)) :=
  DGet.k (k := Sum.inr "state") h
theorem deck_put {d l : Addr} {s t : Int} {H : Hp} (h : H d = some (.dK [(.inr "deep", .ref l), (.inr "state", .int s)])) :
    DPut H d (.str "state") (.int t) (upd H d (.dK [(.inr "deep", .ref l), (.inr "state", .int t)])) :=
  DPut.k (k := Sum.inr "state") (v := .int t) h (by show 2 < sizeLine; rw [sizeLine_eq]; omega)
end Ea
set_option Elab.async false
set_option linter.all false
set_option maxRecDepth 100000
set_option maxHeartbeats 4000000
/-! Comprehensions and loops among draws; texts of owners. -/
namespace Ea
open PySem PySem.Spec PyProof.Rows L2

/-- what a comprehension's walk asks, by its iterator -/
def LcR (g : TG) (tt : TT) (te : TE) (vs : List Nat) (σ : L2.St) (Q : VK) (J : It) (H1 : Hp) : Prop :=
  ∀ D, H1 D = none → ∃ W : Nat → Nat → Hp → Prop, (∃ m, W 0 m (upd H1 D (.lst []))) ∧ ∀ i m H, W i m H →
    (J.stop i H ∧ Q (.ref D) H) ∨
    (J.go i H ∧ ∃ Nx : Hp → Prop, (∀ H', Nx H' → ∃ m', m' < m ∧ W (i + 1) m' H') ∧
      ∀ x H', J.yld i H x H' → g x (wipe σ vs) H' fun σ2 H2 => wipe σ2 vs = wipe σ vs ∧ tt σ2 H2 fun b H3 =>
        if b = true then te σ2 H3 fun y H4 => ∃ acc, H4 D = some (.lst acc) ∧ acc.length < sizeLine ∧ Nx (upd H4 D (.lst (acc ++ [y]))) else Nx H3)
section
variable {K : PySem.W.Frag} {σ : L2.St} {H : Hp} {Q : VK} {QB : Bool → Hp → Prop} {g : TG} {tt : TT} {te tl : TE} {ta : TA} {vs : List Nat} {wi : TI} {R : It → Hp → Prop} {a b : Int}
theorem rd_lc (h : wi σ H (LcR g tt te vs σ Q)) : tLc wi g tt te vs σ H Q := h
theorem rd_iTup (h : tl σ H fun x H1 => ∃ a, x = .ref a ∧ (∃ xs, SqT K H1 a xs) ∧ R (Itt K a) H1) : iTup K tl σ H R := h
theorem rd_iList (h : tl σ H fun x H1 => ∃ a, x = .ref a ∧ (∃ xs, SqL K H1 a xs) ∧ R (Itl K a) H1) : iList K tl σ H R := h
theorem rd_iRng1 (h : ta σ H fun vs H1 => ∃ j : Int, vs = [.int j] ∧ -(2 ^ 62) ≤ j ∧ j < 2 ^ 62 ∧ R (Itr 0 j.toNat) H1) : iRng1 ta σ H R := h
theorem rd_rng1 (h1 : -(2 ^ 62) ≤ a) (h2 : a < 2 ^ 62) (h : R (Itr 0 a.toNat) H) : ∃ j : Int, ([.int a] : List V) = [.int j] ∧ -(2 ^ 62) ≤ j ∧ j < 2 ^ 62 ∧ R (Itr 0 j.toNat) H := ⟨a, rfl, h1, h2, h⟩
theorem rd_ref {p : Addr} {xs : List V} {P : Addr → Prop} (s : SqT K H p xs) (h : P p) : ∃ a, V.ref p = .ref a ∧ (∃ xs, SqT K H a xs) ∧ P a := ⟨p, rfl, ⟨xs, s⟩, h⟩
theorem rd_refL {p : Addr} {xs : List V} {P : Addr → Prop} (s : SqL K H p xs) (h : P p) : ∃ a, V.ref p = .ref a ∧ (∃ xs, SqL K H a xs) ∧ P a := ⟨p, rfl, ⟨xs, s⟩, h⟩
theorem rd_yes (h : QB true H) : tYes σ H QB := h
theorem rd_true {A B : Prop} (h : A) : if true = true then A else B := by
  rw [if_pos rfl]
  exact h
theorem rd_false {A B : Prop} (h : B) : if false = true then A else B := h
end

section
variable {d l : Addr} {K : PySem.W.Frag} {σ : L2.St} {H : Hp} {Q : VK} {tt : TT} {te : TE} {vs : List Nat} {j : Nat} {σx : V → L2.St} {a : Addr} {xs : List V}
/-- a turn of a comprehension among draws -/
abbrev Turn (d l : Addr) (H : Hp) (tt : TT) (te : TE) (σx : V → L2.St) (Pv : Nat → List V → Prop) (i : Nat) (x : V) : Prop :=
  ∀ (acc : List V) (H' : Hp) (N : VK) (S : Hp → Prop), Go d l H H' → Pv i acc →
    (∀ y H3, Go d l H' H3 → Pv (i + 1) (acc ++ [y]) → N y H3) → (∀ H3, Go d l H' H3 → Pv (i + 1) acc → S H3) →
    tt (σx x) H' fun b H2 => if b = true then te (σx x) H2 N else S H2
def Cg (d l : Addr) (H : Hp) (Pv : Nat → List V → Prop) (D : Addr) (i : Nat) (H' : Hp) : Prop :=
  ∃ acc, H D = none ∧ Go d l H H' ∧ H' D = some (.lst acc) ∧ acc.length ≤ i ∧ Pv i acc
theorem cg_start {Pv : Nat → List V → Prop} (hD : DeckB d l H) (h0 : Pv 0 []) {D : Addr} (e : H D = none) : Cg d l H Pv D 0 (upd H D (.lst [])) :=
  ⟨[], e, Go.new hD e, upd_same, Nat.le_refl _, h0⟩
theorem cg_turn {Pv : Nat → List V → Prop} {D : Addr} {i : Nat} {x : V} {H' : Hp} (hD : DeckB d l H) (hi : i < 100000) (ht : Turn d l H tt te σx Pv i x) (p : Cg d l H Pv D i H') :
    tt (σx x) H' fun b H3 => if b = true then te (σx x) H3 fun y H4 => ∃ acc, H4 D = some (.lst acc) ∧ acc.length < sizeLine ∧ Cg d l H Pv D (i + 1) (upd H4 D (.lst (acc ++ [y]))) else Cg d l H Pv D (i + 1) H3 := by
  obtain ⟨acc, e, g, ea, hl, hp⟩ := p
  obtain ⟨n1, n2⟩ := hD.off e
  refine ht acc H' _ _ g hp (fun y H3 g3 hp3 => ?_) fun H3 g3 hp3 => ?_
  · refine ⟨acc, g3.kp D _ n1 n2 ea, Evl.sz_lt (by omega), acc ++ [y], e, Go.mut (g.trans g3) hD e, upd_same, ?_, hp3⟩
    rw [List.length_append, List.length_singleton]
    omega
  · exact ⟨acc, e, g.trans g3, g3.kp D _ n1 n2 ea, by omega, hp3⟩
theorem lc_goT (Pv : Nat → List V → Prop) (hD : DeckB d l H) (hx : SqT K H a xs) (hz : xs.length ≤ 40000) (hσ : ∀ x, (wipe σ vs).set j (some x) = σx x) (hw : ∀ x, wipe (σx x) vs = wipe σ vs)
    (h0 : Pv 0 []) (hs : ∀ i x, xs[i]? = some x → Turn d l H tt te σx Pv i x)
    (hd : ∀ D acc H', Go d l H H' → H D = none → H' D = some (.lst acc) → Pv xs.length acc → Q (.ref D) H') : LcR (gName j) tt te vs σ Q (Itt K a) H := fun D hn =>
  lc_tup (xs := xs) (Cg d l H Pv D) (cg_start hD h0 hn) (fun i H' _ ⟨_, _, g, _⟩ => g.tup hD hx) (fun i x H' hi p => by
    rw [show gName j x (wipe σ vs) H' = fun N => N (σx x) H' from funext fun N => by rw [← hσ x] <;> rfl]
    refine ⟨hw x, ?_⟩
    have := (List.getElem?_eq_some_iff.mp hi).1
    exact cg_turn hD (by omega) (hs i x hi) p) fun H' p => by
    obtain ⟨acc, e, g, ea, _, hp⟩ := p
    exact hd D acc H' g e ea hp
theorem lc_goL (Pv : Nat → List V → Prop) (hD : DeckB d l H) (hx : ∀ H', Go d l H H' → SqL K H' a xs) (hz : xs.length ≤ 40000) (hσ : ∀ x, (wipe σ vs).set j (some x) = σx x) (hw : ∀ x, wipe (σx x) vs = wipe σ vs)
    (h0 : Pv 0 []) (hs : ∀ i x, xs[i]? = some x → Turn d l H tt te σx Pv i x)
    (hd : ∀ D acc H', Go d l H H' → H D = none → H' D = some (.lst acc) → Pv xs.length acc → Q (.ref D) H') : LcR (gName j) tt te vs σ Q (Itl K a) H := fun D hn =>
  lc_list (xs := xs) (Cg d l H Pv D) (cg_start hD h0 hn) (fun i H' _ ⟨_, _, g, _⟩ => hx H' g) (fun i x H' hi p => by
    rw [show gName j x (wipe σ vs) H' = fun N => N (σx x) H' from funext fun N => by rw [← hσ x] <;> rfl]
    refine ⟨hw x, ?_⟩
    have := (List.getElem?_eq_some_iff.mp hi).1
    exact cg_turn hD (by omega) (hs i x hi) p) fun H' p => by
    obtain ⟨acc, e, g, ea, _, hp⟩ := p
    exact hd D acc H' g e ea hp
theorem lc_goR {lo : Int} {n : Nat} (Pv : Nat → List V → Prop) (hD : DeckB d l H) (hz : n ≤ 40000) (hσ : ∀ x, (wipe σ vs).set j (some x) = σx x) (hw : ∀ x, wipe (σx x) vs = wipe σ vs)
    (h0 : Pv 0 []) (hs : ∀ i, i < n → Turn d l H tt te σx Pv i (.int (lo + i)))
    (hd : ∀ D acc H', Go d l H H' → H D = none → H' D = some (.lst acc) → Pv n acc → Q (.ref D) H') : LcR (gName j) tt te vs σ Q (Itr lo n) H := fun D hn =>
  lc_range (Cg d l H Pv D) (cg_start hD h0 hn) (fun i H' hi p => by
    rw [show gName j (.int (lo + i)) (wipe σ vs) H' = fun N => N (σx (.int (lo + i))) H' from funext fun N => by rw [← hσ (.int (lo + i))] <;> rfl]
    exact ⟨hw _, cg_turn hD (by omega) (hs i hi) p⟩) fun H' p => by
    obtain ⟨acc, e, g, ea, _, hp⟩ := p
    exact hd D acc H' g e ea hp
end

/-! ### texts of "e" and "s" -/
def OwnS (n : Nat) (z : Str) : Prop := z.length = n ∧ ∀ c ∈ z.cps.toList, c = 101 ∨ c = 115
theorem folded_mem (z : Array Nat) : ∀ (n : Nat) (acc : Array Nat) (c : Nat), c ∈ ((List.replicate n z).foldl (· ++ ·) acc).toList → c ∈ acc.toList ∨ c ∈ z.toList
  | 0, acc, c, h => .inl h
  | n + 1, acc, c, h => by
    rw [List.replicate_succ, List.foldl_cons] at h
    rcases folded_mem z n _ c h with h | h
    · rw [Array.toList_append] at h
      exact List.mem_append.mp h
    · exact .inr h
theorem own_rep {z : Str} {k : Nat} {n : Int} (h : OwnS k z) (h0 : 0 ≤ n) : OwnS (n.toNat * k) (repS z n) := by
  refine ⟨by rw [repS_length, h.1], fun c hc => ?_⟩
  rcases folded_mem z.cps n.toNat #[] c hc with q | q
  · simp at q
  · exact h.2 c q
theorem own_add {y z : Str} {k m : Nat} (h1 : OwnS k y) (h2 : OwnS m z) : OwnS (k + m) (y ++ z) := by
  refine ⟨by rw [Str.length_append, h1.1, h2.1], fun c hc => ?_⟩
  have e : (y ++ z).cps.toList = y.cps.toList ++ z.cps.toList := by
    rw [Str.cps_append, Array.toList_append]
  rw [e] at hc
  exact (List.mem_append.mp hc).elim (h1.2 c) (h2.2 c)
theorem own_cut {z : Str} {k n : Nat} (h : OwnS k z) (hn : n ≤ k) : OwnS n (cutS z none (some (n : Int))) := by
  have e1 : HT.sIx z.length 0 none = 0 := HT.sIx_none _ _
  have e2 : HT.sIx z.length z.length (some (n : Int)) = min n z.length := HT.sIx_nat _ _ _
  refine ⟨?_, fun c hc => h.2 c ?_⟩
  · show (cutS z none (some (n : Int))).cps.size = n
    unfold cutS
    rw [e1, e2, List.drop_zero, List.size_toArray, List.length_take, Nat.sub_zero]
    have e3 : z.cps.toList.length = k := h.1
    have e4 : z.length = k := h.1
    rw [e3, e4]
    omega
  · unfold cutS at hc
    rw [List.toList_toArray] at hc
    exact List.mem_of_mem_drop (List.mem_of_mem_take hc)
theorem own_e : OwnS 1 "e" := ⟨rfl, by decide⟩
theorem own_s : OwnS 1 "s" := ⟨rfl, by decide⟩
theorem own_fold : ∀ (ys : List Str) (acc : Array Nat) (m : Nat), (∀ y ∈ ys, OwnS 1 y) → OwnS m ⟨acc⟩ →
    OwnS (m + ys.length) ⟨ys.foldl (fun acc p => acc ++ (Str.ofString "").cps ++ p.cps) acc⟩
  | [], acc, m, _, h => h
  | y :: r, acc, m, hy, h => by
    rw [List.foldl_cons, List.length_cons, show m + (r.length + 1) = (m + 1) + r.length by omega]
    refine own_fold r _ (m + 1) (fun z hz => hy z (List.mem_cons_of_mem _ hz)) ?_
    have e : (⟨acc ++ (Str.ofString "").cps ++ y.cps⟩ : Str) = (⟨acc⟩ : Str) ++ y := by
      show (⟨acc ++ #[] ++ y.cps⟩ : Str) = _
      rw [Array.append_empty]
      rfl
    rw [e]
    exact own_add h (hy y List.mem_cons_self)
theorem own_join {ys : List Str} (h : ∀ y ∈ ys, OwnS 1 y) : OwnS ys.length (Txt.join "" ys) := by
  cases ys with
  | nil => exact ⟨rfl, by decide⟩
  | cons y r =>
    have z := own_fold r y.cps 1 (fun z hz => h z (List.mem_cons_of_mem _ hz)) (h y List.mem_cons_self)
    rw [List.length_cons, Nat.add_comm]
    exact z
theorem own_sum {ys : List Str} (h : ∀ y ∈ ys, OwnS 1 y) : (ys.map (·.length)).sum = ys.length := by
  induction ys with
  | nil => rfl
  | cons y r ih =>
    rw [List.map_cons, List.sum_cons, ih fun z hz => h z (List.mem_cons_of_mem _ hz), (h y List.mem_cons_self).1, List.length_cons]
    omega
/-! ### + of texts, in -/
def rAddSt : R2 := fun x y H Q => ∃ i j, x = .str i ∧ y = .str j ∧ i.length + j.length ≤ sizeLine ∧ Q (.str (i ++ j)) H
theorem op_addSt {X : Cx} : OpR X (binaryOp .Add) rAddSt := op_add_str
section
variable {K : PySem.W.Frag} {H : Hp} {Q : VK} {a : Int} {p : Addr} {ns : List Int} {y z : Str}
theorem rd_addSt (hz : y.length + z.length ≤ sizeLine) (h : Q (.str (y ++ z)) H) : rAddSt (.str y) (.str z) H Q := ⟨y, z, rfl, rfl, hz, h⟩
theorem flat_ints : ∀ ns : List Int, (ns.map V.int).all flatV = true
  | [] => rfl
  | _ :: r => flat_ints r
theorem inV_ints (a : Int) : ∀ ns : List Int, inV (.int a) (ns.map V.int) = decide (a ∈ ns)
  | [] => rfl
  | n :: r => by
    show ((n == a) || inV (.int a) (r.map V.int)) = _
    rw [inV_ints a r]
    by_cases h : n = a
    · subst h
      simp
    · have h' : ¬ a = n := fun e => h e.symm
      have e1 : (n == a) = false := beq_eq_false_iff_ne.mpr h
      rw [e1, Bool.false_or]
      simp [h']
theorem rd_inT (s : SqT K H p (ns.map V.int)) (h : Q (.bl (decide (a ∈ ns))) H) : rIn K false (.int a) (.ref p) H Q :=
  ⟨p, ns.map V.int, rfl, .inr s, rfl, flat_ints ns, by rw [inV_ints]; exact h⟩
theorem rd_inL (s : SqL K H p (ns.map V.int)) (h : Q (.bl (decide (a ∈ ns))) H) : rIn K false (.int a) (.ref p) H Q :=
  ⟨p, ns.map V.int, rfl, .inl s, rfl, flat_ints ns, by rw [inV_ints]; exact h⟩
theorem rd_notInT (s : SqT K H p (ns.map V.int)) (h : Q (.bl (!decide (a ∈ ns))) H) : rIn K true (.int a) (.ref p) H Q :=
  ⟨p, ns.map V.int, rfl, .inr s, rfl, flat_ints ns, by rw [inV_ints]; exact h⟩
theorem rd_notInL (s : SqL K H p (ns.map V.int)) (h : Q (.bl (!decide (a ∈ ns))) H) : rIn K true (.int a) (.ref p) H Q :=
  ⟨p, ns.map V.int, rfl, .inl s, rfl, flat_ints ns, by rw [inV_ints]; exact h⟩
end
/-! ### join -/
def rJoin (K : PySem.W.Frag) : V → List V → Hp → VK → Prop := fun x xs H Q =>
  ∃ (a : Str) (p : Addr) (ys : List Str), x = .str a ∧ xs = [.ref p] ∧ (SqL K H p (ys.map V.str) ∨ SqT K H p (ys.map V.str)) ∧
    (ys.map (·.length)).sum + ys.length * a.length ≤ 16777216 ∧ Q (.str (Txt.join a ys)) H
section
variable {X : Cx} {o e : Expr} {to te : TE} {apos pos : Pos}
theorem pe_joinN (ho : PE X o to) (he : PE X e te) (hs : starEach [e] X.env = [(false, eval e X.env)] := by rfl)
    (hbase : attributeBase o "join" X.env (eval o X.env) = eval o X.env := by rfl) (hline : (apos.endLine == pos.line) = true := by rfl) :
    PE X (.Call (.Attribute o "join" apos) [e] [] pos) (tM1 (rJoin X.K) to te) := pe_join ho he hs hbase hline
end
section
variable {K : PySem.W.Frag} {σ : L2.St} {H : Hp} {Q : VK} {to te : TE} {r : V → List V → Hp → VK → Prop} {z : Str} {P : Prop}
theorem rd_m1 (h : to σ H fun x H1 => (∃ a, x = .str a) ∧ te σ H1 fun y H2 => r x [y] H2 Q) : tM1 r to te σ H Q := h
theorem rd_isS (h : P) : (∃ a, V.str z = .str a) ∧ P := ⟨⟨z, rfl⟩, h⟩
theorem rd_join {p : Addr} {ys : List Str} (s : SqL K H p (ys.map V.str)) (hz : (ys.map (·.length)).sum + ys.length * z.length ≤ 16777216) (h : Q (.str (Txt.join z ys)) H) : rJoin K (.str z) [.ref p] H Q :=
  ⟨z, p, ys, rfl, rfl, .inl s, hz, h⟩
theorem rd_mulS {n : Int} (h0 : 0 ≤ n) (h1 : n ≤ 1000) (h2 : z.length ≤ 1000) (h3 : 1 ≤ z.length) (h : Q (.str (repS z n)) H) : rMulS (.str z) (.int n) H Q := ⟨z, n, rfl, rfl, h0, h1, h2, h3, h⟩
theorem rd_addS {y : Str} (hz : y.length + z.length ≤ sizeLine) (h : Q (.str (y ++ z)) H) : (∃ i j, V.str y = .str i ∧ V.str z = .str j ∧ i.length + j.length ≤ sizeLine ∧ Q (.str (i ++ j)) H) := ⟨y, z, rfl, rfl, hz, h⟩
theorem rd_slS {lo hi : Option Int} (hz : z.length ≤ sizeLine) (h : Q (.str (cutS z lo hi)) H) : rSlS (.str z) lo hi H Q := ⟨z, rfl, hz, h⟩
end
end Ea
set_option Elab.async false
set_option linter.all false
set_option maxRecDepth 100000
set_option maxHeartbeats 4000000
/-! Slices, sums of tuples, sorted lists of ints, ranges as lists; rows of literals. -/
namespace Ea
open PySem PySem.Spec PyProof.Rows L2

/-! ### slices -/
theorem take_min {α : Type} (xs : List α) (k : Nat) : xs.take (min k xs.length) = xs.take k := by
  by_cases h : k ≤ xs.length
  · rw [Nat.min_eq_left h]
  · rw [Nat.min_eq_right (by omega), List.take_of_length_le (Nat.le_refl _), List.take_of_length_le (by omega)]
theorem drop_min {α : Type} (xs : List α) (k : Nat) : xs.drop (min k xs.length) = xs.drop k := by
  by_cases h : k ≤ xs.length
  · rw [Nat.min_eq_left h]
  · rw [Nat.min_eq_right (by omega), List.drop_of_length_le (Nat.le_refl _), List.drop_of_length_le (by omega)]
section
variable {ns : List Int} {xs : List V} {a b : Int}
theorem sIx_int (n e : Nat) (h : 0 ≤ a) : HT.sIx n e (some a) = min a.toNat n := by
  have z := HT.sIx_nat n e a.toNat
  rw [Int.toNat_of_nonneg h] at z
  exact z
theorem cut_take (h : 0 ≤ b) : cutV xs none (some b) = xs.take b.toNat := by
  unfold cutV
  rw [HT.sIx_none, sIx_int _ _ h, List.drop_zero, Nat.sub_zero, take_min]
theorem cut_drop (h : 0 ≤ a) : cutV xs (some a) none = xs.drop a.toNat := by
  unfold cutV
  rw [HT.sIx_none, sIx_int _ _ h, drop_min]
  exact List.take_of_length_le (by rw [List.length_drop]; omega)
theorem cut_mid (h : 0 ≤ a) (h2 : 0 ≤ b) : cutV xs (some a) (some b) = (xs.drop a.toNat).take (b.toNat - a.toNat) := by
  unfold cutV
  rw [sIx_int _ _ h, sIx_int _ _ h2, drop_min]
  by_cases c : b.toNat ≤ xs.length
  · rw [Nat.min_eq_left c]
    by_cases c2 : a.toNat ≤ xs.length
    · rw [Nat.min_eq_left c2]
    · rw [List.drop_of_length_le (by omega), List.take_nil, List.take_nil]
  · rw [Nat.min_eq_right (by omega)]
    by_cases c2 : a.toNat ≤ xs.length
    · rw [Nat.min_eq_left c2, List.take_of_length_le (by rw [List.length_drop]; omega), List.take_of_length_le (by rw [List.length_drop]; omega)]
    · rw [List.drop_of_length_le (by omega), List.take_nil, List.take_nil]
theorem cut_whole {lo hi : Option Int} (h : HT.sIx xs.length 0 lo = 0 ∧ HT.sIx xs.length xs.length hi = xs.length) : cutV xs lo hi = xs := by
  unfold cutV
  rw [h.1, h.2, List.drop_zero, Nat.sub_zero]
  exact List.take_of_length_le (Nat.le_refl _)
end
section
variable {d l : Addr} {K : PySem.W.Frag} {σ : L2.St} {H H' : Hp} {Q : VK} {p p2 : Addr} {xs ys : List V} {lo hi : Option Int} {ns : List Int} {a b : Int}
theorem Go.ex (e : Evl.Ex H H') (h : DeckB d l H) : Go d l H H' := by
  obtain ⟨ns, s, e1, e2, r⟩ := h
  exact ⟨⟨ns, s, e _ _ e1, e _ _ e2, r⟩, fun a o _ _ q => e a o q⟩
theorem rd_slT (s : SqT K H p xs) (h : ∀ (q : Addr) (H' : Hp), Evl.Ex H H' → SqT K H' q (cutV xs lo hi) → Q (.ref q) H') : rSlA K (.ref p) lo hi H Q :=
  ⟨p, xs, rfl, s, fun e => h p H (Evl.Ex.refl H) (by rw [cut_whole e]; exact s), fun _ q hq => h q _ (Evl.Ex.new hq) (SqT.of upd_same)⟩
theorem rd_slL (s : SqL K H p xs) (h : ∀ q, H q = none → Q (.ref q) (upd H q (.lst (cutV xs lo hi)))) : rSlL K (.ref p) lo hi H Q := ⟨p, xs, rfl, s, h⟩
theorem rd_catT (s : SqT K H p xs) (s2 : SqT K H p2 ys) (hz : xs.length + ys.length ≤ sizeLine)
    (h : ∀ (q : Addr) (H' : Hp), Evl.Ex H H' → SqT K H' q (xs ++ ys) → Q (.ref q) H') : rCatA K (.ref p) (.ref p2) H Q := by
  refine ⟨p, p2, xs, ys, rfl, rfl, s, s2, hz, fun e => ?_, fun _ e => ?_, fun _ _ q hq => h q _ (Evl.Ex.new hq) (SqT.of upd_same)⟩
  · subst e
    exact h p2 H (Evl.Ex.refl H) s2
  · subst e
    exact h p H (Evl.Ex.refl H) (by rw [List.append_nil]; exact s)
theorem rd_catL (s : H p = some (.lst xs)) (s2 : H p2 = some (.lst ys)) (hz : xs.length + ys.length ≤ sizeLine) (h : ∀ q, H q = none → Q (.ref q) (upd H q (.lst (xs ++ ys)))) : rCat (.ref p) (.ref p2) H Q :=
  ⟨p, p2, xs, ys, rfl, rfl, s, s2, hz, h⟩
theorem rd_sorted (s : SqL K H p (ns.map V.int)) (h : ∀ (ms : List Int) (q : Addr), ms.Perm ns → ms.Pairwise (· ≤ ·) → H q = none → Q (.ref q) (upd H q (.lst (ms.map V.int)))) : rSortedI K [.ref p] H Q :=
  ⟨p, ns, rfl, s, h⟩
def rgI (a b : Int) : List Int := (List.range (b - a).toNat).map fun i => a + (i : Nat)
theorem rgV_ints (a b : Int) : rgV a b = (rgI a b).map V.int := by
  unfold rgV rgI
  rw [List.map_map]
  rfl
theorem rd_listRg {te : L2.St → Hp → (Int → Int → Hp → Prop) → Prop} (h : te σ H fun a b H1 => RgOk a b ∧ ∀ q, H1 q = none → Q (.ref q) (upd H1 q (.lst (rgV a b)))) : tLstRg te σ H Q := h
theorem rd_rg2 {ta tb : TE} {R : Int → Int → Hp → Prop} (h : ta σ H fun x H1 => tb σ H1 fun y H2 => ∃ i j, x = .int i ∧ y = .int j ∧ R i j H2) : tRg2 ta tb σ H R := h
theorem rd_rgk {R : Int → Int → Prop} (h : R a b) : ∃ i j, V.int a = .int i ∧ V.int b = .int j ∧ R i j := ⟨a, b, rfl, rfl, h⟩
theorem rgI_mem {a b x : Int} : x ∈ rgI a b ↔ a ≤ x ∧ x < b := by
  unfold rgI
  rw [List.mem_map]
  constructor
  · rintro ⟨i, hi, rfl⟩
    have := List.mem_range.mp hi
    omega
  · rintro ⟨h1, h2⟩
    exact ⟨(x - a).toNat, List.mem_range.mpr (by omega), by omega⟩
theorem rgI_lt (a b : Int) : (rgI a b).Pairwise (· < ·) := by
  unfold rgI
  rw [List.pairwise_map]
  exact List.pairwise_lt_range.imp fun {i j} h => by omega
theorem rgI_length (a b : Int) : (rgI a b).length = (b - a).toNat := by
  unfold rgI
  rw [List.length_map, List.length_range]
end
theorem nodup_of_lt {ns : List Int} (h : ns.Pairwise (· < ·)) : ns.Nodup := h.imp fun {a b} q => by omega
theorem lt_of_sorted {ns : List Int} (h : ns.Pairwise (· ≤ ·)) (hn : ns.Nodup) : ns.Pairwise (· < ·) := by
  refine (h.and hn).imp fun {a b} q => ?_
  obtain ⟨q1, q2⟩ := q
  have q2 : a ≠ b := q2
  omega

/-! ### rows -/
/-- a clause of n letters -/
def Row (n : Nat) (ns : List Int) : Prop := ns.Pairwise (fun x y => x.natAbs < y.natAbs) ∧ ∀ x ∈ ns, 1 ≤ x.natAbs ∧ x.natAbs ≤ n
theorem Row.nil {n : Nat} : Row n [] := ⟨List.Pairwise.nil, nofun⟩
theorem Row.sub {n : Nat} {xs ys : List Int} (h : Row n ys) (s : xs.Sublist ys) : Row n xs := ⟨h.1.sublist s, fun x hx => h.2 x (s.subset hx)⟩
theorem Row.abs {n : Nat} {xs ys : List Int} (h : Row n ys) (e : xs.map Int.natAbs = ys.map Int.natAbs) : Row n xs := by
  have h1 : (ys.map Int.natAbs).Pairwise (· < ·) := by
    rw [List.pairwise_map]
    exact h.1
  rw [← e, List.pairwise_map] at h1
  refine ⟨h1, fun x hx => ?_⟩
  have : x.natAbs ∈ ys.map Int.natAbs := by
    rw [← e]
    exact List.mem_map_of_mem hx
  obtain ⟨y, hy, e2⟩ := List.mem_map.mp this
  rw [← e2]
  exact h.2 y hy
theorem Row.of_letters {n : Nat} {ns : List Int} (h : ns.Pairwise (· < ·)) (hm : ∀ x ∈ ns, 1 ≤ x ∧ x ≤ (n : Int)) : Row n ns := by
  refine ⟨?_, fun x hx => ?_⟩
  · refine List.Pairwise.imp_of_mem (fun {a b} ha hb q => ?_) h
    have := hm a ha
    have := hm b hb
    omega
  · have := hm x hx
    omega
theorem Row.length {n : Nat} : ∀ {ns : List Int}, Row n ns → ns.length ≤ n := by
  have key : ∀ (ns : List Int) (k : Nat), ns.Pairwise (fun x y => x.natAbs < y.natAbs) → (∀ x ∈ ns, k < x.natAbs ∧ x.natAbs ≤ n) → k ≤ n → ns.length + k ≤ n := by
    intro ns
    induction ns with
    | nil => intro k _ _ h; simpa using h
    | cons x r ih =>
      intro k hp hm hk
      obtain ⟨h1, h2⟩ := List.pairwise_cons.mp hp
      have hx := hm x List.mem_cons_self
      have z := ih x.natAbs h2 (fun y hy => ⟨h1 y hy, (hm y (List.mem_cons_of_mem _ hy)).2⟩) hx.2
      rw [List.length_cons]
      omega
  intro ns h
  have z := key ns 0 h.1 (fun x hx => ⟨by have := (h.2 x hx).1; omega, (h.2 x hx).2⟩) (Nat.zero_le _)
  omega
end Ea
set_option Elab.async false
set_option linter.all false
set_option maxHeartbeats 4000000
/-! Rows dropped, clashing and met: plain lists. -/
namespace Ea
/-- without what holds at the end -/
def dropTail (f : Int → Bool) (ns : List Int) : List Int := (ns.reverse.dropWhile f).reverse
theorem dropTail_nil (f : Int → Bool) : dropTail f [] = [] := rfl
theorem dropTail_snoc_pos {f : Int → Bool} {ns : List Int} {x : Int} (h : f x = true) : dropTail f (ns ++ [x]) = dropTail f ns := by
  unfold dropTail
  rw [List.reverse_append, List.reverse_singleton, List.singleton_append, List.dropWhile_cons, if_pos h]
theorem dropTail_snoc_neg {f : Int → Bool} {ns : List Int} {x : Int} (h : f x = false) : dropTail f (ns ++ [x]) = ns ++ [x] := by
  unfold dropTail
  rw [List.reverse_append, List.reverse_singleton, List.singleton_append, List.dropWhile_cons, if_neg (by rw [h]; decide), List.reverse_cons, List.reverse_reverse]
theorem take_snoc {ns : List Int} {k : Nat} (h : k < ns.length) : ns.take (k + 1) = ns.take k ++ [ns[k]] := by
  rw [List.take_add_one, List.getElem?_eq_getElem h]
  rfl
theorem dropTail_idem (f : Int → Bool) (ns : List Int) : dropTail f (dropTail f ns) = dropTail f ns := by
  rcases List.eq_nil_or_concat (dropTail f ns) with e | ⟨m, z, e⟩
  · rw [e]
    rfl
  · have e : dropTail f ns = m ++ [z] := by simpa using e
    rw [e]
    refine dropTail_snoc_neg ?_
    have h : ns.reverse.dropWhile f = z :: m.reverse := by
      have h2 := congrArg List.reverse e
      unfold dropTail at h2
      rw [List.reverse_reverse, List.reverse_append] at h2
      simpa using h2
    have h3 := List.head?_dropWhile_not f ns.reverse
    rw [h] at h3
    simpa using h3
theorem dropTail_sub (f : Int → Bool) (ns : List Int) : (dropTail f ns).Sublist ns := by
  have h : (ns.reverse.dropWhile f).Sublist ns.reverse := List.dropWhile_sublist f
  have h2 := h.reverse
  rw [List.reverse_reverse] at h2
  exact h2
/-- the greatest letter of the other party's -/
def lastOf (f : Int → Bool) (ns : List Int) : List Int := (ns.filter fun x => !f x).map fun x => (x.natAbs : Int)
theorem short_eq {n : Nat} {f : Int → Bool} {m : Int} : ∀ {ns : List Int}, Row n ns → (m ∈ lastOf f ns ++ [0]) → (∀ y ∈ lastOf f ns ++ [0], y ≤ m) →
    (ns.filter fun x => !f x || decide ((x.natAbs : Int) < m)) = dropTail f ns := by
  intro ns
  generalize hk : ns.length = k
  induction k generalizing ns with
  | zero =>
    intro _ _ _
    rw [List.length_eq_zero_iff.mp hk]
    rfl
  | succ k ih =>
    intro hr hm hb
    obtain ⟨r, x, e⟩ : ∃ r x, ns = r ++ [x] := by
      rcases List.eq_nil_or_concat ns with e | ⟨r, x, e⟩
      · rw [e] at hk
        cases hk
      · exact ⟨r, x, by simpa using e⟩
    subst e
    have hlt : ∀ y ∈ r, y.natAbs < x.natAbs := fun y hy => (List.pairwise_append.mp hr.1).2.2 y hy x List.mem_cons_self
    have hx1 := (hr.2 x (List.mem_append_right _ List.mem_cons_self)).1
    have hr' : Row n r := hr.sub (List.sublist_append_left _ _)
    rw [List.filter_append]
    cases hf : f x with
    | false =>
      rw [dropTail_snoc_neg hf]
      have e2 : ([x].filter fun x => !f x || decide ((x.natAbs : Int) < m)) = [x] := by simp [hf]
      rw [e2]
      have hxm : (x.natAbs : Int) ≤ m := hb _ (List.mem_append_left _ (by
        unfold lastOf
        exact List.mem_map.mpr ⟨x, List.mem_filter.mpr ⟨List.mem_append_right _ List.mem_cons_self, by rw [hf]; rfl⟩, rfl⟩))
      congr 1
      refine List.filter_eq_self.mpr fun y hy => ?_
      have := hlt y hy
      rw [Bool.or_eq_true]
      exact .inr (decide_eq_true (by omega))
    | true =>
      rw [dropTail_snoc_pos hf]
      have el : lastOf f (r ++ [x]) = lastOf f r := by
        unfold lastOf
        rw [List.filter_append]
        have : ([x].filter fun x => !f x) = [] := by simp [hf]
        rw [this, List.append_nil]
      rw [el] at hm hb
      have hxm : ¬ (x.natAbs : Int) < m := by
        rcases List.mem_append.mp hm with h | h
        · obtain ⟨y, hy, e⟩ := List.mem_map.mp h
          have := hlt y (List.mem_filter.mp hy).1
          omega
        · rw [List.mem_singleton.mp h]
          omega
      have e2 : ([x].filter fun x => !f x || decide ((x.natAbs : Int) < m)) = [] := by simp [hf, hxm]
      rw [e2, List.append_nil]
      refine ih (ns := r) ?_ hr' hm hb
      rw [List.length_append, List.length_singleton] at hk
      omega

/-! ### letters in which rows clash -/
def against (one other : List Int) : List Int := (one.filter fun x => decide (-x ∈ other)).map fun x => (x.natAbs : Int)
theorem against_mem {one other : List Int} {k : Int} : k ∈ against one other ↔ ∃ x ∈ one, -x ∈ other ∧ (x.natAbs : Int) = k := by
  unfold against
  rw [List.mem_map]
  constructor
  · rintro ⟨x, hx, e⟩
    have h := List.mem_filter.mp hx
    exact ⟨x, h.1, of_decide_eq_true h.2, e⟩
  · rintro ⟨x, hx, h, e⟩
    exact ⟨x, List.mem_filter.mpr ⟨hx, decide_eq_true h⟩, e⟩
theorem against_lt {n : Nat} {one other : List Int} (h : Row n one) : (against one other).Pairwise (· < ·) := by
  unfold against
  rw [List.pairwise_map]
  exact (h.1.sublist List.filter_sublist).imp fun {a b} q => by omega
theorem eq_of_lt : ∀ {xs ys : List Int}, xs.Pairwise (· < ·) → ys.Pairwise (· < ·) → (∀ x, x ∈ xs ↔ x ∈ ys) → xs = ys
  | [], [], _, _, _ => rfl
  | [], y :: r, _, _, h => absurd ((h y).mpr List.mem_cons_self) nofun
  | x :: r, [], _, _, h => absurd ((h x).mp List.mem_cons_self) nofun
  | x :: r, y :: t, h1, h2, h => by
    obtain ⟨a1, a2⟩ := List.pairwise_cons.mp h1
    obtain ⟨b1, b2⟩ := List.pairwise_cons.mp h2
    have e : x = y := by
      rcases List.mem_cons.mp ((h x).mp List.mem_cons_self) with e | e
      · exact e
      · rcases List.mem_cons.mp ((h y).mpr List.mem_cons_self) with e2 | e2
        · exact e2.symm
        · have := a1 y e2
          have := b1 x e
          omega
    subst e
    congr 1
    refine eq_of_lt a2 b2 fun z => ⟨fun hz => ?_, fun hz => ?_⟩
    · rcases List.mem_cons.mp ((h z).mp (List.mem_cons_of_mem _ hz)) with e | e
      · have := a1 z hz
        omega
      · exact e
    · rcases List.mem_cons.mp ((h z).mpr (List.mem_cons_of_mem _ hz)) with e | e
      · have := b1 z hz
        omega
      · exact e
theorem against_comm {n m : Nat} {one other : List Int} (h1 : Row n one) (h2 : Row m other) : against other one = against one other := by
  refine eq_of_lt (against_lt h2) (against_lt h1) fun k => ?_
  rw [against_mem, against_mem]
  constructor
  · rintro ⟨x, hx, hn, e⟩
    exact ⟨-x, hn, by rw [Int.neg_neg]; exact hx, by omega⟩
  · rintro ⟨x, hx, hn, e⟩
    exact ⟨-x, hn, by rw [Int.neg_neg]; exact hx, by omega⟩
theorem against_pos {n : Nat} {one other : List Int} (h : Row n one) {k : Int} (hk : k ∈ against one other) : 1 ≤ k ∧ k ≤ n := by
  obtain ⟨x, hx, _, e⟩ := against_mem.mp hk
  have := h.2 x hx
  omega

/-! ### rows that meet -/
def IsJoin (one other r : List Int) : Prop := r.Pairwise (fun x y => x.natAbs < y.natAbs) ∧ ∀ x, x ∈ r ↔ (x ∈ one ∨ x ∈ other) ∧ (x.natAbs : Int) ∉ against one other
theorem eq_of_asc : ∀ {xs ys : List Int}, xs.Pairwise (fun x y => x.natAbs < y.natAbs) → ys.Pairwise (fun x y => x.natAbs < y.natAbs) → (∀ x, x ∈ xs ↔ x ∈ ys) → xs = ys
  | [], [], _, _, _ => rfl
  | [], y :: r, _, _, h => absurd ((h y).mpr List.mem_cons_self) nofun
  | x :: r, [], _, _, h => absurd ((h x).mp List.mem_cons_self) nofun
  | x :: r, y :: t, h1, h2, h => by
    obtain ⟨a1, a2⟩ := List.pairwise_cons.mp h1
    obtain ⟨b1, b2⟩ := List.pairwise_cons.mp h2
    have e : x = y := by
      rcases List.mem_cons.mp ((h x).mp List.mem_cons_self) with e | e
      · exact e
      · rcases List.mem_cons.mp ((h y).mpr List.mem_cons_self) with e2 | e2
        · exact e2.symm
        · have := a1 y e2
          have := b1 x e
          omega
    subst e
    congr 1
    refine eq_of_asc a2 b2 fun z => ⟨fun hz => ?_, fun hz => ?_⟩
    · rcases List.mem_cons.mp ((h z).mp (List.mem_cons_of_mem _ hz)) with e | e
      · have := a1 z hz
        rw [e] at this
        omega
      · exact e
    · rcases List.mem_cons.mp ((h z).mpr (List.mem_cons_of_mem _ hz)) with e | e
      · have := b1 z hz
        rw [e] at this
        omega
      · exact e
theorem IsJoin.eq {one other r t : List Int} (h1 : IsJoin one other r) (h2 : IsJoin one other t) : r = t :=
  eq_of_asc h1.1 h2.1 fun x => (h1.2 x).trans (h2.2 x).symm
theorem IsJoin.comm {n m : Nat} {one other r : List Int} (a : Row n one) (b : Row m other) (h : IsJoin other one r) : IsJoin one other r :=
  ⟨h.1, fun x => by rw [h.2 x, against_comm a b, or_comm]⟩
theorem IsJoin.row {n : Nat} {one other r : List Int} (a : Row n one) (b : Row n other) (h : IsJoin one other r) : Row n r :=
  ⟨h.1, fun x hx => ((h.2 x).mp hx).1.elim (a.2 x) (b.2 x)⟩
/-- literals of one letter in both are the same, where they do not clash in it -/
theorem same_of {n : Nat} {one other : List Int} (a : Row n one) (b : Row n other) {x y : Int} (hx : x ∈ one ∨ x ∈ other) (hy : y ∈ one ∨ y ∈ other) (e : x.natAbs = y.natAbs)
    (hn : (x.natAbs : Int) ∉ against one other) : x = y := by
  have key : ∀ {xs : List Int}, Row n xs → x ∈ xs → y ∈ xs → x = y := fun {xs} h h1 h2 => by
    obtain ⟨i, hi, e1⟩ := List.mem_iff_getElem.mp h1
    obtain ⟨j, hj, e2⟩ := List.mem_iff_getElem.mp h2
    have hp := List.pairwise_iff_getElem.mp h.1
    rcases Nat.lt_trichotomy i j with q | q | q
    · have := hp i j hi hj q
      rw [e1, e2] at this
      omega
    · subst q
      rw [← e1, ← e2]
    · have := hp j i hj hi q
      rw [e1, e2] at this
      omega
  have opp : x = y ∨ y = -x := by omega
  rcases opp with q | q
  · exact q
  · subst q
    rcases hx with hx | hx <;> rcases hy with hy | hy
    · exact key a hx hy
    · exact absurd (against_mem.mpr ⟨x, hx, hy, rfl⟩) hn
    · exact absurd (against_mem.mpr ⟨-x, hy, by rw [Int.neg_neg]; exact hx, by omega⟩) hn
    · exact key b hx hy
end Ea
set_option Elab.async false
set_option linter.all false
set_option maxRecDepth 100000
set_option maxHeartbeats 4000000
/-! Comprehensions over ints where nothing is changed; greatest, texts' places. -/
namespace Ea
open PySem PySem.Spec PyProof.Rows L2
section
variable {K : PySem.W.Frag} {σ : L2.St} {H : Hp} {Q : VK} {tt : TT} {te : TE} {vs : List Nat} {j : Nat} {σx : V → L2.St} {a : Addr} {ns : List Int} {f : Int → Bool} {g : Int → V}
/-- a turn: f tells whether x gives, g what -/
abbrev TurnF (H : Hp) (tt : TT) (te : TE) (σx : V → L2.St) (f : Int → Bool) (g : Int → V) (x : Int) : Prop :=
  ∀ (H' : Hp) (N : VK) (S : Hp → Prop), Evl.Ex H H' → (f x = true → ∀ H3, Evl.Ex H' H3 → N (g x) H3) → (f x = false → ∀ H3, Evl.Ex H' H3 → S H3) →
    tt (σx (.int x)) H' fun b H2 => if b = true then te (σx (.int x)) H2 N else S H2
def Cf (H : Hp) (ns : List Int) (f : Int → Bool) (g : Int → V) (D : Addr) (i : Nat) (H' : Hp) : Prop :=
  H D = none ∧ Evl.Ex H H' ∧ H' D = some (.lst (((ns.take i).filter f).map g))
theorem cf_turn {D : Addr} {i : Nat} {x : Int} {H' : Hp} (hi : ns[i]? = some x) (hz : ns.length ≤ 40000) (ht : TurnF H tt te σx f g x) (p : Cf H ns f g D i H') :
    tt (σx (.int x)) H' fun b H3 => if b = true then te (σx (.int x)) H3 fun y H4 => ∃ acc, H4 D = some (.lst acc) ∧ acc.length < sizeLine ∧ Cf H ns f g D (i + 1) (upd H4 D (.lst (acc ++ [y]))) else Cf H ns f g D (i + 1) H3 := by
  obtain ⟨e, ex, ea⟩ := p
  have hl : ((((ns.take i).filter f).map g)).length < 100000 := by
    rw [List.length_map]
    have h1 := List.length_filter_le f (ns.take i)
    have h2 := List.length_take_le i ns
    have h3 := List.length_take (i := i) (l := ns)
    omega
  refine ht H' _ _ ex (fun hf H3 e3 => ?_) fun hf H3 e3 => ?_
  · refine ⟨_, e3 D _ ea, Evl.sz_lt hl, e, Evl.Ex.mut (ex.trans e3) e, ?_⟩
    rw [upd_same, List.take_add_one, hi, List.filter_append, List.map_append]
    have : ((some x).toList.filter f) = [x] := by simp [hf]
    rw [this] <;> rfl
  · refine ⟨e, ex.trans e3, ?_⟩
    rw [List.take_add_one, hi, List.filter_append]
    have : ((some x).toList.filter f) = [] := by simp [hf]
    rw [this, List.append_nil]
    exact e3 D _ ea
theorem lc_fmT (f : Int → Bool) (g : Int → V) (hx : SqT K H a (ns.map V.int)) (hz : ns.length ≤ 40000) (hσ : ∀ x, (wipe σ vs).set j (some x) = σx x) (hw : ∀ x, wipe (σx x) vs = wipe σ vs)
    (hs : ∀ x ∈ ns, TurnF H tt te σx f g x)
    (hd : ∀ D H', Evl.Ex H H' → H D = none → H' D = some (.lst ((ns.filter f).map g)) → Q (.ref D) H') : LcR (gName j) tt te vs σ Q (Itt K a) H := fun D hn =>
  lc_tup (xs := ns.map V.int) (Cf H ns f g D) ⟨hn, Evl.Ex.new hn, upd_same⟩ (fun i H' _ ⟨_, ex, _⟩ => Evl.ex_t ex hx) (fun i x H' hi p => by
    rw [List.getElem?_map] at hi
    obtain ⟨y, hy, rfl⟩ := Option.map_eq_some_iff.mp hi
    rw [show gName j (.int y) (wipe σ vs) H' = fun N => N (σx (.int y)) H' from funext fun N => by rw [← hσ (.int y)] <;> rfl]
    exact ⟨hw _, cf_turn hy hz (hs y (List.mem_of_getElem? hy)) p⟩) fun H' p => by
    obtain ⟨e, ex, ea⟩ := p
    rw [List.length_map, List.take_of_length_le (Nat.le_refl _)] at ea
    exact hd D H' ex e ea
theorem lc_fmL (f : Int → Bool) (g : Int → V) (hx : SqL K H a (ns.map V.int)) (hz : ns.length ≤ 40000) (hσ : ∀ x, (wipe σ vs).set j (some x) = σx x) (hw : ∀ x, wipe (σx x) vs = wipe σ vs)
    (hs : ∀ x ∈ ns, TurnF H tt te σx f g x)
    (hd : ∀ D H', Evl.Ex H H' → H D = none → H' D = some (.lst ((ns.filter f).map g)) → Q (.ref D) H') : LcR (gName j) tt te vs σ Q (Itl K a) H := fun D hn =>
  lc_list (xs := ns.map V.int) (Cf H ns f g D) ⟨hn, Evl.Ex.new hn, upd_same⟩ (fun i H' _ ⟨_, ex, _⟩ => Evl.ex_l ex hx) (fun i x H' hi p => by
    rw [List.getElem?_map] at hi
    obtain ⟨y, hy, rfl⟩ := Option.map_eq_some_iff.mp hi
    rw [show gName j (.int y) (wipe σ vs) H' = fun N => N (σx (.int y)) H' from funext fun N => by rw [← hσ (.int y)] <;> rfl]
    exact ⟨hw _, cf_turn hy hz (hs y (List.mem_of_getElem? hy)) p⟩) fun H' p => by
    obtain ⟨e, ex, ea⟩ := p
    rw [List.length_map, List.take_of_length_le (Nat.le_refl _)] at ea
    exact hd D H' ex e ea
theorem rd_maxL {m : List Int} (s : SqL K H a (m.map V.int)) (h0 : 0 < m.length) (h : ∀ x, x ∈ m → (∀ y, y ∈ m → y ≤ x) → Q (.int x) H) : rMax K [.ref a] H Q := ⟨a, m, rfl, s, h0, h⟩
end
theorem rd_iteC {p : Prop} {_ : Decidable p} {σ : L2.St} {H : Hp} {Q : VK} {u v x : V} (e1 : p → u = x) (e2 : ¬ p → v = x) (h : Q x H) : if decide p = true then tC u σ H Q else tC v σ H Q := by
  by_cases c : p
  · rw [if_pos (decide_eq_true c), e1 c]
    exact h
  · rw [if_neg (by rw [decide_eq_true_eq]; exact c), e2 c]
    exact h
theorem bor_l {a b : Bool} (h : a = true) : (a || b) = true := by rw [h, Bool.true_or]
theorem bor_r {a b : Bool} (h : b = true) : (a || b) = true := by rw [h, Bool.or_true]
theorem bor_f {a b : Bool} (h : a = false) (h2 : b = false) : (a || b) = false := by rw [h, h2, Bool.or_false]
/-- the sign of a literal's letter -/
def sgn (z : Str) (x : Int) : Nat := z.cps.toList.getD (x.natAbs - 1) 0
def heldBy (z h : Str) (x : Int) : Bool := decide (V.str ⟨#[sgn z x]⟩ = V.str h)
theorem at_sgn {n : Nat} {z : Str} {x : Int} (h : OwnS n z) (h1 : 1 ≤ x.natAbs) (h2 : x.natAbs ≤ n) : atI z.cps.toList ((x.natAbs : Int) - 1) = some (sgn z x) := by
  have e : (x.natAbs : Int) - 1 = ((x.natAbs - 1 : Nat) : Int) := by omega
  have hl : x.natAbs - 1 < z.cps.toList.length := by
    have : z.cps.toList.length = n := h.1
    omega
  rw [e]
  refine atI_nat ?_
  unfold sgn
  rw [List.getElem?_eq_getElem hl, List.getD_eq_getElem?_getD, List.getElem?_eq_getElem hl]
  rfl
end Ea
set_option Elab.async false
set_option linter.all false
set_option maxRecDepth 100000
set_option maxHeartbeats 4000000
/-! Loops over tuples; dicts of literals by their letters. -/
namespace Ea
open PySem PySem.Spec PyProof.Rows L2

/-! ### a for, by its iterator -/
def ForR (g : TG) (tb : TS) (D : Ends) (σ : L2.St) (J : It) (H1 : Hp) : Prop :=
  ∃ W : Nat → Nat → L2.St → Hp → Prop, (∃ m, W 0 m σ H1) ∧ ∀ i m σ H, W i m σ H →
    (J.stop i H ∧ D.nx σ H) ∨
    (J.go i H ∧ ∃ N : L2.St → Hp → Prop, (∀ σ' H', N σ' H' → ∃ m', m' < m ∧ W (i + 1) m' σ' H') ∧
      ∀ x H', J.yld i H x H' → g x σ H' fun σ2 H2 => tb { D with nx := N, ct := N, bk := D.nx } σ2 H2)
section
variable {K : PySem.W.Frag} {σ : L2.St} {H : Hp} {g : TG} {tb : TS} {D : Ends} {wi : TI} {a : Addr} {xs : List V} {j : Nat}
theorem rd_for (h : wi σ H (ForR g tb D σ)) : tFor wi g tb D σ H := h
theorem fr_tup (Pv : Nat → L2.St → Hp → Prop) (h0 : Pv 0 σ H) (hl : ∀ i σ H, i ≤ xs.length → Pv i σ H → SqT K H a xs)
    (hs : ∀ i x σ H, xs[i]? = some x → Pv i σ H → tb { D with nx := Pv (i + 1), ct := Pv (i + 1), bk := D.nx } (σ.set j (some x)) H) (hd : ∀ σ H, Pv xs.length σ H → D.nx σ H) :
    ForR (gName j) tb D σ (Itt K a) H := for_tup Pv h0 hl (fun i x σ H hi p => hs i x σ H hi p) hd
theorem fr_list (Pv : Nat → L2.St → Hp → Prop) (h0 : Pv 0 σ H) (hl : ∀ i σ H, i ≤ xs.length → Pv i σ H → SqL K H a xs)
    (hs : ∀ i x σ H, xs[i]? = some x → Pv i σ H → tb { D with nx := Pv (i + 1), ct := Pv (i + 1), bk := D.nx } (σ.set j (some x)) H) (hd : ∀ σ H, Pv xs.length σ H → D.nx σ H) :
    ForR (gName j) tb D σ (Itl K a) H := for_list Pv h0 hl (fun i x σ H hi p => hs i x σ H hi p) hd
theorem fr_range {lo : Int} {n : Nat} (Pv : Nat → L2.St → Hp → Prop) (h0 : Pv 0 σ H)
    (hs : ∀ i σ H, i < n → Pv i σ H → tb { D with nx := Pv (i + 1), ct := Pv (i + 1), bk := D.nx } (σ.set j (some (.int (lo + i)))) H) (hd : ∀ σ H, Pv n σ H → D.nx σ H) :
    ForR (gName j) tb D σ (Itr lo n) H := for_range Pv h0 (fun i σ H hi p => hs i σ H hi p) hd
end

theorem rd_dnew {σ : L2.St} {H : Hp} {Q : VK} (h : ∀ p, H p = none → Q (.ref p) (upd H p (.dK []))) : tDNewK σ H Q := h
theorem rd_gtup2 {K : PySem.W.Frag} {σ σ' : L2.St} {H : Hp} {p : Addr} {x y : V} {n i j : Nat} {N : L2.St → Hp → Prop} (s : SqT K H p [x, y]) (hn : n = 2) (hs : (σ.set i (some x)).set j (some y) = σ') (h : N σ' H) :
    gTup K n (gCons (gName i) (gCons (gName j) gNil)) (.ref p) σ H N := ⟨p, [x, y], rfl, s, hn.symm, x, [y], rfl, y, [], rfl, rfl, by subst hs; exact h⟩
/-! ### sorted of a dict by its keys -/
def rSortD : List V → Hp → VK → Prop := fun xs H Q => ∃ (a : Addr) (kvs : List (Key × V)) (ks : List Int), xs = [.ref a] ∧ Rd H a (.dK kvs) ∧ kvs.map (·.1) = ks.map Sum.inl ∧ ks.length < 64 ∧
  ∀ (ys : List Int) (p : Addr), ys.Perm ks → ys.Pairwise (· ≤ ·) → H p = none → Q (.ref p) (upd H p (.lst (ys.map V.int)))
theorem c_sortedD {X : Cx} (h : X.calm = true) : CallR X (.builtin "sorted") rSortD := call_sortedDI h
theorem rd_sortD {H : Hp} {Q : VK} {a : Addr} {kvs : List (Key × V)} {ks : List Int} (h : H a = some (.dK kvs)) (e : kvs.map (·.1) = ks.map Sum.inl) (hl : ks.length < 64)
    (q : ∀ (ys : List Int) (p : Addr), ys.Perm ks → ys.Pairwise (· ≤ ·) → H p = none → Q (.ref p) (upd H p (.lst (ys.map V.int)))) : rSortD [.ref a] H Q := ⟨a, kvs, ks, rfl, .inl h, e, hl, q⟩

/-! ### a dict of literals by letters -/
abbrev lk (x : Int) : Key := Sum.inl (x.natAbs : Int)
structure Dic (ws : List Int) (kvs : List (Key × V)) : Prop where
  ks : ∃ ks : List Int, kvs.map (·.1) = ks.map Sum.inl ∧ ks.Nodup ∧ ∀ k, k ∈ ks ↔ ∃ x ∈ ws, (x.natAbs : Int) = k
  val : ∀ k : Int, (∃ x ∈ ws, (x.natAbs : Int) = k) → ∃ x ∈ ws, (x.natAbs : Int) = k ∧ valV kvs (.inl k) = some (.int x)
  len : kvs.length ≤ ws.length
theorem Dic.nil : Dic [] [] := by
  refine ⟨⟨[], rfl, List.nodup_nil, fun k => ⟨fun h => (nomatch h), ?_⟩⟩, ?_, Nat.le_refl _⟩
  · rintro ⟨x, h, _⟩
    cases h
  · rintro k ⟨x, h, _⟩
    cases h
theorem keys_put {kvs : List (Key × V)} {k : Key} {v : V} : (putK kvs k v).map (·.1) = if (kvs.any fun kv => decide (kv.1 = k)) = true then kvs.map (·.1) else kvs.map (·.1) ++ [k] := by
  unfold putK
  split
  · rw [List.map_map]
    refine List.map_congr_left fun p _ => ?_
    show (if p.1 = k then (p.1, v) else p).1 = p.1
    split <;> rfl
  · rw [List.map_append]
    rfl
theorem any_key {kvs : List (Key × V)} {k : Key} : (kvs.any fun kv => decide (kv.1 = k)) = true ↔ k ∈ kvs.map (·.1) := by
  rw [List.any_eq_true, List.mem_map]
  constructor
  · rintro ⟨p, hp, e⟩
    exact ⟨p, hp, of_decide_eq_true e⟩
  · rintro ⟨p, hp, e⟩
    exact ⟨p, hp, decide_eq_true e⟩
theorem Dic.put {ws : List Int} {kvs : List (Key × V)} (h : Dic ws kvs) (x : Int) : Dic (ws ++ [x]) (putK kvs (lk x) (.int x)) := by
  obtain ⟨⟨ks, e, nd, hm⟩, hv, hl⟩ := h
  refine ⟨?_, fun k hk => ?_, ?_⟩
  · rw [keys_put]
    by_cases c : (kvs.any fun kv => decide (kv.1 = lk x)) = true
    · rw [if_pos c]
      have hx : (x.natAbs : Int) ∈ ks := by
        have z := any_key.mp c
        rw [e] at z
        obtain ⟨k, hk, e2⟩ := List.mem_map.mp z
        cases e2
        exact hk
      refine ⟨ks, e, nd, fun k => ⟨fun hk => ?_, fun ⟨y, hy, e2⟩ => ?_⟩⟩
      · obtain ⟨y, hy, e2⟩ := (hm k).mp hk
        exact ⟨y, List.mem_append_left _ hy, e2⟩
      · rcases List.mem_append.mp hy with hy | hy
        · exact (hm k).mpr ⟨y, hy, e2⟩
        · rw [List.mem_singleton.mp hy] at e2
          rw [← e2]
          exact hx
    · rw [if_neg c]
      have hx : (x.natAbs : Int) ∉ ks := fun hx => c (any_key.mpr (by rw [e]; exact List.mem_map_of_mem hx))
      refine ⟨ks ++ [(x.natAbs : Int)], by rw [e, List.map_append] <;> rfl, ?_, fun k => ⟨fun hk => ?_, fun ⟨y, hy, e2⟩ => ?_⟩⟩
      · rw [List.nodup_append]
        exact ⟨nd, by simp, fun a ha b hb => by rw [List.mem_singleton.mp hb]; exact fun q => hx (q ▸ ha)⟩
      · rcases List.mem_append.mp hk with hk | hk
        · obtain ⟨y, hy, e2⟩ := (hm k).mp hk
          exact ⟨y, List.mem_append_left _ hy, e2⟩
        · exact ⟨x, List.mem_append_right _ List.mem_cons_self, (List.mem_singleton.mp hk).symm⟩
      · rcases List.mem_append.mp hy with hy | hy
        · exact List.mem_append_left _ ((hm k).mpr ⟨y, hy, e2⟩)
        · rw [List.mem_singleton.mp hy] at e2
          exact List.mem_append_right _ (by rw [← e2]; exact List.mem_cons_self)
  · rw [valV_put]
    by_cases c : (Sum.inl k : Key) = lk x
    · rw [if_pos c]
      have c2 : k = (x.natAbs : Int) := Sum.inl.inj c
      exact ⟨x, List.mem_append_right _ List.mem_cons_self, c2.symm, rfl⟩
    · rw [if_neg c]
      obtain ⟨y, hy, e2⟩ := hk
      have hy' : y ∈ ws := by
        rcases List.mem_append.mp hy with hy | hy
        · exact hy
        · rw [List.mem_singleton.mp hy] at e2
          exact absurd (congrArg Sum.inl e2.symm) c
      obtain ⟨z, hz, e3, e4⟩ := hv k ⟨y, hy', e2⟩
      exact ⟨z, List.mem_append_left _ hz, e3, e4⟩
  · have h1 := congrArg List.length (keys_put (kvs := kvs) (k := lk x) (v := .int x))
    rw [List.length_map] at h1
    rw [h1, List.length_append, List.length_singleton]
    split
    · rw [List.length_map]
      omega
    · rw [List.length_append, List.length_map, List.length_singleton]
      omega
/-- the literal that a dict has for a letter -/
def litOf (kvs : List (Key × V)) (k : Int) : Int := match valV kvs (.inl k) with
  | some (.int x) => x
  | _ => 0
theorem Dic.lit {ws : List Int} {kvs : List (Key × V)} (h : Dic ws kvs) {k : Int} (hk : ∃ x ∈ ws, (x.natAbs : Int) = k) :
    valV kvs (.inl k) = some (.int (litOf kvs k)) ∧ litOf kvs k ∈ ws ∧ ((litOf kvs k).natAbs : Int) = k := by
  obtain ⟨x, hx, e, hv⟩ := h.val k hk
  have : litOf kvs k = x := by
    unfold litOf
    rw [hv]
  rw [this]
  exact ⟨hv, hx, e⟩
theorem Dic.join {n : Nat} {one other : List Int} {kvs : List (Key × V)} (h : Dic (one ++ other) kvs) (a : Row n one) (b : Row n other) {ys : List Int} (so : ys.Pairwise (· < ·))
    (hy : ∀ k, k ∈ ys ↔ (∃ x ∈ one ++ other, (x.natAbs : Int) = k) ∧ k ∉ against one other) : IsJoin one other (ys.map (litOf kvs)) := by
  have hl : ∀ k ∈ ys, litOf kvs k ∈ one ++ other ∧ ((litOf kvs k).natAbs : Int) = k := fun k hk => (h.lit ((hy k).mp hk).1).2
  refine ⟨?_, fun x => ⟨fun hx => ?_, fun ⟨hx, hn⟩ => ?_⟩⟩
  · rw [List.pairwise_map]
    refine List.Pairwise.imp_of_mem (fun {p q} hp hq hlt => ?_) so
    have h1 := (hl p hp).2
    have h2 := (hl q hq).2
    omega
  · obtain ⟨k, hk, rfl⟩ := List.mem_map.mp hx
    obtain ⟨h1, h2⟩ := hl k hk
    exact ⟨List.mem_append.mp h1, by rw [h2]; exact ((hy k).mp hk).2⟩
  · have hk : (x.natAbs : Int) ∈ ys := (hy _).mpr ⟨⟨x, List.mem_append.mpr hx, rfl⟩, hn⟩
    obtain ⟨h1, h2⟩ := hl _ hk
    refine List.mem_map.mpr ⟨_, hk, ?_⟩
    exact (same_of a b hx (List.mem_append.mp h1) (by omega) hn).symm
theorem valV_drop {kvs : List (Key × V)} {k j : Key} (h : j ≠ k) : valV (dropK kvs k) j = valV kvs j := by
  induction kvs with
  | nil => rfl
  | cons p r ih =>
    by_cases e : p.1 = k
    · rw [dropK_pos e, ih, valV_neg (fun z => h (z.symm.trans e))]
    · rw [dropK_neg e]
      by_cases e2 : p.1 = j
      · rw [valV_pos e2, valV_pos e2]
      · rw [valV_neg e2, valV_neg e2, ih]
theorem keys_drop {kvs : List (Key × V)} {ks : List Int} {c : Int} (h : kvs.map (·.1) = ks.map Sum.inl) : (dropK kvs (.inl c)).map (·.1) = (ks.filter fun k => decide (k ≠ c)).map Sum.inl := by
  induction kvs generalizing ks with
  | nil =>
    cases ks with
    | nil => rfl
    | cons k r => cases h
  | cons p r ih =>
    cases ks with
    | nil => cases h
    | cons k t =>
      have h1 : p.1 = Sum.inl k := (List.cons.inj h).1
      have h2 := ih (List.cons.inj h).2
      by_cases e : k = c
      · subst e
        rw [dropK_pos h1, h2]
        simp
      · have e1 : ¬ p.1 = Sum.inl c := fun z => e (Sum.inl.inj (h1.symm.trans z))
        rw [dropK_neg e1, List.map_cons, h2, h1]
        simp [e]
theorem dK_not {kvs : List (Key × V)} : ∀ zs : List V, HO.dK kvs ≠ .tup zs ∧ ∀ f, HO.dK kvs ≠ .frz f (.tup zs) := fun zs => ⟨fun h => (by cases h), fun f h => (by cases h)⟩
theorem lst_not {ys : List V} : ∀ zs : List V, HO.lst ys ≠ .tup zs ∧ ∀ f, HO.lst ys ≠ .frz f (.tup zs) := fun zs => ⟨fun h => (by cases h), fun f h => (by cases h)⟩
theorem tup_upd {K : PySem.W.Frag} {H : Hp} {p a : Addr} {o u : HO} {xs : List V} (h : H p = some o) (hn : ∀ zs, o ≠ .tup zs ∧ ∀ f, o ≠ .frz f (.tup zs)) (s : SqT K H a xs) : SqT K (upd H p u) a xs := by
  rcases s with (s | ⟨f, s⟩) | s
  · refine .inl (.inl ?_)
    rw [upd_ne (ne_of s h fun e => (hn xs).1 e.symm)]
    exact s
  · refine .inl (.inr ⟨f, ?_⟩)
    rw [upd_ne (ne_of s h fun e => (hn xs).2 f e.symm)]
    exact s
  · exact .inr s
theorem nodup_le : ∀ {n : Nat} {ks : List Int}, ks.Nodup → (∀ k ∈ ks, 1 ≤ k ∧ k ≤ (n : Int)) → ks.length ≤ n
  | 0, ks, _, hm => by
    cases ks with
    | nil => exact Nat.le_refl _
    | cons k r =>
      have := hm k List.mem_cons_self
      omega
  | n + 1, ks, h, hm => by
    have h1 : (ks.erase ((n + 1 : Nat) : Int)).length ≤ n := nodup_le (h.erase _) fun k hk => by
      obtain ⟨a, b⟩ := (List.Nodup.mem_erase_iff h).mp hk
      have := hm k b
      omega
    have h2 := List.length_erase (a := ((n + 1 : Nat) : Int)) (l := ks)
    split at h2 <;> omega
section
variable {X : Cx} {st : List Stmt} {t : TS} {p : Prop}
theorem pss_guard (h : p → PSs X st t) : PSs X st (fun D σ H => p ∧ t D σ H) := ⟨fun pins s σ H D I hq => (h hq.1).run pins s σ H D I hq.2⟩
end
end Ea
set_option Elab.async false
set_option linter.all false
set_option maxRecDepth 100000
set_option maxHeartbeats 400000
/-! Dict comprehensions of literals; own errors' facts; data that stays. -/
namespace Ea
open PySem PySem.Spec PyProof.Rows L2

def DcR (g : TG) (tt : TT) (tk tv : TE) (vs : List Nat) (σ : L2.St) (Q : VK) (J : It) (H1 : Hp) : Prop :=
  ∀ D, H1 D = none → ∃ W : Nat → Nat → Hp → Prop, (∃ m, W 0 m (upd H1 D (.dK []))) ∧ ∀ i m H, W i m H →
    (J.stop i H ∧ Q (.ref D) H) ∨
    (J.go i H ∧ ∃ Nx : Hp → Prop, (∀ H', Nx H' → ∃ m', m' < m ∧ W (i + 1) m' H') ∧
      ∀ x H', J.yld i H x H' → g x (wipe σ vs) H' fun σ2 H2 => wipe σ2 vs = wipe σ vs ∧ tt σ2 H2 fun b H3 =>
        if b = true then tk σ2 H3 fun y H4 => tv σ2 H4 fun z H5 => ∃ kvs k, y = kV k ∧ H5 D = some (.dK kvs) ∧ kvs.length < sizeLine ∧ Nx (upd H5 D (.dK (putK kvs k z))) else Nx H3)
section
variable {K : PySem.W.Frag} {σ : L2.St} {H : Hp} {Q : VK} {g : TG} {tt : TT} {tk tv : TE} {vs : List Nat} {wi : TI} {j : Nat} {σx : V → L2.St} {a : Addr} {ws : List Int}
theorem rd_dc (h : wi σ H (DcR g tt tk tv vs σ Q)) : tDc wi g tt tk tv vs σ H Q := h
theorem dc_dicT (hx : SqT K H a (ws.map V.int)) (hz : ws.length ≤ 1000) (hσ : ∀ x, (wipe σ vs).set j (some x) = σx x) (hw : ∀ x, wipe (σx x) vs = wipe σ vs)
    (hk : ∀ (x : Int) (H' : Hp) (R : VK), R (.int (x.natAbs : Int)) H' → tk (σx (.int x)) H' R) (hv : ∀ (x : Int) (H' : Hp) (R : VK), R (.int x) H' → tv (σx (.int x)) H' R)
    (hd : ∀ D kvs H', Evl.Ex H H' → H D = none → H' D = some (.dK kvs) → Dic ws kvs → Q (.ref D) H') : DcR (gName j) tYes tk tv vs σ Q (Itt K a) H := fun D hn =>
  dc_tup (xs := ws.map V.int) (fun i H' => Evl.Ex H H' ∧ ∃ kvs, H' D = some (.dK kvs) ∧ Dic (ws.take i) kvs) ⟨Evl.Ex.new hn, [], upd_same, Dic.nil⟩ (fun i H' _ p => Evl.ex_t p.1 hx) (fun i x H' hi p => by
    rw [List.getElem?_map] at hi
    obtain ⟨y, hy, rfl⟩ := Option.map_eq_some_iff.mp hi
    rw [show gName j (.int y) (wipe σ vs) H' = fun N => N (σx (.int y)) H' from funext fun N => by rw [← hσ (.int y)] <;> rfl]
    refine ⟨hw _, rd_yes (rd_true (hk y H' _ (hv y H' _ ?_)))⟩
    obtain ⟨ex, kvs, e, dd⟩ := p
    have hl := dd.len
    rw [List.length_take] at hl
    refine ⟨kvs, lk y, rfl, e, by rw [sizeLine_eq]; omega, Evl.Ex.mut ex hn, _, upd_same, ?_⟩
    rw [List.take_add_one, hy]
    exact dd.put y) fun H' p => by
    obtain ⟨ex, kvs, e, dd⟩ := p
    rw [List.length_map, List.take_of_length_le (Nat.le_refl _)] at dd
    exact hd D kvs H' ex hn e dd
end
theorem rd_ddel {td ty : TE} {D : Ends} {σ : L2.St} {H : Hp} (h : td σ H fun x H1 => ty σ H1 fun y H2 => ∃ a kvs k, x = .ref a ∧ H2 a = some (.dK kvs) ∧ y = kV k ∧ (valV kvs k).isSome = true ∧ D.nx σ (upd H2 a (.dK (dropK kvs k)))) : sDDel td ty D σ H := h
theorem rd_kw {m : Nat} {sp : Sp} {gV : List V → List V} {E : L2.St → XK} {tk : TA} {σ : L2.St} {H : Hp} {Q : VK} (h : tk σ H fun zs H2 => zs.length = m ∧ sp (gV zs) H2 Q (E σ)) : tKw m sp gV E tk σ H Q := h
theorem rd_callS {sp : Sp} {E : L2.St → XK} {t : TA} {σ : L2.St} {H : Hp} {Q : VK} (h : t σ H fun vs H1 => sp vs H1 Q (E σ)) : tCallS sp E t σ H Q := h
theorem rd_ite2 {b : Bool} {te1 te2 : TE} {σ : L2.St} {H : Hp} {Q : VK} (P : V → Hp → Prop) (h1 : ∀ Q : VK, (∀ v H', P v H' → Q v H') → te1 σ H Q) (h2 : ∀ Q : VK, (∀ v H', P v H' → Q v H') → te2 σ H Q)
    (h : ∀ v H', P v H' → Q v H') : if b = true then te1 σ H Q else te2 σ H Q := by
  cases b with
  | true => exact h1 Q h
  | false => exact h2 Q h
theorem nice_row {n : Nat} {ns : List Int} (h : Row n ns) (hn : n ≤ 60) : Nice 60 1 (.tuple (dI ns)) :=
  (Nice.tup (NiceAll.ints fun x hx => by
    have := h.2 x hx
    have : (10 : Nat) ^ 12 = 1000000000000 := by decide
    omega)).mono (by have := h.length; omega) (Nat.le_refl _)
theorem rel_rev : ∀ {zs : List V} {ws : List Value}, Vals zs ws → Vals zs.reverse ws.reverse
  | _, _, .nil => .nil
  | _, _, .cons h t => by
    rw [List.reverse_cons, List.reverse_cons]
    exact (rel_rev t).append (.cons h .nil)
/-- what stands behind a body of the text -/
theorem passAt0 {X : Cx} {σ : L2.St} {E : XK} : PassesAt CX0 X σ E := fun _ _ _ _ _ _ h => h.elim
/-- what stands of an own error class behind the top -/
structure ExcF (K : PySem.W.Frag) (mg : Str → Option Value) (x : Str) (C : Addr) : Prop where
  g : mg x = some (.ref C)
  x : PySem.W.excIn K C [.type "ValueError", .type "Exception", .type "BaseException", .type "object"] "ValueError.__new__" = true
  k : PySem.W.keepIn K (.ref C) = true
  b : PySem.W.subIn K (.ref C) (.type "BaseException") = some true
  t : PySem.W.typeIn K (.ref C) = some (.type "type")
mutual
theorem dp_ex {K : PySem.W.Frag} {H H' : Hp} (e : Evl.Ex H H') : ∀ (d : PyData) (v : V), Dp K H v d → Dp K H' v d
  | .none, _, h => by cases h; exact .non
  | .bool b, _, h => by cases h; exact .bl b
  | .int i, _, h => by cases h; exact .int i
  | .str x, _, h => by cases h; exact .str x
  | .list ds, _, h => by
    cases h with
    | lst hs ha => exact .lst (Evl.ex_l e hs) (dpAll_ex e ds _ ha)
  | .tuple ds, _, h => by
    cases h with
    | tup hs ha => exact .tup (Evl.ex_t e hs) (dpAll_ex e ds _ ha)
  | .dict _, _, h => by cases h
theorem dpAll_ex {K : PySem.W.Frag} {H H' : Hp} (e : Evl.Ex H H') : ∀ (ds : List PyData) (vs : List V), DpAll K H vs ds → DpAll K H' vs ds
  | [], _, h => by cases h; exact .nil
  | d :: ds, _, h => by
    cases h with
    | cons h1 h2 => exact .cons (dp_ex e d _ h1) (dpAll_ex e ds _ h2)
end
end Ea
set_option Elab.async false
set_option linter.all false
set_option maxRecDepth 100000
set_option maxHeartbeats 400000
/-! sorted of a tuple of ints. -/
namespace Ea
open PySem PySem.Spec PyProof.Rows L2
def rSortedT (K : PySem.W.Frag) : List V → Hp → VK → Prop := fun xs H Q => ∃ (a : Addr) (ns : List Int), xs = [.ref a] ∧ SqT K H a (ns.map V.int) ∧ ns.length < 64 ∧
  ∀ (ys : List Int) (p : Addr), ys.Perm ns → ys.Pairwise (· ≤ ·) → H p = none → Q (.ref p) (upd H p (.lst (ys.map V.int)))
theorem cr_sortedT {X : Cx} {K : PySem.W.Frag} (hK : X.K = K) : CallR X (.builtin "sorted") (rSortedT K) := by
  subst hK
  intro pins s σ H xs us Q I r q
  obtain ⟨a, ns, ex, hd, h64, q⟩ := q
  subst ex
  obtain ⟨u, eu, rx⟩ := vals1 r
  subst eu
  cases rx
  obtain ⟨its, rv, ⟨o, ho, hc, n, hds⟩, hz⟩ := I.tuple hd
  have hal : its.length = ns.length := by rw [← rv.length, List.length_map]
  have hS : IntsAre its ns := rv.ints
  refine Calls.call_function_entry PyProof.Rows.kind_sorted PyProof.Rows.plain_sorted PyProof.Rows.entry_sorted (PyProof.Rows.args_sorted1 _) ?_
  unfold Builtin.«sorted»
  refine wpAny_bind (m := checkCount "sorted" 1 1 _) (wpAny_pure ?_)
  refine wpAny_bind (wpAny_collect_seq a (.inr rfl) ho hc hds (fun h' hk => ?_) (by rw [List.size_toArray, hal, sizeLine_eq]; omega))
  have I1 : Inv X pins σ H { s with heap := h' } := I.kept hk
  refine wpAny_bind (wpAny_newList ?_ (by rw [List.toList_toArray, hal, sizeLine_eq]; omega))
  have hoL : (h'.push (seqObj "list" its.toArray.toList.toArray 0)).get? h'.objs.size = some (seqObj "list" its.toArray.toList.toArray 0) := Heap.get?_push_size _ rfl
  show wpAny _ _ _ _ _ { s with heap := h'.push (seqObj "list" its.toArray.toList.toArray 0) }
  refine wpAny_bind (wpAny_holding (wpAny_call_entry PyProof.Rows.slot_list_sort ⟨_, hoL, rfl⟩ PyProof.Rows.entry_list_sort
    (PyProof.Rows.list_sort_tree (s := { s with heap := h'.push (seqObj "list" its.toArray.toList.toArray 0) }) hoL (by rw [List.toList_toArray]; exact hS) (by rw [List.toList_toArray, hal]; exact h64) fun out ys g1 g2 g3 => ⟨_, rfl, ?_⟩) (PyProof.Rows.args_list_sort _)))
  obtain ⟨e', he'⟩ := PyProof.Rows.sortedHeap_at (vs := its.toArray.toList) (out := out) hoL
  have hlen : (ys.map V.int).length ≤ sizeLine := by
    rw [List.length_map, g2.length_eq]
    exact Nat.le_trans (Nat.le_of_lt h64) (by decide)
  refine wpAny_pure ⟨_, rfl, .ref h'.objs.size, upd H h'.objs.size (.lst (ys.map V.int)), I1.laid (t' := s.toks) (fun b u e => ?_) (Nat.le_refl _)
    (show ObjOk X.prog X.w _ _ _ (.lst (ys.map V.int)) from ⟨hlen, out.toList, e', vals_of_ints g1, by rw [Array.toArray_toList]; exact he'⟩), rfl, q ys _ g2 g3 (I1.hok.fresh (Nat.le_refl _))⟩
  have hb : b < h'.objs.size := Heap.lt_size e
  rw [PyProof.Rows.sortedHeap_old (Nat.ne_of_lt hb) (by rw [size_push']; exact Nat.lt_succ_of_lt hb)]
  exact Heap.get?_push_of_some _ e
theorem rd_sortT {K : PySem.W.Frag} {H : Hp} {Q : VK} {a : Addr} {ns : List Int} (s : SqT K H a (ns.map V.int)) (hz : ns.length < 64)
    (h : ∀ (ms : List Int) (q : Addr), ms.Perm ns → ms.Pairwise (· ≤ ·) → H q = none → Q (.ref q) (upd H q (.lst (ms.map V.int)))) : rSortedT K [.ref a] H Q :=
  ⟨a, ns, rfl, s, hz, h⟩
/-- sorted of what ascends -/
theorem sorted_same {ms ns : List Int} (p : ms.Perm ns) (s : ms.Pairwise (· ≤ ·)) (h : ns.Pairwise (· < ·)) : ms = ns := by
  refine List.Perm.eq_of_pairwise (fun a b _ _ h1 h2 => by omega) s (h.imp fun {a b} q => by omega) p
theorem rd_ite2p {p : Prop} {_ : Decidable p} {te1 te2 : TE} {σ : L2.St} {H : Hp} {Q : VK} (P : V → Hp → Prop) (h1 : p → ∀ Q : VK, (∀ v H', P v H' → Q v H') → te1 σ H Q) (h2 : ¬ p → ∀ Q : VK, (∀ v H', P v H' → Q v H') → te2 σ H Q)
    (h : ∀ v H', P v H' → Q v H') : if decide p = true then te1 σ H Q else te2 σ H Q := by
  by_cases c : p
  · rw [if_pos (decide_eq_true c)]
    exact h1 c Q h
  · rw [if_neg (by rw [decide_eq_true_eq]; exact c)]
    exact h2 c Q h
theorem rd_mulL {H : Hp} {Q : VK} {l : Addr} {k : Int} {xs : List V} (h : H l = some (.lst xs)) (h1 : 0 ≤ k ∧ k < 2 ^ 63) (hz : xs.length * k.toNat ≤ sizeLine) (q : ∀ p, H p = none → Q (.ref p) (upd H p (.lst (List.replicate k.toNat xs).flatten))) : rRep (.ref l) (.int k) H Q :=
  ⟨l, k, xs, rfl, rfl, h, by omega, h1.2, hz, q⟩
theorem rd_andV {ta tb : TE} {σ : L2.St} {H : Hp} {Q : VK} (h : ta σ H fun x H1 => ∃ c, x = .bl c ∧ if c = true then tb σ H1 Q else Q (.bl false) H1) : tAndV ta tb σ H Q := h
theorem rd_orV {ta tb : TE} {σ : L2.St} {H : Hp} {Q : VK} (h : ta σ H fun x H1 => ∃ c, x = .bl c ∧ if c = true then Q (.bl true) H1 else tb σ H1 Q) : tOrV ta tb σ H Q := h
theorem rd_notV {ta : TE} {σ : L2.St} {H : Hp} {Q : VK} (h : ta σ H fun x H1 => ∃ c, x = .bl c ∧ Q (.bl (!c)) H1) : tNotV ta σ H Q := h
theorem rd_bc {b : Bool} {P : Bool → Prop} (h : P b) : ∃ c, V.bl b = V.bl c ∧ P c := ⟨b, rfl, h⟩
/-- if, its ends brought together -/
theorem rd_meet {p : Prop} {_ : Decidable p} {t1 t2 : TS} {D : Ends} {σ : L2.St} {H : Hp} (I : L2.St → Hp → Prop) (h1 : p → ∀ N : L2.St → Hp → Prop, (∀ σ' H', I σ' H' → N σ' H') → t1 { D with nx := N } σ H)
    (h2 : ¬ p → ∀ N : L2.St → Hp → Prop, (∀ σ' H', I σ' H' → N σ' H') → t2 { D with nx := N } σ H) (h : ∀ σ' H', I σ' H' → D.nx σ' H') : if decide p = true then t1 D σ H else t2 D σ H := by
  by_cases c : p
  · rw [if_pos (decide_eq_true c)]
    exact h1 c D.nx h
  · rw [if_neg (by rw [decide_eq_true_eq]; exact c)]
    exact h2 c D.nx h
end Ea
set_option Elab.async false
set_option linter.all false
set_option maxRecDepth 100000
set_option maxHeartbeats 4000000
namespace K13
open PySem PySem.Spec PyProof.Rows L2 Ea
def topS (i : Nat) : Stmt := PySem.Challenge.pw_eachsome_k13_whole_rows_dropped_and_met.main.body.getD i (.Pass ⟨0, 0, 0, 0⟩)
abbrev s_law_draw : Stmt := topS 10
theorem sc_law_draw : FnScope ["deck", "many", "whole", "one", "two"] ["deck", "many"] (defScope s_law_draw) :=
  ⟨rfl, rfl, rfl, by decide +kernel, rfl, by decide +kernel, by decide +kernel⟩
abbrev s_law_pick : Stmt := topS 11
theorem sc_law_pick : FnScope ["deck", "items"] ["deck", "items"] (defScope s_law_pick) :=
  ⟨rfl, rfl, rfl, by decide +kernel, rfl, by decide +kernel, by decide +kernel⟩
abbrev s_law_mixed : Stmt := topS 12
theorem sc_law_mixed : FnScope ["deck", "items", "left", "found"] ["deck", "items"] (defScope s_law_mixed) :=
  ⟨rfl, rfl, rfl, by decide +kernel, rfl, by decide +kernel, by decide +kernel⟩
local macro_rules | `(tactic| walk_at "rd") => `(tactic| first
  | (with_reducible refine rd_seq ?_) | (with_reducible refine rd_asg ?_) | (with_reducible refine rd_if ?_) | (with_reducible refine rd_ret ?_) | (with_reducible refine rd_next ?_)
  | (with_reducible refine rd_drop ?_) | ((with_reducible refine rd_name (σ' := ?ss) ?hs ?_); (case hs => (dsimp only [List.set]; exact rfl)))
  | ((with_reducible refine rd_var (v := ?vv) ?hv ?_); (case hv => exact rfl)) | (with_reducible refine rd_c ?_) | (with_reducible refine rd_op ?_) | (with_reducible refine rd_un ?_)
  | (with_reducible refine rd_I0 ?_) | (with_reducible refine rd_U ?_) | (with_reducible refine rd_test ?_) | (with_reducible refine rd_B ?_) | (with_reducible refine rd_k ?_)
  | (with_reducible refine rd_not ?_) | (with_reducible refine rd_and ?_) | (with_reducible refine rd_or ?_) | (with_reducible refine rd_ifE ?_)
  | (with_reducible refine rd_par ?_) | ((with_reducible refine rd_par2 (σ' := ?ss) ?hs ?_); (case hs => (dsimp only [List.set]; exact rfl)))
  | (with_reducible refine rd_lc ?_) | (with_reducible refine rd_iTup ?_) | (with_reducible refine rd_iList ?_) | (with_reducible refine rd_iRng1 ?_)
  | (with_reducible refine rd_yes ?_) | (with_reducible refine rd_true ?_) | (with_reducible refine rd_false ?_) | (with_reducible refine rd_m1 ?_) | (with_reducible refine rd_isS ?_)
  | ((with_reducible refine rd_eq ?hs ?_); (case hs => exact rfl)) | ((with_reducible refine rd_ne ?hs ?_); (case hs => exact rfl))
  | (with_reducible refine rd_listRg ?_) | (with_reducible refine rd_rg2 ?_) | (with_reducible refine rd_rgk ?_)
  | (with_reducible refine rd_dnew ?_) | (with_reducible refine rd_ddel ?_) | (with_reducible refine rd_kw ?_) | (with_reducible refine rd_callS ?_) | (with_reducible refine rd_dc ?_) | (with_reducible refine rd_for ?_) | (with_reducible refine rd_tru ?_) | (with_reducible refine rd_truI ?_)
  | (with_reducible refine rd_nil ?_) | (with_reducible refine rd_cons ?_) | (with_reducible refine rd_call ?_) | (with_reducible refine rd_cb ?_)
  | (with_reducible refine rd_tup ?_) | (with_reducible refine rd_lst ?_) | (with_reducible refine rd_dget ?_) | (with_reducible refine rd_dput ?_) | (with_reducible refine rd_sl ?_)
  | (with_reducible refine rd_nopart ?_) | (with_reducible refine rd_part ?_) | (with_reducible refine rd_parti ?_) | (with_reducible refine rd_bm ?_) | (with_reducible refine rd_bm0 ?_)
  | (with_reducible refine rd_int ?_) | (with_reducible refine rd_intb ?_) | (with_reducible refine rd_abs ?_) | (with_reducible refine rd_min2 ?_) | (with_reducible refine rd_max2 ?_))
local macro_rules | `(tactic| walk_at "rds") => `(tactic| repeat (walk_at "rd"))

/-- the names of the built-ins that the text does not bind -/
structure Bl (mg : Str → Option Value) : Prop where
  len : mg "len" = none
  abs : mg "abs" = none
  min : mg "min" = none
  max : mg "max" = none
  sorted : mg "sorted" = none
  tuple : mg "tuple" = none
  list : mg "list" = none
  set : mg "set" = none
  int : mg "int" = none
  range : mg "range" = none
  repr : mg "repr" = none
  isinstance : mg "isinstance" = none

/-- how a def stands among the module's names -/
structure Callee (K : PySem.W.Frag) (mg : Str → Option Value) (x : Str) (f : Addr) (fd : FuncData) (ps : List Str) : Prop where
  m : mg x = some (.ref f)
  k : PySem.W.keepIn K (.ref f) = true
  b : Binds K fd ps []
theorem SetFor_erase {as : List Int} {k : Nat} : (some (HO.lst ((as.map V.int).eraseIdx k)) : Option HO) = some (.lst ((as.eraseIdx k).map V.int)) := by
  rw [erase_mapI]
theorem erase_perm {as : List Int} {k : Nat} (h : k < as.length) : as.Perm (as[k] :: as.eraseIdx k) := by
  induction as generalizing k with
  | nil => cases h
  | cons x r ih =>
    cases k with
    | zero => exact List.Perm.refl _
    | succ k =>
      have h' : k < r.length := Nat.lt_of_succ_lt_succ h
      exact ((ih h').cons x).trans (List.Perm.swap _ _ _)
theorem perm_move (as bs : List Int) (x : Int) : (as ++ (bs ++ [x])).Perm ((x :: as) ++ bs) := by
  rw [← List.append_assoc]
  exact (List.perm_append_singleton x (as ++ bs)).trans (List.Perm.refl _)
section
variable {P : Program} {w : World} {K : PySem.W.Frag} {mg : Str → Option Value} {base : Heap}
def spDraw : Sp := fun vs H Q _ => ∃ (d l : Addr) (many : Int), vs = [.ref d, .int many] ∧ DeckB d l H ∧ 1 ≤ many ∧ many ≤ 1000000 ∧
  ∀ (r : Int) (H' : Hp), Go d l H H' → 0 ≤ r → r < many → Q (.int r) H'
theorem ok_draw {f : Addr} {fd : FuncData} (F : Fun K "_law_draw" "_law_draw" s_law_draw f fd) (T : Bl mg) : FnOk P w K mg base CX0 1 f fd ["deck", "many"] spDraw := by
  refine F.ok sc_law_draw (fun vs H Q E h => ?_) (fun cdv A outer s H vs Q E hr h => ?_)
  · obtain ⟨d, l, many, rfl, _⟩ := h
    rfl
  · obtain ⟨d, l, many, rfl, hD, h1, h2, q⟩ := h
    refine ⟨_, (pss_cons (ps_if (pt_cmpR op_lt (pv 1) pe_int (nomark _)) (pss_one (ps_ret pe_int)) pss_nil)
 (pss_cons (ps_if (pt_cmpR (ok_neD (K := K) rfl hr.units) (pe_dget (hu_of hr) (pv 0) pe_str (fun _ _ => rfl)) (pe_lst pa_nil) (nomark _)) (pss_cons (ps_set (i := 2) sc_law_draw.nd rfl (Or.inl rfl) (pe_bm0 PySem.F.plainAttrs_list PySem.F.slot_list_pop PySem.F.type_list_pop mt_pop (pe_dget (hu_of hr) (pv 0) pe_str (fun _ _ => rfl))))
 (pss_cons (ps_if (pt_cmpR op_ge (pv 2) (pv 1) (nomark _)) (pss_one (ps_expr (pe_bm PySem.F.plainAttrs_list PySem.F.slot_list_append PySem.F.type_list_append mt_append (pe_dget (hu_of hr) (pv 0) pe_str (fun _ _ => rfl)) (pa_cons (pe_op op_fdiv (pv 2) (pv 1)) pa_nil)))) pss_nil)
 (pss_one (ps_ret (pe_op op_mod (pe_callTy c_int (by rfl) T.int (by decide +kernel) (pa_cons (pv 2) pa_nil)) (pv 1)))))) pss_nil)
 (pss_cons (ps_set (i := 3) sc_law_draw.nd rfl (Or.inl rfl) (pe_op op_mod (pe_callTy c_int (by rfl) T.int (by decide +kernel) (pa_cons (pe_op op_add (pe_op op_mul (pe_dget (hu_of hr) (pv 0) pe_str (fun _ _ => rfl)) pe_int) pe_int) pa_nil)) pe_int))
 (pss_cons (ps_dput (hu_of hr) (pv 0) pe_str (pv 3) rfl)
 (pss_cons (ps_set (i := 4) sc_law_draw.nd rfl (Or.inl rfl) (pe_op op_mod (pe_callTy c_int (by rfl) T.int (by decide +kernel) (pa_cons (pe_op op_add (pe_op op_add (pe_op op_mul (pv 3) (pv 3)) (pe_op op_mul pe_int (pv 3))) pe_int) pa_nil)) pe_int))
 (pss_one (ps_ret (pe_op op_mod (pe_callTy c_int (by rfl) T.int (by decide +kernel) (pa_cons (pe_op op_fdiv (pv 4) pe_int) pa_nil)) (pv 1))))))))), ?_⟩
    refine rd_start (σ' := [some (.ref d), some (.int many), none, none, none]) rfl ?_
    obtain ⟨ns, s, e1, e2, hl, hp, s0, s1⟩ := id hD
    have hdl := hD.ne
    walk_at "rds"
    refine rd_ite (fun c => ?_) (fun c => ?_)
    · walk_at "rds"
      exact q 0 H (Go.refl hD) (by omega) (by omega)
    walk_at "rds"
    refine ⟨d, .ref l, rfl, deck_deep e1, ?_⟩
    walk_at "rds"
    refine ⟨Nat.zero_le _, fun p hp0 => ?_⟩
    obtain ⟨n1, n2⟩ := hD.off hp0
    have f1 : (upd H p (.lst [])) d = _ := (upd_ne n1.symm).trans e1
    have f2 : (upd H p (.lst [])) l = _ := (upd_ne n2.symm).trans e2
    refine rd_full (SqL.of f2) (dp_ints ns) (shaped_ints ns) (SqL.of upd_same) ?_
    walk_at "rds"
    refine rd_iteb (fun c2 => ?_) (fun c2 => ?_)
    · -- whole = deck["deep"].pop()
      walk_at "rds"
      obtain ⟨m, z, rfl⟩ : ∃ m z, ns = m ++ [z] := by
        rcases List.eq_nil_or_concat ns with rfl | ⟨m, z, rfl⟩
        · cases c2
        · exact ⟨m, z, by simp⟩
      rw [List.map_append] at f2
      have z0 : 0 ≤ z := hp z (List.mem_append_right _ List.mem_cons_self)
      have hm : ∀ n ∈ m, 0 ≤ n := fun n hn => hp n (List.mem_append_left _ hn)
      have hml : m.length + 1 ≤ 63 := by simpa using hl
      refine ⟨d, .ref l, rfl, deck_deep f1, rd_tyL f2 (rd_pop f2 ?_)⟩
      have g1 : (upd (upd H p (.lst [])) l (.lst (m.map V.int))) d = _ := (upd_ne hdl).trans f1
      have g2 : (upd (upd H p (.lst [])) l (.lst (m.map V.int))) l = _ := upd_same
      walk_at "rds"
      refine rd_ite (fun c3 => ?_) (fun c3 => ?_)
      · walk_at "rds"
        refine ⟨d, .ref l, rfl, deck_deep g1, rd_tyL g2 ?_⟩
        walk_at "rds"
        refine rd_I ⟨by omega, by omega⟩ ?_
        walk_at "rds"
        refine rd_append g2 (by rw [List.length_map]; omega) ?_
        walk_at "rds"
        refine rd_I (by omega) ?_
        have hq : 0 ≤ z / many := Int.ediv_nonneg z0 (by omega)
        refine q (z % many) _ ⟨⟨m ++ [z / many], s, (upd_ne hdl).trans g1, ?_, by rw [List.length_append]; exact hml, fun n hn => ?_, s0, s1⟩, fun a o m1 m2 e => ?_⟩ (Int.emod_nonneg _ (by omega)) (Int.emod_lt_of_pos _ (by omega))
        · rw [upd_same, List.map_append] <;> rfl
        · rcases List.mem_append.mp hn with h | h
          · exact hm n h
          · rw [List.mem_singleton.mp h]
            exact hq
        · rw [upd_ne m2, upd_ne m2, upd_ne (ne_of_none e hp0)]
          exact e
      · walk_at "rds"
        refine rd_I (by omega) ?_
        refine q (z % many) _ ⟨⟨m, s, g1, g2, by omega, hm, s0, s1⟩, fun a o m1 m2 e => ?_⟩ (Int.emod_nonneg _ (by omega)) (Int.emod_lt_of_pos _ (by omega))
        rw [upd_ne m2, upd_ne (ne_of_none e hp0)]
        exact e
    · walk_at "rds"
      refine ⟨d, .int s, rfl, deck_state f1, ?_⟩
      walk_at "rds"
      refine rd_I (.inr ⟨by decide, by decide⟩) ?_
      walk_at "rds"
      refine rd_I (by decide) ?_
      walk_at "rds"
      generalize ho : (s * 1181783497276652981 + 88172645463325) % 2305843009213693951 = one
      have o0 : 0 ≤ one := by omega
      have o1 : one < 2305843009213693951 := by omega
      refine ⟨d, _, rfl, deck_put (t := one) f1, ?_⟩
      walk_at "rds"
      refine rd_I (.inl ⟨by omega, by omega⟩) ?_
      walk_at "rds"
      refine rd_I (.inl ⟨by decide, by decide⟩) ?_
      walk_at "rds"
      refine rd_I (by decide) ?_
      walk_at "rds"
      refine rd_I ⟨by decide, by decide⟩ ?_
      walk_at "rds"
      refine rd_I (by omega) ?_
      refine q _ _ ⟨⟨ns, one, upd_same, (upd_ne hdl.symm).trans f2, hl, hp, o0, o1⟩, fun a o m1 m2 e => ?_⟩ (Int.emod_nonneg _ (by omega)) (Int.emod_lt_of_pos _ (by omega))
      rw [upd_ne m1, upd_ne (ne_of_none e hp0)]
      exact e
def spPick : Sp := fun vs H Q _ => ∃ (d l p : Addr) (ys : List V), vs = [.ref d, .ref p] ∧ DeckB d l H ∧ H p = some (.lst ys) ∧ p ≠ l ∧ 1 ≤ ys.length ∧ ys.length ≤ 1000 ∧
  ∀ (y : V) (H' : Hp), Go d l H H' → y ∈ ys → Q y H'
theorem ok_pick {f fD : Addr} {fd fdD : FuncData} (F : Fun K "_law_pick" "_law_pick" s_law_pick f fd) (T : Bl mg)
    (G_law_draw : FnOk P w K mg base CX0 1 fD fdD ["deck", "many"] spDraw) (C_law_draw : Callee K mg "_law_draw" fD fdD ["deck", "many"]) :
    FnOk P w K mg base CX0 2 f fd ["deck", "items"] spPick := by
  refine F.ok sc_law_pick (fun vs H Q E h => ?_) (fun cdv A outer s H vs Q E hr h => ?_)
  · obtain ⟨d, l, p, ys, rfl, _⟩ := h
    rfl
  · obtain ⟨d, l, p, ys, rfl, hD, hp, n2, h1, h2, q⟩ := h
    refine ⟨_, (pss_one (ps_ret (pe_ix (ik_list (K := K) rfl) (pv 1) (pe_call G_law_draw (hr.mono (by decide)) (by rfl) C_law_draw.m C_law_draw.k C_law_draw.b .nil pass0 (pa_cons (pv 0) (pa_cons (pe_callB (c_len (K := K) rfl) (by rfl) T.len (by decide +kernel) (pa_cons (pv 1) pa_nil)) pa_nil))) (fun _ _ => rfl)))), ?_⟩
    refine rd_start (σ' := [some (.ref d), some (.ref p)]) rfl ?_
    have n1 : p ≠ d := by
      obtain ⟨ns, s, e1, _⟩ := hD
      exact ne_of hp e1 nofun
    walk_at "rds"
    refine rd_lenL (SqL.of hp) ?_
    walk_at "rds"
    refine ⟨d, l, _, rfl, hD, by omega, by omega, fun r H1 g r0 r1 => ?_⟩
    have hr1 : r.toNat < ys.length := by omega
    refine rd_ixL (SqL.of (g.kp p _ n1 n2 hp)) (at_nat (k := r.toNat) (by omega) (List.getElem?_eq_getElem hr1)) ?_
    exact q _ _ g (List.getElem_mem hr1)

def spMixed (K : PySem.W.Frag) : Sp := fun vs H Q _ => ∃ (d l p : Addr) (ns : List Int), vs = [.ref d, .ref p] ∧ DeckB d l H ∧ SqL K H p (ns.map V.int) ∧ ns.length ≤ 1000 ∧
  ∀ (q : Addr) (ms : List Int) (H' : Hp), Go d l H H' → H q = none → H' q = some (.lst (ms.map V.int)) → ms.Perm ns → Q (.ref q) H'
theorem ok_mixed {f fD : Addr} {fd fdD : FuncData} (F : Fun K "_law_mixed" "_law_mixed" s_law_mixed f fd) (T : Bl mg)
    (G_law_draw : FnOk P w K mg base CX0 1 fD fdD ["deck", "many"] spDraw) (C_law_draw : Callee K mg "_law_draw" fD fdD ["deck", "many"]) :
    FnOk P w K mg base CX0 2 f fd ["deck", "items"] (spMixed K) := by
  refine F.ok sc_law_mixed (fun vs H Q E h => ?_) (fun cdv A outer s H vs Q E hr h => ?_)
  · obtain ⟨d, l, p, ys, rfl, _⟩ := h
    rfl
  · obtain ⟨d, l, p, ns, rfl, hD, hp, h2, q⟩ := h
    refine ⟨_, (pss_cons (ps_par (i := 2) (j := 3) rfl sc_law_mixed.nd rfl rfl (by decide) rfl rfl (pa_cons (pe_callTy (c_list (K := K) rfl) (by rfl) T.list (by decide +kernel) (pa_cons (pv 1) pa_nil)) (pa_cons (pe_lst pa_nil) pa_nil)) (by rfl))
 (pss_cons (ps_while PassesOwn.never (pt_cmpR (ok_neD (K := K) rfl hr.units) (pv 2) (pe_lst pa_nil) (nomark _)) (pss_one (ps_expr (pe_bm PySem.F.plainAttrs_list PySem.F.slot_list_append PySem.F.type_list_append mt_append (pv 3) (pa_cons (pe_bm PySem.F.plainAttrs_list PySem.F.slot_list_pop PySem.F.type_list_pop mt_popAt (pv 2) (pa_cons (pe_call G_law_draw (hr.mono (by decide)) (by rfl) C_law_draw.m C_law_draw.k C_law_draw.b .nil pass0 (pa_cons (pv 0) (pa_cons (pe_callB (c_len (K := K) rfl) (by rfl) T.len (by decide +kernel) (pa_cons (pv 2) pa_nil)) pa_nil))) pa_nil)) pa_nil)))))
 (pss_one (ps_ret (pv 3))))), ?_⟩
    refine rd_start (σ' := [some (.ref d), some (.ref p), none, none]) rfl ?_
    walk_at "rds"
    refine rd_listL hp fun a na => ?_
    have g1 : Go d l H (upd H a (.lst (ns.map V.int))) := Go.new hD na
    walk_at "rds"
    refine ⟨Nat.zero_le _, fun b nb => ?_⟩
    have nab : a ≠ b := fun e => by
      rw [e, upd_same] at nb
      cases nb
    have nb0 : H b = none := g1.back hD nb
    walk_at "rds"
    refine rd_whileE ⟨fun m σ' H' => ∃ as bs : List Int, σ' = [some (.ref d), some (.ref p), some (.ref a), some (.ref b)] ∧ Go d l H H' ∧
      H' a = some (.lst (as.map V.int)) ∧ H' b = some (.lst (bs.map V.int)) ∧ as.length = m ∧ (as ++ bs).Perm ns,
      ⟨ns.length, ns, [], rfl, g1.trans (Go.new g1.dk nb), (upd_ne nab).trans upd_same, upd_same, rfl, by rw [List.append_nil]⟩, fun m σ' H' hW => ?_⟩
    obtain ⟨as, bs, rfl, g, ea, eb, rfl, pm⟩ := hW
    have hlen : as.length + bs.length = ns.length := by
      rw [← List.length_append]
      exact pm.length_eq
    obtain ⟨ad, al⟩ := hD.off na
    obtain ⟨bd, bl⟩ := hD.off nb0
    walk_at "rds"
    refine ⟨Nat.zero_le _, fun c nc => ?_⟩
    have cx : ∀ {o}, Go d l H' (upd H' c o) := Go.new g.dk nc
    have ea1 : (upd H' c (.lst [])) a = _ := (upd_ne (ne_of_none ea nc)).trans ea
    have eb1 : (upd H' c (.lst [])) b = _ := (upd_ne (ne_of_none eb nc)).trans eb
    refine rd_full (SqL.of ea1) (dp_ints as) (shaped_ints as) (SqL.of upd_same) ?_
    walk_at "rds"
    refine rd_iteb (fun c2 => ?_) (fun c2 => ?_)
    · refine ⟨fun σ2 H2 => ∃ (as2 bs2 : List Int), σ2 = [some (.ref d), some (.ref p), some (.ref a), some (.ref b)] ∧ Go d l H H2 ∧
        H2 a = some (.lst (as2.map V.int)) ∧ H2 b = some (.lst (bs2.map V.int)) ∧ as2.length + 1 = as.length ∧ (as2 ++ bs2).Perm ns, fun σ2 H2 h => ?_, ?_⟩
      · obtain ⟨as2, bs2, e1, e2, e3, e4, e5, e6⟩ := h
        exact ⟨as2.length, by omega, as2, bs2, e1, e2, e3, e4, rfl, e6⟩
      · walk_at "rds"
        refine rd_tyL eb1 ?_
        walk_at "rds"
        refine rd_tyL ea1 ?_
        walk_at "rds"
        refine rd_lenL (SqL.of ea1) ?_
        walk_at "rds"
        have hpos : 1 ≤ as.length := by
          cases as with
          | nil => cases c2
          | cons x r => exact Nat.succ_le_succ (Nat.zero_le _)
        refine ⟨d, l, _, rfl, cx.dk, by rw [List.length_map]; omega, by rw [List.length_map]; omega, fun r H1 g2 r0 r1 => ?_⟩
        rw [List.length_map] at r1
        have hr1 : r.toNat < as.length := by omega
        have ea2 : H1 a = _ := g2.kp a _ ad al ea1
        have eb2 : H1 b = _ := g2.kp b _ bd bl eb1
        walk_at "rds"
        refine rd_popAt (i := r) (k := r.toNat) (y := .int as[r.toNat]) ea2 (by omega) (by rw [List.getElem?_map, List.getElem?_eq_getElem hr1]; rfl) (by rw [List.length_map]; omega) ?_
        walk_at "rds"
        have nba : b ≠ a := nab.symm
        refine rd_append ((upd_ne nba).trans eb2) (by rw [List.length_map]; omega) ?_
        walk_at "rds"
        refine ⟨as.eraseIdx r.toNat, bs ++ [as[r.toNat]], rfl, ?_, ?_, ?_, ?_, ?_⟩
        · exact Go.mut (Go.mut (g.trans (cx.trans g2)) hD na) hD nb0
        · rw [upd_ne nab, upd_same, SetFor_erase]
        · rw [upd_same, List.map_append] <;> rfl
        · rw [List.length_eraseIdx_of_lt hr1]
          omega
        · refine List.Perm.trans ?_ pm
          have e : as.Perm (as[r.toNat] :: as.eraseIdx r.toNat) := erase_perm hr1
          exact (perm_move _ _ _).trans (e.symm.append_right bs)
    · have e0 : as = [] := by
        cases as with
        | nil => rfl
        | cons x r => cases c2
      subst e0
      walk_at "rds"
      exact q b bs _ (g.trans cx) nb0 eb1 pm
end
end K13
set_option Elab.async false
set_option linter.all false
set_option maxRecDepth 100000
set_option maxHeartbeats 4000000
namespace K13
open PySem PySem.Spec PyProof.Rows L2 Ea
abbrev s_law_owners : Stmt := topS 13
theorem sc_law_owners : FnScope ["deck", "n", "sort", "cut", "letter"] ["deck", "n"] (defScope s_law_owners) :=
  ⟨rfl, rfl, rfl, by decide +kernel, rfl, by decide +kernel, by decide +kernel⟩
local macro_rules | `(tactic| walk_at "rd") => `(tactic| first
  | (with_reducible refine rd_seq ?_) | (with_reducible refine rd_asg ?_) | (with_reducible refine rd_if ?_) | (with_reducible refine rd_ret ?_) | (with_reducible refine rd_next ?_)
  | (with_reducible refine rd_drop ?_) | ((with_reducible refine rd_name (σ' := ?ss) ?hs ?_); (case hs => (dsimp only [List.set]; exact rfl)))
  | ((with_reducible refine rd_var (v := ?vv) ?hv ?_); (case hv => exact rfl)) | (with_reducible refine rd_c ?_) | (with_reducible refine rd_op ?_) | (with_reducible refine rd_un ?_)
  | (with_reducible refine rd_I0 ?_) | (with_reducible refine rd_U ?_) | (with_reducible refine rd_test ?_) | (with_reducible refine rd_B ?_) | (with_reducible refine rd_k ?_)
  | (with_reducible refine rd_not ?_) | (with_reducible refine rd_and ?_) | (with_reducible refine rd_or ?_) | (with_reducible refine rd_ifE ?_)
  | (with_reducible refine rd_par ?_) | ((with_reducible refine rd_par2 (σ' := ?ss) ?hs ?_); (case hs => (dsimp only [List.set]; exact rfl)))
  | (with_reducible refine rd_lc ?_) | (with_reducible refine rd_iTup ?_) | (with_reducible refine rd_iList ?_) | (with_reducible refine rd_iRng1 ?_)
  | (with_reducible refine rd_yes ?_) | (with_reducible refine rd_true ?_) | (with_reducible refine rd_false ?_) | (with_reducible refine rd_m1 ?_) | (with_reducible refine rd_isS ?_)
  | ((with_reducible refine rd_eq ?hs ?_); (case hs => exact rfl)) | ((with_reducible refine rd_ne ?hs ?_); (case hs => exact rfl))
  | (with_reducible refine rd_listRg ?_) | (with_reducible refine rd_rg2 ?_) | (with_reducible refine rd_rgk ?_)
  | (with_reducible refine rd_dnew ?_) | (with_reducible refine rd_ddel ?_) | (with_reducible refine rd_kw ?_) | (with_reducible refine rd_callS ?_) | (with_reducible refine rd_dc ?_) | (with_reducible refine rd_for ?_) | (with_reducible refine rd_tru ?_) | (with_reducible refine rd_truI ?_)
  | (with_reducible refine rd_nil ?_) | (with_reducible refine rd_cons ?_) | (with_reducible refine rd_call ?_) | (with_reducible refine rd_cb ?_)
  | (with_reducible refine rd_tup ?_) | (with_reducible refine rd_lst ?_) | (with_reducible refine rd_dget ?_) | (with_reducible refine rd_dput ?_) | (with_reducible refine rd_sl ?_)
  | (with_reducible refine rd_nopart ?_) | (with_reducible refine rd_part ?_) | (with_reducible refine rd_parti ?_) | (with_reducible refine rd_bm ?_) | (with_reducible refine rd_bm0 ?_)
  | (with_reducible refine rd_int ?_) | (with_reducible refine rd_intb ?_) | (with_reducible refine rd_abs ?_) | (with_reducible refine rd_min2 ?_) | (with_reducible refine rd_max2 ?_))
local macro_rules | `(tactic| walk_at "rds") => `(tactic| repeat (walk_at "rd"))

section
variable {P : Program} {w : World} {K : PySem.W.Frag} {mg : Str → Option Value} {base : Heap}
def spOwners : Sp := fun vs H Q _ => ∃ (d l : Addr) (n : Int), vs = [.ref d, .int n] ∧ DeckB d l H ∧ 0 ≤ n ∧ n ≤ 60 ∧
  ∀ (z : Str) (H' : Hp), Go d l H H' → OwnS n.toNat z → Q (.str z) H'
theorem ok_owners {f fD fP : Addr} {fd fdD fdP : FuncData} (F : Fun K "_law_owners" "_law_owners" s_law_owners f fd) (T : Bl mg)
    (G_law_draw : FnOk P w K mg base CX0 1 fD fdD ["deck", "many"] spDraw) (C_law_draw : Callee K mg "_law_draw" fD fdD ["deck", "many"])
    (G_law_pick : FnOk P w K mg base CX0 2 fP fdP ["deck", "items"] spPick) (C_law_pick : Callee K mg "_law_pick" fP fdP ["deck", "items"]) :
    FnOk P w K mg base CX0 3 f fd ["deck", "n"] spOwners := by
  refine F.ok sc_law_owners (fun vs H Q E h => ?_) (fun cdv A outer s H vs Q E hr h => ?_)
  · obtain ⟨d, l, n, rfl, _⟩ := h
    rfl
  · obtain ⟨d, l, n, rfl, hD, h0, h1, q⟩ := h
    refine ⟨_, (pss_cons (ps_set (i := 2) sc_law_owners.nd rfl (Or.inl rfl) (pe_call G_law_draw (hr.mono (by decide)) (by rfl) C_law_draw.m C_law_draw.k C_law_draw.b .nil pass0 (pa_cons (pv 0) (pa_cons pe_int pa_nil))))
 (pss_cons (ps_if (pt_cmpR op_lt (pv 2) pe_int (nomark _)) (pss_one (ps_ret (pe_op op_mulS (pe_ix ix_str pe_str (pv 2) (fun _ _ => rfl)) (pv 1)))) pss_nil)
 (pss_cons (ps_if (pt_cmpR (ok_in (K := K) rfl) (pv 2) (pe_tup (pa_cons pe_int (pa_cons pe_int pa_nil))) (by rfl)) (pss_one (ps_ret (pe_slice sl_str (pe_ifExp (pt_cmpR op_eq (pv 2) pe_int (nomark _)) (pe_op op_mulS pe_str (pv 1)) (pe_op op_mulS pe_str (pv 1))) po_none (po_some (pv 1))))) pss_nil)
 (pss_cons (ps_if (pt_cmpR op_eq (pv 2) pe_int (nomark _)) (pss_cons (ps_set (i := 3) sc_law_owners.nd rfl (Or.inl rfl) (pe_call G_law_draw (hr.mono (by decide)) (by rfl) C_law_draw.m C_law_draw.k C_law_draw.b .nil pass0 (pa_cons (pv 0) (pa_cons (pe_op op_add (pv 1) pe_int) pa_nil))))
 (pss_one (ps_ret (pe_call G_law_pick (hr.mono (by decide)) (by rfl) C_law_pick.m C_law_pick.k C_law_pick.b .nil pass0 (pa_cons (pv 0) (pa_cons (pe_lst (pa_cons (pe_op op_addSt (pe_op op_mulS pe_str (pv 3)) (pe_op op_mulS pe_str (pe_op op_sub (pv 1) (pv 3)))) (pa_cons (pe_op op_addSt (pe_op op_mulS pe_str (pv 3)) (pe_op op_mulS pe_str (pe_op op_sub (pv 1) (pv 3)))) pa_nil))) pa_nil)))))) pss_nil)
 (pss_one (ps_ret (pe_joinN pe_str (pe_lc (own := [("letter", 4)]) (g := gName 4) rfl sc_law_owners.nd (pi_range1 (by rfl) T.range (pa_cons (pv 1) pa_nil)) (blkOk_by (own := [("letter", 4)]) (N := ["deck", "n", "sort", "cut", "letter"]) (sc := defScope s_law_owners) (by decide +kernel)) (fun _ _ _ _ _ => (pg_name (i := 4) sc_law_owners.nd rfl (Or.inl rfl))) (fun _ _ _ _ _ => pts_nil) (fun _ _ _ _ _ => (pe_call G_law_pick (hr.mono (by decide)) (by rfl) C_law_pick.m C_law_pick.k C_law_pick.b .nil pass0 (pa_cons (pv 0) (pa_cons (pe_lst (pa_cons pe_str (pa_cons pe_str pa_nil))) pa_nil)))))))))))), ?_⟩
    refine rd_start (σ' := [some (.ref d), some (.int n), none, none, none]) rfl ?_
    have own : ∀ {z : Str} {H' : Hp}, Go d l H H' → OwnS (n.toNat * 1) z → Q (.str z) H' := fun g h => q _ _ g (by rw [Nat.mul_one] at h; exact h)
    walk_at "rds"
    refine ⟨d, l, _, rfl, hD, by omega, by omega, fun r H1 g1 r0 r1 => ?_⟩
    walk_at "rds"
    refine rd_ite (fun c => ?_) (fun c => ?_)
    · walk_at "rds"
      have hr : r = 0 ∨ r = 1 := by omega
      rcases hr with rfl | rfl
      · refine rd_ixS (c := 101) (by decide) rfl ?_
        walk_at "rds"
        exact rd_mulS h0 (by omega) (by decide) (by decide) (own g1 (own_rep own_e h0))
      · refine rd_ixS (c := 115) (by decide) rfl ?_
        walk_at "rds"
        exact rd_mulS h0 (by omega) (by decide) (by decide) (own g1 (own_rep own_s h0))
    walk_at "rds"
    refine ⟨by decide, fun p hp => ?_⟩
    have g2 := g1.trans (Go.new (o := .tup [.int 2, .int 3]) g1.dk hp)
    refine rd_inT (ns := [2, 3]) (SqT.of upd_same) ?_
    walk_at "rds"
    refine rd_ite (fun c2 => ?_) (fun c2 => ?_)
    · walk_at "rds"
      have cut : ∀ {z : Str}, OwnS 2 z → OwnS n.toNat (cutS (repS z n) none (some n)) := fun h => by
        have z := own_cut (n := n.toNat) (own_rep h h0) (by omega)
        rw [Int.toNat_of_nonneg h0] at z
        exact z
      have len : ∀ {z : Str}, OwnS 2 z → (repS z n).length ≤ sizeLine := fun h => by
        rw [(own_rep h h0).1, sizeLine_eq]
        omega
      refine rd_ite (fun c3 => ?_) (fun c3 => ?_)
      · walk_at "rds"
        refine rd_mulS h0 (by omega) (by decide) (by decide) ?_
        walk_at "rds"
        exact rd_slS (len ⟨rfl, by decide⟩) (q _ _ g2 (cut ⟨rfl, by decide⟩))
      · walk_at "rds"
        refine rd_mulS h0 (by omega) (by decide) (by decide) ?_
        walk_at "rds"
        exact rd_slS (len ⟨rfl, by decide⟩) (q _ _ g2 (cut ⟨rfl, by decide⟩))
    walk_at "rds"
    refine rd_ite (fun c3 => ?_) (fun c3 => ?_)
    · walk_at "rds"
      refine ⟨d, l, _, rfl, g2.dk, by omega, by omega, fun k H3 g3 k0 k1 => ?_⟩
      walk_at "rds"
      refine rd_mulS k0 (by omega) (by decide) (by decide) ?_
      walk_at "rds"
      refine rd_mulS (by omega) (by omega) (by decide) (by decide) ?_
      have oe := own_rep own_e k0
      have os := own_rep own_s (n := n - k) (by omega)
      have oe' := own_rep own_e (n := n - k) (by omega)
      have os' := own_rep own_s k0
      have sum : k.toNat * 1 + (n - k).toNat * 1 = n.toNat * 1 := by omega
      refine rd_addSt (by rw [oe.1, os.1, sizeLine_eq]; omega) ?_
      walk_at "rds"
      refine rd_mulS k0 (by omega) (by decide) (by decide) ?_
      walk_at "rds"
      refine rd_mulS (by omega) (by omega) (by decide) (by decide) ?_
      refine rd_addSt (by rw [os'.1, oe'.1, sizeLine_eq]; omega) ?_
      walk_at "rds"
      refine ⟨(by show 2 ≤ sizeLine; decide), fun b hb => ?_⟩
      have g4 := (g2.trans g3).trans (Go.new (o := .lst [V.str (repS "e" k ++ repS "s" (n - k)), V.str (repS "s" k ++ repS "e" (n - k))]) g3.dk hb)
      refine ⟨d, l, b, _, rfl, g4.dk, upd_same, (g3.dk.off hb).2, (by show 1 ≤ 2; decide), (by show 2 ≤ 1000; decide), fun y H5 g5 hy => ?_⟩
      rcases List.mem_cons.mp hy with rfl | hy
      · exact own (g4.trans g5) (sum ▸ own_add oe os)
      · rw [List.mem_singleton.mp hy]
        exact own (g4.trans g5) (sum ▸ own_add os' oe')
    · walk_at "rds"
      refine rd_rng1 (by omega) (by omega) ?_
      refine lc_goR (fun i acc => ∃ ys : List Str, acc = ys.map V.str ∧ ys.length = i ∧ ∀ y ∈ ys, OwnS 1 y) (σx := fun x => [some (.ref d), some (.int n), some (.int r), none, some x])
        g2.dk (by omega) (fun _ => rfl) (fun _ => rfl) ⟨[], rfl, rfl, nofun⟩ (fun i hi acc H3 N S g3 hP kN kS => ?_) fun D acc H3 g3 eD hacc hP => ?_
      · obtain ⟨ys, rfl, rfl, hy⟩ := hP
        walk_at "rds"
        refine ⟨by decide, fun b hb => ?_⟩
        have g4 := Go.new (o := .lst [V.str "e", V.str "s"]) g3.dk hb
        refine ⟨d, l, b, _, rfl, g4.dk, upd_same, (g3.dk.off hb).2, by decide, by decide, fun y H5 g5 hy5 => ?_⟩
        obtain ⟨z, rfl, hz⟩ : ∃ z : Str, y = .str z ∧ OwnS 1 z := by
          rcases List.mem_cons.mp hy5 with rfl | hy5
          · exact ⟨_, rfl, own_e⟩
          · rw [List.mem_singleton.mp hy5]
            exact ⟨_, rfl, own_s⟩
        refine kN _ _ (g4.trans g5) ⟨ys ++ [z], by rw [List.map_append] <;> rfl, by rw [List.length_append] <;> rfl, fun y hy' => ?_⟩
        rcases List.mem_append.mp hy' with h | h
        · exact hy y h
        · rw [List.mem_singleton.mp h]
          exact hz
      · obtain ⟨ys, rfl, e, hy⟩ := hP
        refine rd_join (SqL.of hacc) ?_ (own (g2.trans g3) ?_)
        · have z : ("" : Str).length = 0 := rfl
          rw [own_sum hy, z]
          omega
        · have z := own_join hy
          rw [e] at z
          rw [Nat.mul_one]
          exact z
end
end K13
set_option Elab.async false
set_option linter.all false
set_option maxRecDepth 100000
set_option maxHeartbeats 4000000
namespace K13
open PySem PySem.Spec PyProof.Rows L2 Ea
abbrev s_law_clause : Stmt := topS 14
theorem sc_law_clause : FnScope ["deck", "n", "most", "many", "letters", "letter"] ["deck", "n", "most"] (defScope s_law_clause) :=
  ⟨rfl, rfl, rfl, by decide +kernel, rfl, by decide +kernel, by decide +kernel⟩
local macro_rules | `(tactic| walk_at "rd") => `(tactic| first
  | (with_reducible refine rd_seq ?_) | (with_reducible refine rd_asg ?_) | (with_reducible refine rd_if ?_) | (with_reducible refine rd_ret ?_) | (with_reducible refine rd_next ?_)
  | (with_reducible refine rd_drop ?_) | ((with_reducible refine rd_name (σ' := ?ss) ?hs ?_); (case hs => (dsimp only [List.set]; exact rfl)))
  | ((with_reducible refine rd_var (v := ?vv) ?hv ?_); (case hv => exact rfl)) | (with_reducible refine rd_c ?_) | (with_reducible refine rd_op ?_) | (with_reducible refine rd_un ?_)
  | (with_reducible refine rd_I0 ?_) | (with_reducible refine rd_U ?_) | (with_reducible refine rd_test ?_) | (with_reducible refine rd_B ?_) | (with_reducible refine rd_k ?_)
  | (with_reducible refine rd_not ?_) | (with_reducible refine rd_and ?_) | (with_reducible refine rd_or ?_) | (with_reducible refine rd_ifE ?_)
  | (with_reducible refine rd_par ?_) | ((with_reducible refine rd_par2 (σ' := ?ss) ?hs ?_); (case hs => (dsimp only [List.set]; exact rfl)))
  | (with_reducible refine rd_lc ?_) | (with_reducible refine rd_iTup ?_) | (with_reducible refine rd_iList ?_) | (with_reducible refine rd_iRng1 ?_)
  | (with_reducible refine rd_yes ?_) | (with_reducible refine rd_true ?_) | (with_reducible refine rd_false ?_) | (with_reducible refine rd_m1 ?_) | (with_reducible refine rd_isS ?_)
  | ((with_reducible refine rd_eq ?hs ?_); (case hs => exact rfl)) | ((with_reducible refine rd_ne ?hs ?_); (case hs => exact rfl))
  | (with_reducible refine rd_listRg ?_) | (with_reducible refine rd_rg2 ?_) | (with_reducible refine rd_rgk ?_)
  | (with_reducible refine rd_dnew ?_) | (with_reducible refine rd_ddel ?_) | (with_reducible refine rd_kw ?_) | (with_reducible refine rd_callS ?_) | (with_reducible refine rd_dc ?_) | (with_reducible refine rd_for ?_) | (with_reducible refine rd_tru ?_) | (with_reducible refine rd_truI ?_)
  | (with_reducible refine rd_nil ?_) | (with_reducible refine rd_cons ?_) | (with_reducible refine rd_call ?_) | (with_reducible refine rd_cb ?_)
  | (with_reducible refine rd_tup ?_) | (with_reducible refine rd_lst ?_) | (with_reducible refine rd_dget ?_) | (with_reducible refine rd_dput ?_) | (with_reducible refine rd_sl ?_)
  | (with_reducible refine rd_nopart ?_) | (with_reducible refine rd_part ?_) | (with_reducible refine rd_parti ?_) | (with_reducible refine rd_bm ?_) | (with_reducible refine rd_bm0 ?_)
  | (with_reducible refine rd_int ?_) | (with_reducible refine rd_intb ?_) | (with_reducible refine rd_abs ?_) | (with_reducible refine rd_min2 ?_) | (with_reducible refine rd_max2 ?_))
local macro_rules | `(tactic| walk_at "rds") => `(tactic| repeat (walk_at "rd"))

section
variable {P : Program} {w : World} {K : PySem.W.Frag} {mg : Str → Option Value} {base : Heap}
def spClause (K : PySem.W.Frag) : Sp := fun vs H Q _ => ∃ (d l : Addr) (n most : Int), vs = [.ref d, .int n, .int most] ∧ DeckB d l H ∧ 0 ≤ n ∧ n ≤ 60 ∧ 0 ≤ most ∧ most ≤ 60 ∧
  ∀ (a : Addr) (ns : List Int) (H' : Hp), Go d l H H' → Row n.toNat ns → SqT K H' a (ns.map V.int) → Q (.ref a) H'
theorem ok_clause {f fD fP fM : Addr} {fd fdD fdP fdM : FuncData} (F : Fun K "_law_clause" "_law_clause" s_law_clause f fd) (T : Bl mg)
    (G_law_draw : FnOk P w K mg base CX0 1 fD fdD ["deck", "many"] spDraw) (C_law_draw : Callee K mg "_law_draw" fD fdD ["deck", "many"])
    (G_law_pick : FnOk P w K mg base CX0 2 fP fdP ["deck", "items"] spPick) (C_law_pick : Callee K mg "_law_pick" fP fdP ["deck", "items"])
    (G_law_mixed : FnOk P w K mg base CX0 2 fM fdM ["deck", "items"] (spMixed K)) (C_law_mixed : Callee K mg "_law_mixed" fM fdM ["deck", "items"]) :
    FnOk P w K mg base CX0 3 f fd ["deck", "n", "most"] (spClause K) := by
  refine F.ok sc_law_clause (fun vs H Q E h => ?_) (fun cdv A outer s H vs Q E hr h => ?_)
  · obtain ⟨d, l, n, m, rfl, _⟩ := h
    rfl
  · obtain ⟨d, l, n, most, rfl, hD, h0, h1, m0, m1, q⟩ := h
    refine ⟨_, (pss_cons (ps_set (i := 3) sc_law_clause.nd rfl (Or.inl rfl) (pe_callB (c_min2 rfl) (by rfl) T.min (by decide +kernel) (pa_cons (pv 1) (pa_cons (pe_call G_law_pick (hr.mono (by decide)) (by rfl) C_law_pick.m C_law_pick.k C_law_pick.b .nil pass0 (pa_cons (pv 0) (pa_cons (pe_lst (pa_cons (pe_call G_law_draw (hr.mono (by decide)) (by rfl) C_law_draw.m C_law_draw.k C_law_draw.b .nil pass0 (pa_cons (pv 0) (pa_cons (pe_op op_add (pv 2) pe_int) pa_nil))) (pa_cons pe_int (pa_cons (pe_callB (c_min2 rfl) (by rfl) T.min (by decide +kernel) (pa_cons pe_int (pa_cons (pv 2) pa_nil))) (pa_cons (pv 2) pa_nil))))) pa_nil))) pa_nil))))
 (pss_cons (ps_set (i := 4) sc_law_clause.nd rfl (Or.inl rfl) (pe_callB (c_sorted (K := K) rfl) (by rfl) T.sorted (by decide +kernel) (pa_cons (pe_slice (sk_list (K := K) rfl) (pe_call G_law_mixed (hr.mono (by decide)) (by rfl) C_law_mixed.m C_law_mixed.k C_law_mixed.b .nil pass0 (pa_cons (pv 0) (pa_cons (pe_listRg rfl (by rfl) T.list (prg_2 (by rfl) T.range pe_int (pe_op op_add (pv 1) pe_int))) pa_nil))) po_none (po_some (pv 3))) pa_nil)))
 (pss_one (ps_ret (pe_callTy (c_tuple (K := K) rfl) (by rfl) T.tuple (by decide +kernel) (pa_cons (pe_lc (own := [("letter", 5)]) (g := gName 5) rfl sc_law_clause.nd (ik_listI (K := K) rfl (pv 4)) (blkOk_by (own := [("letter", 5)]) (N := ["deck", "n", "most", "many", "letters", "letter"]) (sc := defScope s_law_clause) (by decide +kernel)) (fun _ _ _ _ _ => (pg_name (i := 5) sc_law_clause.nd rfl (Or.inl rfl))) (fun _ _ _ _ _ => pts_nil) (fun _ _ _ _ _ => (pe_op op_mul (pv 5) (pe_call G_law_pick (hr.mono (by decide)) (by rfl) C_law_pick.m C_law_pick.k C_law_pick.b .nil pass0 (pa_cons (pv 0) (pa_cons (pe_lst (pa_cons pe_int (pa_cons (pe_un un_neg pe_int) pa_nil))) pa_nil)))))) pa_nil)))))), ?_⟩
    refine rd_start (σ' := [some (.ref d), some (.int n), some (.int most), none, none, none]) rfl ?_
    walk_at "rds"
    refine ⟨d, l, _, rfl, hD, by omega, by omega, fun r H1 g1 r0 r1 => ?_⟩
    walk_at "rds"
    refine ⟨(by show 4 ≤ sizeLine; decide), fun b hb => ?_⟩
    generalize e2 : (if most < 2 then most else 2) = m2
    have g2 := g1.trans (Go.new (o := .lst [V.int r, V.int 2, V.int m2, V.int most]) g1.dk hb)
    refine ⟨d, l, b, _, rfl, g2.dk, upd_same, (g1.dk.off hb).2, (by show 1 ≤ 4; decide), (by show 4 ≤ 1000; decide), fun y H3 g3 hy => ?_⟩
    obtain ⟨k, rfl, k0⟩ : ∃ k : Int, y = .int k ∧ 0 ≤ k := by
      have hm2 : 0 ≤ m2 := by
        rw [← e2]
        split <;> omega
      simp only [List.mem_cons, List.not_mem_nil, or_false] at hy
      rcases hy with rfl | rfl | rfl | rfl
      · exact ⟨_, rfl, by omega⟩
      · exact ⟨_, rfl, by omega⟩
      · exact ⟨_, rfl, hm2⟩
      · exact ⟨_, rfl, m0⟩
    have g3' := g2.trans g3
    walk_at "rds"
    generalize e3 : (if k < n then k else n) = many
    have hmany : 0 ≤ many := by
      rw [← e3]
      split <;> omega
    walk_at "rds"
    refine ⟨RgOk.of_le (by omega) (by omega) (by omega) (by omega), fun c hc => ?_⟩
    rw [rgV_ints]
    have g4 := g3'.trans (Go.new (o := .lst ((rgI 1 (n + 1)).map V.int)) g3'.dk hc)
    walk_at "rds"
    refine ⟨d, l, c, rgI 1 (n + 1), rfl, g4.dk, SqL.of upd_same, by rw [rgI_length]; omega, fun e ms H5 g5 he hms pm => ?_⟩
    have g5' := g4.trans g5
    walk_at "rds"
    refine rd_slL (SqL.of hms) fun u hu => ?_
    rw [cut_take hmany, ← List.map_take]
    have g6 := g5'.trans (Go.new (o := .lst ((ms.take many.toNat).map V.int)) g5'.dk hu)
    walk_at "rds"
    refine rd_sorted (SqL.of upd_same) fun ls v pl so hv => ?_
    have g7 := g6.trans (Go.new (o := .lst (ls.map V.int)) g6.dk hv)
    have hls : ∀ x ∈ ls, 1 ≤ x ∧ x ≤ (n.toNat : Int) := fun x hx => by
      have z := rgI_mem.mp (pm.mem_iff.mp (List.mem_of_mem_take (pl.mem_iff.mp hx)))
      omega
    have hnd : ls.Nodup := pl.nodup_iff.mpr ((pm.nodup_iff.mpr (nodup_of_lt (rgI_lt 1 (n + 1)))).sublist (List.take_sublist _ _))
    have hrow : Row n.toNat ls := Row.of_letters (lt_of_sorted so hnd) hls
    have hlen := hrow.length
    walk_at "rds"
    obtain ⟨vd, vl⟩ := g6.dk.off hv
    refine rd_refL (SqL.of upd_same) ?_
    refine lc_goL (xs := ls.map V.int) (fun i acc => ∃ ts : List Int, acc = ts.map V.int ∧ ts.map Int.natAbs = (ls.take i).map Int.natAbs)
      (σx := fun x => [some (.ref d), some (.int n), some (.int most), some (.int many), some (.ref v), some x])
      g7.dk (fun H' g => SqL.of (g.kp v _ vd vl upd_same)) (by rw [List.length_map]; omega) (fun _ => rfl) (fun _ => rfl) ⟨[], rfl, rfl⟩ (fun i x hx acc H8 N S g8 hP kN kS => ?_) fun D acc H8 g8 eD hacc hP => ?_
    · obtain ⟨ts, rfl, et⟩ := hP
      rw [List.getElem?_map] at hx
      obtain ⟨t, ht, rfl⟩ := Option.map_eq_some_iff.mp hx
      walk_at "rds"
      refine ⟨(by show 2 ≤ sizeLine; decide), fun b hb => ?_⟩
      have g9 := Go.new (o := .lst [V.int 1, V.int (-1)]) g8.dk hb
      refine ⟨d, l, b, _, rfl, g9.dk, upd_same, (g8.dk.off hb).2, (by show 1 ≤ 2; decide), (by show 2 ≤ 1000; decide), fun y H9 ga hy => ?_⟩
      obtain ⟨u1, rfl, hu1⟩ : ∃ u1 : Int, y = .int u1 ∧ (u1 = 1 ∨ u1 = -1) := by
        simp only [List.mem_cons, List.not_mem_nil, or_false] at hy
        rcases hy with rfl | rfl
        · exact ⟨_, rfl, .inl rfl⟩
        · exact ⟨_, rfl, .inr rfl⟩
      refine rd_I (.inr ⟨by omega, by omega⟩) ?_
      refine kN _ _ (g9.trans ga) ⟨ts ++ [t * u1], by rw [List.map_append] <;> rfl, ?_⟩
      rw [List.take_add_one, ht, List.map_append, List.map_append, et]
      have : (t * u1).natAbs = t.natAbs := by
        rcases hu1 with rfl | rfl
        · rw [Int.mul_one]
        · omega
      show _ ++ [(t * u1).natAbs] = _ ++ [t.natAbs]
      rw [this]
    · obtain ⟨ts, rfl, et⟩ := hP
      rw [List.length_map, List.take_of_length_le (Nat.le_refl _)] at et
      walk_at "rds"
      refine rd_tupL (SqL.of hacc) fun z hz => ?_
      exact q z ts _ ((g7.trans g8).trans (Go.new g8.dk hz)) (hrow.abs et) (SqT.of upd_same)
end
end K13
set_option Elab.async false
set_option linter.all false
set_option maxRecDepth 100000
set_option maxHeartbeats 4000000
namespace K13
open PySem PySem.Spec PyProof.Rows L2 Ea
abbrev s_law_short : Stmt := topS 15
theorem sc_law_short : FnScope ["owners", "side", "row", "holder", "last", "literal"] ["owners", "side", "row"] (defScope s_law_short) :=
  ⟨rfl, rfl, rfl, by decide +kernel, rfl, by decide +kernel, by decide +kernel⟩
abbrev s_law_against : Stmt := topS 16
theorem sc_law_against : FnScope ["one", "other", "literal"] ["one", "other"] (defScope s_law_against) :=
  ⟨rfl, rfl, rfl, by decide +kernel, rfl, by decide +kernel, by decide +kernel⟩
abbrev s_law_taken : Stmt := topS 18
theorem sc_law_taken : FnScope ["owners", "side", "row", "found"] ["owners", "side", "row"] (defScope s_law_taken) :=
  ⟨rfl, rfl, rfl, by decide +kernel, rfl, by decide +kernel, by decide +kernel⟩
abbrev sdropped : Stmt := topS 5
theorem scdropped : FnScope ["owners", "side", "row", "kept"] ["owners", "side", "row"] (defScope sdropped) :=
  ⟨rfl, rfl, rfl, by decide +kernel, rfl, by decide +kernel, by decide +kernel⟩
abbrev sclashes : Stmt := topS 6
theorem scclashes : FnScope ["one", "other", "literals", "literal"] ["one", "other"] (defScope sclashes) :=
  ⟨rfl, rfl, rfl, by decide +kernel, rfl, by decide +kernel, by decide +kernel⟩
local macro_rules | `(tactic| walk_at "rd") => `(tactic| first
  | (with_reducible refine rd_seq ?_) | (with_reducible refine rd_asg ?_) | (with_reducible refine rd_if ?_) | (with_reducible refine rd_ret ?_) | (with_reducible refine rd_next ?_)
  | (with_reducible refine rd_drop ?_) | ((with_reducible refine rd_name (σ' := ?ss) ?hs ?_); (case hs => (dsimp only [List.set]; exact rfl)))
  | ((with_reducible refine rd_var (v := ?vv) ?hv ?_); (case hv => exact rfl)) | (with_reducible refine rd_c ?_) | (with_reducible refine rd_op ?_) | (with_reducible refine rd_un ?_)
  | (with_reducible refine rd_I0 ?_) | (with_reducible refine rd_U ?_) | (with_reducible refine rd_test ?_) | (with_reducible refine rd_B ?_) | (with_reducible refine rd_k ?_)
  | (with_reducible refine rd_not ?_) | (with_reducible refine rd_and ?_) | (with_reducible refine rd_or ?_) | (with_reducible refine rd_ifE ?_)
  | (with_reducible refine rd_par ?_) | ((with_reducible refine rd_par2 (σ' := ?ss) ?hs ?_); (case hs => (dsimp only [List.set]; exact rfl)))
  | (with_reducible refine rd_lc ?_) | (with_reducible refine rd_iTup ?_) | (with_reducible refine rd_iList ?_) | (with_reducible refine rd_iRng1 ?_)
  | (with_reducible refine rd_yes ?_) | (with_reducible refine rd_true ?_) | (with_reducible refine rd_false ?_) | (with_reducible refine rd_m1 ?_) | (with_reducible refine rd_isS ?_)
  | ((with_reducible refine rd_eq ?hs ?_); (case hs => exact rfl)) | ((with_reducible refine rd_ne ?hs ?_); (case hs => exact rfl))
  | (with_reducible refine rd_listRg ?_) | (with_reducible refine rd_rg2 ?_) | (with_reducible refine rd_rgk ?_)
  | (with_reducible refine rd_dnew ?_) | (with_reducible refine rd_ddel ?_) | (with_reducible refine rd_kw ?_) | (with_reducible refine rd_callS ?_) | (with_reducible refine rd_dc ?_) | (with_reducible refine rd_for ?_) | (with_reducible refine rd_tru ?_) | (with_reducible refine rd_truI ?_)
  | (with_reducible refine rd_nil ?_) | (with_reducible refine rd_cons ?_) | (with_reducible refine rd_call ?_) | (with_reducible refine rd_cb ?_)
  | (with_reducible refine rd_tup ?_) | (with_reducible refine rd_lst ?_) | (with_reducible refine rd_dget ?_) | (with_reducible refine rd_dput ?_) | (with_reducible refine rd_sl ?_)
  | (with_reducible refine rd_nopart ?_) | (with_reducible refine rd_part ?_) | (with_reducible refine rd_parti ?_) | (with_reducible refine rd_bm ?_) | (with_reducible refine rd_bm0 ?_)
  | (with_reducible refine rd_int ?_) | (with_reducible refine rd_intb ?_) | (with_reducible refine rd_abs ?_) | (with_reducible refine rd_min2 ?_) | (with_reducible refine rd_max2 ?_))
local macro_rules | `(tactic| walk_at "rds") => `(tactic| repeat (walk_at "rd"))

structure Hol (K : PySem.W.Frag) (w : World) (mg : Str → Option Value) (hd : Addr) : Prop where
  m : mg "HOLDERS" = some (.ref hd)
  n : KDct K w hd "no" (.str "e")
  y : KDct K w hd "yes" (.str "s")
def hold (sd : Str) : Str := if sd = "no" then "e" else "s"
section
variable {P : Program} {w : World} {K : PySem.W.Frag} {mg : Str → Option Value} {base : Heap}
/-- owners, a side, a row: told the row without the holder's literals at its end -/
def spDropped (K : PySem.W.Frag) : Sp := fun vs H Q _ => ∃ (z sd : Str) (a : Addr) (n : Nat) (ns : List Int), vs = [.str z, .str sd, .ref a] ∧ OwnS n z ∧ n ≤ 60 ∧ (sd = "no" ∨ sd = "yes") ∧ Row n ns ∧ SqT K H a (ns.map V.int) ∧
  ∀ (q : Addr) (H' : Hp), Evl.Ex H H' → SqT K H' q ((dropTail (heldBy z (hold sd)) ns).map V.int) → Q (.ref q) H'
theorem ok_short {f : Addr} {fd : FuncData} (F : Fun K "_law_short" "_law_short" s_law_short f fd) (T : Bl mg) : FnOk P w K mg base CX0 1 f fd ["owners", "side", "row"] (spDropped K) := by
  refine F.ok sc_law_short (fun vs H Q E h => ?_) (fun cdv A outer s H vs Q E hr h => ?_)
  · obtain ⟨z, sd, a, n, ns, rfl, _⟩ := h
    rfl
  · obtain ⟨z, sd, a, n, ns, rfl, hz, hn, hsd, hrow, ht, q⟩ := h
    have hl := hrow.length
    have hzl : z.length ≤ sizeLine := by rw [hz.1, sizeLine_eq]; omega
    refine ⟨_, (pss_cons (ps_set (i := 3) sc_law_short.nd rfl (Or.inr rfl) (pe_ifExp (pt_cmpR op_eq (pv 1) pe_str (nomark _)) pe_str pe_str))
 (pss_cons (ps_set (i := 4) sc_law_short.nd rfl (Or.inr rfl) (pe_callB (c_max (K := K) rfl rfl) (by rfl) T.max (by decide +kernel) (pa_cons (pe_op op_cat (pe_lc (own := [("literal", 5)]) (g := gName 5) rfl sc_law_short.nd (ik_tupI (K := K) rfl (pv 2)) (blkOk_by (own := [("literal", 5)]) (N := ["owners", "side", "row", "holder", "last", "literal"]) (sc := defScope s_law_short) (by decide +kernel)) (fun _ _ _ _ _ => (pg_name (i := 5) sc_law_short.nd rfl (Or.inl rfl))) (fun _ _ _ _ _ => (pts_one (pt_cmpR op_ne (pe_ix ix_str (pv 0) (pe_op op_sub (pe_callB c_abs (by rfl) T.abs (by decide +kernel) (pa_cons (pv 5) pa_nil)) pe_int) (fun _ _ => rfl)) (pv 3) (nomark _)))) (fun _ _ _ _ _ => (pe_callB c_abs (by rfl) T.abs (by decide +kernel) (pa_cons (pv 5) pa_nil)))) (pe_lst (pa_cons pe_int pa_nil))) pa_nil)))
 (pss_one (ps_ret (pe_callTy (c_tuple (K := K) rfl) (by rfl) T.tuple (by decide +kernel) (pa_cons (pe_lc (own := [("literal", 5)]) (g := gName 5) rfl sc_law_short.nd (ik_tupI (K := K) rfl (pv 2)) (blkOk_by (own := [("literal", 5)]) (N := ["owners", "side", "row", "holder", "last", "literal"]) (sc := defScope s_law_short) (by decide +kernel)) (fun _ _ _ _ _ => (pg_name (i := 5) sc_law_short.nd rfl (Or.inl rfl))) (fun _ _ _ _ _ => (pts_one (PW.pt (pw_or (pt_cmpR op_ne (pe_ix ix_str (pv 0) (pe_op op_sub (pe_callB c_abs (by rfl) T.abs (by decide +kernel) (pa_cons (pv 5) pa_nil)) pe_int) (fun _ _ => rfl)) (pv 3) (nomark _)) (pw_or1 (pt_cmpR op_lt (pe_callB c_abs (by rfl) T.abs (by decide +kernel) (pa_cons (pv 5) pa_nil)) (pv 4) (nomark _))))))) (fun _ _ _ _ _ => (pv 5))) pa_nil)))))), ?_⟩
    refine rd_start (σ' := [some (.str z), some (.str sd), some (.ref a), none, none, none]) rfl ?_
    walk_at "rds"
    have hol : ∀ {u : Str}, u = hold sd → V.str u = V.str (hold sd) := fun e => by rw [e]
    refine rd_iteC (x := .str (hold sd)) (fun c => hol ?_) (fun c => hol ?_) ?_
    · have c := V.str.inj c
      subst c
      rfl
    · have c : ¬ sd = "no" := fun e => c (by rw [e])
      unfold hold
      rw [if_neg c]
    walk_at "rds"
    refine rd_ref ht ?_
    refine lc_fmT (fun x => !heldBy z (hold sd) x) (fun x => .int (x.natAbs : Int)) (σx := fun x => [some (.str z), some (.str sd), some (.ref a), some (.str (hold sd)), none, some x])
      ht (by omega) (fun _ => rfl) (fun _ => rfl) (fun x hx H' N S ex kN kS => ?_) fun D H1 e1 eD hD => ?_
    · have hb := hrow.2 x hx
      walk_at "rds"
      refine rd_ixS hzl (at_sgn hz hb.1 hb.2) ?_
      walk_at "rds"
      refine rd_iteb (fun c => ?_) (fun c => ?_)
      · walk_at "rds"
        exact kN c _ (Evl.Ex.refl _)
      · exact kS c _ (Evl.Ex.refl _)
    walk_at "rds"
    refine ⟨(by show 1 ≤ sizeLine; decide), fun b hb => ?_⟩
    have hDb : D ≠ b := ne_of_none hD hb
    have hfl : ((ns.filter fun x => !heldBy z (hold sd) x).map fun x => V.int (x.natAbs : Int)).length ≤ 60 := by
      rw [List.length_map]
      have := List.length_filter_le (fun x => !heldBy z (hold sd) x) ns
      omega
    refine rd_catL ((upd_ne hDb).trans hD) upd_same (by show _ + 1 ≤ sizeLine; rw [sizeLine_eq]; omega) fun c hc => ?_
    walk_at "rds"
    have e2 : Evl.Ex H (upd (upd H1 b (.lst [V.int 0])) c (.lst (((ns.filter fun x => !heldBy z (hold sd) x).map fun x => V.int (x.natAbs : Int)) ++ [V.int 0]))) := (e1.trans (Evl.Ex.new hb)).trans (Evl.Ex.new hc)
    have el : (((ns.filter fun x => !heldBy z (hold sd) x).map fun x => V.int (x.natAbs : Int)) ++ [V.int 0]) = (lastOf (heldBy z (hold sd)) ns ++ [0]).map V.int := by
      unfold lastOf
      rw [List.map_append, List.map_map]
      rfl
    refine rd_maxL (m := lastOf (heldBy z (hold sd)) ns ++ [0]) (SqL.of (by rw [upd_same, el])) (by rw [List.length_append]; exact Nat.succ_pos _) fun m hm hb => ?_
    walk_at "rds"
    refine rd_ref (Evl.ex_t e2 ht) ?_
    refine lc_fmT (fun x => !heldBy z (hold sd) x || decide ((x.natAbs : Int) < m)) V.int (σx := fun x => [some (.str z), some (.str sd), some (.ref a), some (.str (hold sd)), some (.int m), some x])
      (Evl.ex_t e2 ht) (by omega) (fun _ => rfl) (fun _ => rfl) (fun x hx H' N S ex kN kS => ?_) fun D2 H3 e3 eD2 hD2 => ?_
    · have hb := hrow.2 x hx
      walk_at "rds"
      refine rd_ixS hzl (at_sgn hz hb.1 hb.2) ?_
      walk_at "rds"
      refine rd_iteb (fun c => ?_) (fun c => ?_)
      · walk_at "rds"
        exact kN (bor_l c) _ (Evl.Ex.refl _)
      · have c' : (!heldBy z (hold sd) x) = false := c
        walk_at "rds"
        refine rd_iteb (fun c2 => ?_) (fun c2 => ?_)
        · walk_at "rds"
          exact kN (bor_r c2) _ (Evl.Ex.refl _)
        · exact kS (bor_f c' c2) _ (Evl.Ex.refl _)
    walk_at "rds"
    refine rd_tupL (SqL.of hD2) fun u hu => ?_
    rw [short_eq hrow hm hb]
    exact q u _ ((e2.trans e3).trans (Evl.Ex.new hu)) (SqT.of upd_same)

/-- two rows: told the letters in which they clash -/
def spAgainst (K : PySem.W.Frag) : Sp := fun vs H Q _ => ∃ (a b : Addr) (xs ys : List Int), vs = [.ref a, .ref b] ∧ SqT K H a (xs.map V.int) ∧ SqT K H b (ys.map V.int) ∧ xs.length ≤ 1000 ∧ ys.length ≤ 1000 ∧
  ∀ (q : Addr) (H' : Hp), Evl.Ex H H' → SqT K H' q ((against xs ys).map V.int) → Q (.ref q) H'
theorem ok_against {f : Addr} {fd : FuncData} (F : Fun K "_law_against" "_law_against" s_law_against f fd) (T : Bl mg) : FnOk P w K mg base CX0 1 f fd ["one", "other"] (spAgainst K) := by
  refine F.ok sc_law_against (fun vs H Q E h => ?_) (fun cdv A outer s H vs Q E hr h => ?_)
  · obtain ⟨a, b, xs, ys, rfl, _⟩ := h
    rfl
  · obtain ⟨a, b, xs, ys, rfl, ha, hb, hx, hy, q⟩ := h
    refine ⟨_, (pss_one (ps_ret (pe_callTy (c_tuple (K := K) rfl) (by rfl) T.tuple (by decide +kernel) (pa_cons (pe_lc (own := [("literal", 2)]) (g := gName 2) rfl sc_law_against.nd (ik_tupI (K := K) rfl (pv 0)) (blkOk_by (own := [("literal", 2)]) (N := ["one", "other", "literal"]) (sc := defScope s_law_against) (by decide +kernel)) (fun _ _ _ _ _ => (pg_name (i := 2) sc_law_against.nd rfl (Or.inl rfl))) (fun _ _ _ _ _ => (pts_one (pt_cmpR (ok_in (K := K) rfl) (pe_un un_neg (pv 2)) (pv 1) (by rfl)))) (fun _ _ _ _ _ => (pe_callB c_abs (by rfl) T.abs (by decide +kernel) (pa_cons (pv 2) pa_nil)))) pa_nil)))), ?_⟩
    refine rd_start (σ' := [some (.ref a), some (.ref b), none]) rfl ?_
    walk_at "rds"
    refine rd_ref ha ?_
    refine lc_fmT (fun x => decide (-x ∈ ys)) (fun x => .int (x.natAbs : Int)) (σx := fun x => [some (.ref a), some (.ref b), some x])
      ha (by omega) (fun _ => rfl) (fun _ => rfl) (fun x hx H' N S ex kN kS => ?_) fun D H1 e1 eD hD => ?_
    · walk_at "rds"
      refine rd_inT (Evl.ex_t ex hb) ?_
      walk_at "rds"
      refine rd_iteb (fun c => ?_) (fun c => ?_)
      · walk_at "rds"
        exact kN c _ (Evl.Ex.refl _)
      · exact kS c _ (Evl.Ex.refl _)
    walk_at "rds"
    refine rd_tupL (SqL.of hD) fun u hu => ?_
    refine q u _ (e1.trans (Evl.Ex.new hu)) (SqT.of ?_)
    rw [upd_same]
    unfold against
    rw [List.map_map]
    rfl
theorem ok_clashes {f : Addr} {fd : FuncData} (F : Fun K "clashes" "clashes" sclashes f fd) (T : Bl mg) : FnOk P w K mg base CX0 1 f fd ["one", "other"] (spAgainst K) := by
  refine F.ok scclashes (fun vs H Q E h => ?_) (fun cdv A outer s H vs Q E hr h => ?_)
  · obtain ⟨a, b, xs, ys, rfl, _⟩ := h
    rfl
  · obtain ⟨a, b, xs, ys, rfl, ha, hb, hx, hy, q⟩ := h
    refine ⟨_, (pss_cons (ps_set (i := 2) scclashes.nd rfl (Or.inr rfl) (pe_callTy (c_set (K := K) (w := w) rfl rfl rfl) (by rfl) T.set (by decide +kernel) (pa_cons (pv 1) pa_nil)))
 (pss_one (ps_ret (pe_callTy (c_tuple (K := K) rfl) (by rfl) T.tuple (by decide +kernel) (pa_cons (pe_lc (own := [("literal", 3)]) (g := gName 3) rfl scclashes.nd (ik_tupI (K := K) rfl (pv 0)) (blkOk_by (own := [("literal", 3)]) (N := ["one", "other", "literals", "literal"]) (sc := defScope sclashes) (by decide +kernel)) (fun _ _ _ _ _ => (pg_name (i := 3) scclashes.nd rfl (Or.inl rfl))) (fun _ _ _ _ _ => (pts_one (pt_cmpR (ok_sin (w := w) rfl) (pe_un un_neg (pv 3)) (pv 2) (by rfl)))) (fun _ _ _ _ _ => (pe_callB c_abs (by rfl) T.abs (by decide +kernel) (pa_cons (pv 3) pa_nil)))) pa_nil))))), ?_⟩
    refine rd_start (σ' := [some (.ref a), some (.ref b), none, none]) rfl ?_
    walk_at "rds"
    refine ⟨b, ys, rfl, hb, hy, fun p c hp hc => ?_⟩
    have e0 : Evl.Ex H (upd H p (SetO w p (fun j => decide (j ∈ ys)) c)) := Evl.Ex.new hp
    walk_at "rds"
    refine rd_ref (Evl.ex_t e0 ha) ?_
    refine lc_fmT (fun x => decide (-x ∈ ys)) (fun x => .int (x.natAbs : Int)) (σx := fun x => [some (.ref a), some (.ref b), some (.ref p), some x])
      (Evl.ex_t e0 ha) (by omega) (fun _ => rfl) (fun _ => rfl) (fun x hx H' N S ex kN kS => ?_) fun D H1 e1 eD hD => ?_
    · walk_at "rds"
      refine ⟨-x, p, _, _, rfl, rfl, ex _ _ upd_same, ?_⟩
      walk_at "rds"
      refine rd_iteb (fun c => ?_) (fun c => ?_)
      · walk_at "rds"
        exact kN c _ (Evl.Ex.refl _)
      · exact kS c _ (Evl.Ex.refl _)
    walk_at "rds"
    refine rd_tupL (SqL.of hD) fun u hu => ?_
    refine q u _ ((e0.trans e1).trans (Evl.Ex.new hu)) (SqT.of ?_)
    rw [upd_same]
    unfold against
    rw [List.map_map]
    rfl
/-- the row from which what the holder holds at the end is popped -/
theorem ok_taken {f : Addr} {fd : FuncData} (F : Fun K "_law_taken" "_law_taken" s_law_taken f fd) (T : Bl mg) : FnOk P w K mg base CX0 1 f fd ["owners", "side", "row"] (spDropped K) := by
  refine F.ok sc_law_taken (fun vs H Q E h => ?_) (fun cdv A outer s H vs Q E hr h => ?_)
  · obtain ⟨z, sd, a, n, ns, rfl, _⟩ := h
    rfl
  · obtain ⟨z, sd, a, n, ns, rfl, hz, hn, hsd, hrow, ht, q⟩ := h
    have hl := hrow.length
    have hzl : z.length ≤ sizeLine := by rw [hz.1, sizeLine_eq]; omega
    refine ⟨_, (pss_cons (ps_set (i := 3) sc_law_taken.nd rfl (Or.inl rfl) (pe_callTy (c_list (K := K) rfl) (by rfl) T.list (by decide +kernel) (pa_cons (pv 2) pa_nil)))
 (pss_cons (ps_while PassesOwn.never (PW.pt (pw_and (pt_cmpR (ok_neD (K := K) rfl hr.units) (pv 3) (pe_lst pa_nil) (nomark _)) (pw_and1 (pt_cmpR op_eq (pe_ix ix_str (pv 0) (pe_op op_sub (pe_callB c_abs (by rfl) T.abs (by decide +kernel) (pa_cons (pe_ix (ik_list (K := K) rfl) (pv 3) (pe_un un_neg pe_int) (fun _ _ => rfl)) pa_nil)) pe_int) (fun _ _ => rfl)) (pe_ifExp (pt_cmpR op_eq (pv 1) pe_str (nomark _)) pe_str pe_str) (nomark _))))) (pss_one (ps_expr (pe_bm0 PySem.F.plainAttrs_list PySem.F.slot_list_pop PySem.F.type_list_pop mt_pop (pv 3)))))
 (pss_one (ps_ret (pe_callTy (c_tuple (K := K) rfl) (by rfl) T.tuple (by decide +kernel) (pa_cons (pv 3) pa_nil)))))), ?_⟩
    refine rd_start (σ' := [some (.str z), some (.str sd), some (.ref a), none]) rfl ?_
    walk_at "rds"
    refine rd_listT ht fun p hp => ?_
    walk_at "rds"
    refine rd_whileE ⟨fun m σ' H' => ∃ k : Nat, σ' = [some (.str z), some (.str sd), some (.ref a), some (.ref p)] ∧ Evl.Ex H H' ∧ k ≤ ns.length ∧ m = k ∧
      H' p = some (.lst ((ns.take k).map V.int)) ∧ dropTail (heldBy z (hold sd)) (ns.take k) = dropTail (heldBy z (hold sd)) ns,
      ⟨ns.length, ns.length, rfl, Evl.Ex.new hp, Nat.le_refl _, rfl, by rw [upd_same, List.take_of_length_le (Nat.le_refl _)], by rw [List.take_of_length_le (Nat.le_refl _)]⟩, fun m σ' H' hW => ?_⟩
    obtain ⟨k, rfl, ex, hk, rfl, ep, ed⟩ := hW
    have done : ∀ H2, Evl.Ex H' H2 → dropTail (heldBy z (hold sd)) (ns.take m) = ns.take m →
        tRet (tCB (rTupOf K) (tCons (tVar 3) tNil)) { nx := fun _ H' => Q .non H', rt := Q } [some (.str z), some (.str sd), some (.ref a), some (.ref p)] H2 := fun H2 e2 hd => by
      walk_at "rds"
      refine rd_tupL (SqL.of (e2 _ _ ep)) fun u hu => ?_
      rw [← hd, ed]
      exact q u _ ((ex.trans e2).trans (Evl.Ex.new hu)) (SqT.of upd_same)
    walk_at "rds"
    refine ⟨Nat.zero_le _, fun c hc => ?_⟩
    have e1 : Evl.Ex H' (upd H' c (.lst [])) := Evl.Ex.new hc
    refine rd_full (SqL.of (e1 _ _ ep)) (dp_ints _) (shaped_ints _) (SqL.of upd_same) ?_
    walk_at "rds"
    refine rd_iteb (fun c2 => ?_) (fun c2 => ?_)
    · obtain ⟨k, rfl⟩ : ∃ k, m = k + 1 := by
        cases m with
        | zero => cases c2
        | succ k => exact ⟨k, rfl⟩
      have hk1 : k < ns.length := hk
      have et := take_snoc hk1
      have hb := hrow.2 ns[k] (List.getElem_mem hk1)
      walk_at "rds"
      refine rd_ixL (x := .int ns[k]) (SqL.of (e1 _ _ ep)) (by rw [et, List.map_append]; exact atI_last _ _) ?_
      walk_at "rds"
      refine rd_ixS hzl (at_sgn hz hb.1 hb.2) ?_
      walk_at "rds"
      have hol : ∀ {u : Str}, u = hold sd → V.str u = V.str (hold sd) := fun e => by rw [e]
      refine rd_iteC (x := .str (hold sd)) (fun c => hol ?_) (fun c => hol ?_) ?_
      · have c := V.str.inj c
        subst c
        rfl
      · have c : ¬ sd = "no" := fun e => c (by rw [e])
        unfold hold
        rw [if_neg c]
      walk_at "rds"
      refine rd_iteb (fun c3 => ?_) (fun c3 => ?_)
      · have c3 : heldBy z (hold sd) ns[k] = true := c3
        refine ⟨fun σ2 H2 => σ2 = [some (.str z), some (.str sd), some (.ref a), some (.ref p)] ∧ Evl.Ex H H2 ∧ H2 p = some (.lst ((ns.take k).map V.int)), fun σ2 H2 h => ?_, ?_⟩
        · obtain ⟨h1, h2, h3⟩ := h
          exact ⟨k, Nat.lt_succ_self _, k, h1, h2, Nat.le_of_lt hk1, rfl, h3, by rw [← ed, et, dropTail_snoc_pos c3]⟩
        · walk_at "rds"
          have ep2 := e1 _ _ ep
          rw [et, List.map_append] at ep2
          refine rd_tyL ep2 (rd_pop ep2 ?_)
          exact ⟨rfl, Evl.Ex.mut (ex.trans e1) hp, upd_same⟩
      · have c3 : heldBy z (hold sd) ns[k] = false := c3
        refine done _ e1 ?_
        rw [et, dropTail_snoc_neg c3]
    · have e0 : m = 0 := by
        cases hm : ns.take m with
        | nil =>
          cases ns with
          | nil => simpa using hk
          | cons x r =>
            cases m with
            | zero => rfl
            | succ m => cases hm
        | cons x r =>
          rw [hm] at c2
          cases c2
      subst e0
      exact done _ e1 rfl
/-- the program's own -/
theorem ok_dropped {f hd : Addr} {fd : FuncData} (F : Fun K "dropped" "dropped" sdropped f fd) (T : Bl mg) (hH : Hol K w mg hd) : FnOk P w K mg base CX0 1 f fd ["owners", "side", "row"] (spDropped K) := by
  refine F.ok scdropped (fun vs H Q E h => ?_) (fun cdv A outer s H vs Q E hr h => ?_)
  · obtain ⟨z, sd, a, n, ns, rfl, _⟩ := h
    rfl
  · obtain ⟨z, sd, a, n, ns, rfl, hz, hn, hsd, hrow, ht, q⟩ := h
    have hl := hrow.length
    have hzl : z.length ≤ sizeLine := by rw [hz.1, sizeLine_eq]; omega
    have hkd : KDct K w hd sd (.str (hold sd)) := by
      rcases hsd with rfl | rfl
      · exact hH.n
      · exact hH.y
    refine ⟨_, (pss_cons (ps_set (i := 3) scdropped.nd rfl (Or.inl rfl) (pe_callB (c_len (K := K) rfl) (by rfl) T.len (by decide +kernel) (pa_cons (pv 2) pa_nil)))
 (pss_cons (ps_while PassesOwn.never (PW.pt (pw_and (pk_truth (K := K) rfl (pv 3) (by intro _; rfl)) (pw_and1 (pt_cmpR op_eq (pe_ix ix_str (pv 0) (pe_op op_sub (pe_callB c_abs (by rfl) T.abs (by decide +kernel) (pa_cons (pe_ix (ik_tup (K := K) rfl) (pv 2) (pe_op op_sub (pv 3) pe_int) (fun _ _ => rfl)) pa_nil)) pe_int) (fun _ _ => rfl)) (pe_ix (ik_dict (K := K) (w := w) rfl rfl) (pe_glob (v := .ref hd) (by rfl) hH.m rfl) (pv 1) (fun _ _ => rfl)) (nomark _))))) (pss_one (ps_aug (i := 3) scdropped.nd rfl (Or.inl rfl) pe_int ip_sub)))
 (pss_one (ps_ret (pe_slice (sk_tup (K := K) rfl) (pv 2) po_none (po_some (pv 3))))))), ?_⟩
    refine rd_start (σ' := [some (.str z), some (.str sd), some (.ref a), none]) rfl ?_
    walk_at "rds"
    refine rd_lenT ht ?_
    walk_at "rds"
    rw [List.length_map]
    refine rd_whileE ⟨fun m σ' H' => ∃ k : Nat, σ' = [some (.str z), some (.str sd), some (.ref a), some (.int (k : Int))] ∧ H' = H ∧ k ≤ ns.length ∧ m = k ∧
      dropTail (heldBy z (hold sd)) (ns.take k) = dropTail (heldBy z (hold sd)) ns,
      ⟨ns.length, ns.length, rfl, rfl, Nat.le_refl _, rfl, by rw [List.take_of_length_le (Nat.le_refl _)]⟩, fun m σ' H' hW => ?_⟩
    obtain ⟨k, rfl, rfl, hk, rfl, ed⟩ := hW
    have done : dropTail (heldBy z (hold sd)) (ns.take m) = ns.take m →
        tRet (tSl (rSlA K) (tVar 2) tNoPart (tPart (tVar 3))) { nx := fun _ H' => Q .non H', rt := Q } [some (.str z), some (.str sd), some (.ref a), some (.int (m : Int))] H' := fun hd => by
      walk_at "rds"
      refine rd_slT ht fun u H2 e2 h2 => ?_
      rw [cut_take (by omega), ← List.map_take, Int.toNat_natCast, ← hd, ed] at h2
      exact q u _ e2 h2
    walk_at "rds"
    refine rd_iteb (fun c => ?_) (fun c => ?_)
    · obtain ⟨k, rfl⟩ : ∃ k, m = k + 1 := by
        cases m with
        | zero => cases c
        | succ k => exact ⟨k, rfl⟩
      have hk1 : k < ns.length := hk
      have et := take_snoc hk1
      have hb := hrow.2 ns[k] (List.getElem_mem hk1)
      walk_at "rds"
      refine rd_ixT (x := .int ns[k]) ht (at_nat (k := k) (by omega) (by rw [List.getElem?_map, List.getElem?_eq_getElem hk1]; rfl)) ?_
      walk_at "rds"
      refine rd_ixS hzl (at_sgn hz hb.1 hb.2) ?_
      walk_at "rds"
      refine ⟨hd, sd, _, rfl, rfl, hkd, ?_⟩
      walk_at "rds"
      refine rd_iteb (fun c3 => ?_) (fun c3 => ?_)
      · have c3 : heldBy z (hold sd) ns[k] = true := c3
        refine ⟨fun σ2 H2 => σ2 = [some (.str z), some (.str sd), some (.ref a), some (.int (k : Int))] ∧ H2 = H', fun σ2 H2 h => ?_, ?_⟩
        · obtain ⟨h1, h2⟩ := h
          exact ⟨k, Nat.lt_succ_self _, k, h1, h2, Nat.le_of_lt hk1, rfl, by rw [← ed, et, dropTail_snoc_pos c3]⟩
        · refine ⟨_, rfl, _, _, rfl, rfl, ?_, rfl⟩
          show [some (V.str z), some (V.str sd), some (V.ref a), some (V.int (((k + 1 : Nat) : Int) - 1))] = _
          rw [show ((k + 1 : Nat) : Int) - 1 = (k : Int) by omega]
      · have c3 : heldBy z (hold sd) ns[k] = false := c3
        exact done (by rw [et, dropTail_snoc_neg c3])
    · have e0 : m = 0 := by
        cases m with
        | zero => rfl
        | succ k => cases c
      subst e0
      exact done rfl
end
end K13
set_option Elab.async false
set_option linter.all false
set_option maxRecDepth 100000
set_option maxHeartbeats 400000
namespace K13
open PySem PySem.Spec PyProof.Rows L2 Ea
abbrev s_law_joined : Stmt := topS 17
theorem sc_law_joined : FnScope ["one", "other", "gone", "signs", "literal", "letter"] ["one", "other"] (defScope s_law_joined) :=
  ⟨rfl, rfl, rfl, by decide +kernel, rfl, by decide +kernel, by decide +kernel⟩
abbrev smet : Stmt := topS 7
theorem scmet : FnScope ["one", "other", "letters", "by_letter", "literal", "letter"] ["one", "other"] (defScope smet) :=
  ⟨rfl, rfl, rfl, by decide +kernel, rfl, by decide +kernel, by decide +kernel⟩
local macro_rules | `(tactic| walk_at "rd") => `(tactic| first
  | (with_reducible refine rd_seq ?_) | (with_reducible refine rd_asg ?_) | (with_reducible refine rd_if ?_) | (with_reducible refine rd_ret ?_) | (with_reducible refine rd_next ?_)
  | (with_reducible refine rd_drop ?_) | ((with_reducible refine rd_name (σ' := ?ss) ?hs ?_); (case hs => (dsimp only [List.set]; exact rfl)))
  | ((with_reducible refine rd_var (v := ?vv) ?hv ?_); (case hv => exact rfl)) | (with_reducible refine rd_c ?_) | (with_reducible refine rd_op ?_) | (with_reducible refine rd_un ?_)
  | (with_reducible refine rd_I0 ?_) | (with_reducible refine rd_U ?_) | (with_reducible refine rd_test ?_) | (with_reducible refine rd_B ?_) | (with_reducible refine rd_k ?_)
  | (with_reducible refine rd_not ?_) | (with_reducible refine rd_and ?_) | (with_reducible refine rd_or ?_) | (with_reducible refine rd_ifE ?_)
  | (with_reducible refine rd_par ?_) | ((with_reducible refine rd_par2 (σ' := ?ss) ?hs ?_); (case hs => (dsimp only [List.set]; exact rfl)))
  | (with_reducible refine rd_lc ?_) | (with_reducible refine rd_iTup ?_) | (with_reducible refine rd_iList ?_) | (with_reducible refine rd_iRng1 ?_)
  | (with_reducible refine rd_yes ?_) | (with_reducible refine rd_true ?_) | (with_reducible refine rd_false ?_) | (with_reducible refine rd_m1 ?_) | (with_reducible refine rd_isS ?_)
  | ((with_reducible refine rd_eq ?hs ?_); (case hs => exact rfl)) | ((with_reducible refine rd_ne ?hs ?_); (case hs => exact rfl))
  | (with_reducible refine rd_listRg ?_) | (with_reducible refine rd_rg2 ?_) | (with_reducible refine rd_rgk ?_)
  | (with_reducible refine rd_dnew ?_) | (with_reducible refine rd_ddel ?_) | (with_reducible refine rd_kw ?_) | (with_reducible refine rd_callS ?_) | (with_reducible refine rd_dc ?_) | (with_reducible refine rd_for ?_) | (with_reducible refine rd_tru ?_) | (with_reducible refine rd_truI ?_)
  | (with_reducible refine rd_nil ?_) | (with_reducible refine rd_cons ?_) | (with_reducible refine rd_call ?_) | (with_reducible refine rd_cb ?_)
  | (with_reducible refine rd_tup ?_) | (with_reducible refine rd_lst ?_) | (with_reducible refine rd_dget ?_) | (with_reducible refine rd_dput ?_) | (with_reducible refine rd_sl ?_)
  | (with_reducible refine rd_nopart ?_) | (with_reducible refine rd_part ?_) | (with_reducible refine rd_parti ?_) | (with_reducible refine rd_bm ?_) | (with_reducible refine rd_bm0 ?_)
  | (with_reducible refine rd_int ?_) | (with_reducible refine rd_intb ?_) | (with_reducible refine rd_abs ?_) | (with_reducible refine rd_min2 ?_) | (with_reducible refine rd_max2 ?_))
local macro_rules | `(tactic| walk_at "rds") => `(tactic| repeat (walk_at "rd"))

section
variable {P : Program} {w : World} {K : PySem.W.Frag} {mg : Str → Option Value} {base : Heap}
/-- the literals of both rows but those of letters in which they clash -/
def spJoined (K : PySem.W.Frag) : Sp := fun vs H Q _ => ∃ (a b : Addr) (n : Nat) (xs ys : List Int), vs = [.ref a, .ref b] ∧ SqT K H a (xs.map V.int) ∧ SqT K H b (ys.map V.int) ∧ n ≤ 60 ∧ Row n xs ∧ Row n ys ∧
  ∀ (q : Addr) (r : List Int) (H' : Hp), Evl.Ex H H' → IsJoin xs ys r → SqT K H' q (r.map V.int) → Q (.ref q) H'
theorem ok_joined {f fA : Addr} {fd fdA : FuncData} (F : Fun K "_law_joined" "_law_joined" s_law_joined f fd) (T : Bl mg)
    (G_law_against : FnOk P w K mg base CX0 1 fA fdA ["one", "other"] (spAgainst K)) (C_law_against : Callee K mg "_law_against" fA fdA ["one", "other"]) :
    FnOk P w K mg base CX0 2 f fd ["one", "other"] (spJoined K) := by
  refine F.ok sc_law_joined (fun vs H Q E h => ?_) (fun cdv A outer s H vs Q E hr h => ?_)
  · obtain ⟨a, b, n, xs, ys, rfl, _⟩ := h
    rfl
  · obtain ⟨a, b, n, xs, ys, rfl, ha, hb, hn, hx, hy, q⟩ := h
    have lx := hx.length
    have ly := hy.length
    refine ⟨_, (pss_cons (ps_asg (pe_tup (pa_cons (pe_call G_law_against (hr.mono (by decide)) (by rfl) C_law_against.m C_law_against.k C_law_against.b .nil pass0 (pa_cons (pv 0) (pa_cons (pv 1) pa_nil))) (pa_cons pe_dnewK pa_nil))) (pg_tup rfl (pgs_cons (pg_name (i := 2) sc_law_joined.nd rfl (Or.inr rfl)) (pgs_cons (pg_name (i := 3) sc_law_joined.nd rfl (Or.inr rfl)) pgs_nil))))
 (pss_cons (ps_for PassesOwn.never rfl (ik_tupI (K := K) rfl (pe_op (ok_catT (K := K) rfl) (pv 0) (pv 1))) (pg_name (i := 4) sc_law_joined.nd rfl (Or.inl rfl)) (pss_one (ps_dput (hu_of hr) (pv 3) (pe_callB c_abs (by rfl) T.abs (by decide +kernel) (pa_cons (pv 4) pa_nil)) (pv 4) rfl)))
 (pss_one (ps_ret (pe_callTy (c_tuple (K := K) rfl) (by rfl) T.tuple (by decide +kernel) (pa_cons (pe_lc (own := [("letter", 5)]) (g := gName 5) rfl sc_law_joined.nd (ik_listI (K := K) rfl (pe_callB (c_sortedD rfl) (by rfl) T.sorted (by decide +kernel) (pa_cons (pv 3) pa_nil))) (blkOk_by (own := [("letter", 5)]) (N := ["one", "other", "gone", "signs", "literal", "letter"]) (sc := defScope s_law_joined) (by decide +kernel)) (fun _ _ _ _ _ => (pg_name (i := 5) sc_law_joined.nd rfl (Or.inl rfl))) (fun _ _ _ _ _ => (pts_one (pt_cmpR (ok_notIn (K := K) rfl) (pv 5) (pv 2) (by rfl)))) (fun _ _ _ _ _ => (pe_dget (hu_of hr) (pv 3) (pv 5) (fun _ _ => rfl)))) pa_nil)))))), ?_⟩
    refine rd_start (σ' := [some (.ref a), some (.ref b), none, none, none, none]) rfl ?_
    walk_at "rds"
    refine ⟨a, b, xs, ys, rfl, ha, hb, by omega, by omega, fun g H1 e1 hg => ?_⟩
    walk_at "rds"
    intro p hp
    have e2 : Evl.Ex H (upd H1 p (.dK [])) := e1.trans (Evl.Ex.new hp)
    walk_at "rds"
    refine ⟨(by show 2 ≤ sizeLine; decide), fun u hu => ?_⟩
    have e3 := e2.trans (Evl.Ex.new (o := .tup [.ref g, .ref p]) hu)
    have pu : p ≠ u := ne_of_none upd_same hu
    refine rd_gtup2 (σ' := [some (.ref a), some (.ref b), some (.ref g), some (.ref p), none, none]) (SqT.of upd_same) rfl rfl ?_
    walk_at "rds"
    refine rd_catT (Evl.ex_t e3 ha) (Evl.ex_t e3 hb) (by rw [List.length_map, List.length_map, sizeLine_eq]; omega) fun c H4 e4 hc => ?_
    have e34 := e3.trans e4
    have hpH : H p = none := Evl.fresh_back e1 hp
    have hg4 : SqT K H4 g ((against xs ys).map V.int) := Evl.ex_t ((((Evl.Ex.new hp)).trans (Evl.Ex.new hu)).trans e4) hg
    refine rd_ref hc ?_
    rw [← List.map_append] at hc
    have ep4 : H4 p = some (.dK []) := e4 _ _ ((upd_ne pu).trans upd_same)
    refine fr_tup (xs := (xs ++ ys).map V.int) (fun i σ' H' => ∃ kvs y, σ' = [some (.ref a), some (.ref b), some (.ref g), some (.ref p), y, none] ∧ Evl.Ex H H' ∧
      SqT K H' g ((against xs ys).map V.int) ∧ SqT K H' c ((xs ++ ys).map V.int) ∧ H' p = some (.dK kvs) ∧ Dic ((xs ++ ys).take i) kvs)
      ⟨[], none, rfl, e34, hg4, hc, ep4, Dic.nil⟩ (fun i σ' H' _ ⟨_, _, _, _, _, h, _⟩ => h) (fun i x σ' H' hi hP => ?_) fun σ' H' hP => ?_
    · obtain ⟨kvs, y, rfl, f1, f2, f3, f4, f5⟩ := hP
      rw [List.getElem?_map] at hi
      obtain ⟨t, ht, rfl⟩ := Option.map_eq_some_iff.mp hi
      have hlen : kvs.length ≤ 120 := by
        have := f5.len
        have h3 := List.length_take (i := i) (l := xs ++ ys)
        rw [List.length_append] at h3
        omega
      walk_at "rds"
      refine ⟨p, _, rfl, DPut.k (k := lk t) (v := .int t) f4 (by rw [sizeLine_eq]; omega), ?_⟩
      refine ⟨putK kvs (lk t) (.int t), some (.int t), rfl, ?_, ?_, ?_, ?_, ?_⟩
      · exact Evl.Ex.mut f1 hpH
      · exact tup_upd f4 dK_not f2
      · exact tup_upd f4 dK_not f3
      · exact upd_same
      · rw [List.take_add_one, ht]
        exact f5.put t
    · obtain ⟨kvs, y, rfl, f1, f2, f3, f4, f5⟩ := hP
      rw [List.length_map, List.take_of_length_le (Nat.le_refl _)] at f5
      obtain ⟨ks, k1, k2, k3⟩ := f5.ks
      have kl : ks.length < 64 := by
        have hk : ks.length ≤ n := nodup_le k2 fun k hk => by
          obtain ⟨x, hx2, e⟩ := (k3 k).mp hk
          have : 1 ≤ x.natAbs ∧ x.natAbs ≤ n := (List.mem_append.mp hx2).elim (hx.2 x) (hy.2 x)
          omega
        omega
      walk_at "rds"
      refine rd_sortD f4 k1 kl fun zs v pz so hv => ?_
      have e5 : Evl.Ex H' (upd H' v (.lst (zs.map V.int))) := Evl.Ex.new hv
      have zlt : zs.Pairwise (· < ·) := lt_of_sorted so (pz.nodup_iff.mpr k2)
      have zl : zs.length ≤ 64 := by rw [pz.length_eq]; omega
      have zm : ∀ k, k ∈ zs ↔ ∃ x ∈ xs ++ ys, (x.natAbs : Int) = k := fun k => pz.mem_iff.trans (k3 k)
      walk_at "rds"
      refine rd_refL (SqL.of upd_same) ?_
      refine lc_fmL (fun k => !decide (k ∈ against xs ys)) (fun k => .int (litOf kvs k)) (σx := fun x => [some (.ref a), some (.ref b), some (.ref g), some (.ref p), y, some x])
        (SqL.of upd_same) (by omega) (fun _ => rfl) (fun _ => rfl) (fun k hk H6 N S ex kN kS => ?_) fun D H6 e6 eD hD => ?_
      · walk_at "rds"
        refine rd_notInT (Evl.ex_t (e5.trans ex) f2) ?_
        walk_at "rds"
        refine rd_iteb (fun c => ?_) (fun c => ?_)
        · walk_at "rds"
          refine ⟨p, _, rfl, (f5.lit ((zm k).mp hk)).1 ▸ DGet.k (k := Sum.inl k) (ex _ _ (e5 _ _ f4)), ?_⟩
          exact kN c _ (Evl.Ex.refl _)
        · exact kS c _ (Evl.Ex.refl _)
      walk_at "rds"
      refine rd_tupL (SqL.of hD) fun o ho => ?_
      refine q o ((zs.filter fun k => !decide (k ∈ against xs ys)).map (litOf kvs)) _ (((f1.trans e5).trans e6).trans (Evl.Ex.new ho)) (f5.join hx hy (zlt.sublist List.filter_sublist) fun k => ?_) (SqT.of ?_)
      · rw [List.mem_filter, zm k]
        simp
      · rw [upd_same, List.map_map]
        rfl
end
end K13
set_option Elab.async false
set_option linter.all false
set_option maxRecDepth 100000
set_option maxHeartbeats 400000
namespace K13
open PySem PySem.Spec PyProof.Rows L2 Ea
abbrev s_law_seen : Stmt := topS 19
theorem sc_law_seen : FnScope ["one", "other", "is_named", "slip"] ["one", "other", "is_named"] (defScope s_law_seen) :=
  ⟨rfl, rfl, rfl, by decide +kernel, rfl, by decide +kernel, by decide +kernel⟩
local macro_rules | `(tactic| walk_at "rd") => `(tactic| first
  | (with_reducible refine rd_seq ?_) | (with_reducible refine rd_asg ?_) | (with_reducible refine rd_if ?_) | (with_reducible refine rd_ret ?_) | (with_reducible refine rd_next ?_)
  | (with_reducible refine rd_drop ?_) | ((with_reducible refine rd_name (σ' := ?ss) ?hs ?_); (case hs => (dsimp only [List.set]; exact rfl)))
  | ((with_reducible refine rd_var (v := ?vv) ?hv ?_); (case hv => exact rfl)) | (with_reducible refine rd_c ?_) | (with_reducible refine rd_op ?_) | (with_reducible refine rd_un ?_)
  | (with_reducible refine rd_I0 ?_) | (with_reducible refine rd_U ?_) | (with_reducible refine rd_test ?_) | (with_reducible refine rd_B ?_) | (with_reducible refine rd_k ?_)
  | (with_reducible refine rd_not ?_) | (with_reducible refine rd_and ?_) | (with_reducible refine rd_or ?_) | (with_reducible refine rd_ifE ?_)
  | (with_reducible refine rd_par ?_) | ((with_reducible refine rd_par2 (σ' := ?ss) ?hs ?_); (case hs => (dsimp only [List.set]; exact rfl)))
  | (with_reducible refine rd_lc ?_) | (with_reducible refine rd_iTup ?_) | (with_reducible refine rd_iList ?_) | (with_reducible refine rd_iRng1 ?_)
  | (with_reducible refine rd_yes ?_) | (with_reducible refine rd_true ?_) | (with_reducible refine rd_false ?_) | (with_reducible refine rd_m1 ?_) | (with_reducible refine rd_isS ?_)
  | ((with_reducible refine rd_eq ?hs ?_); (case hs => exact rfl)) | ((with_reducible refine rd_ne ?hs ?_); (case hs => exact rfl))
  | (with_reducible refine rd_listRg ?_) | (with_reducible refine rd_rg2 ?_) | (with_reducible refine rd_rgk ?_)
  | (with_reducible refine rd_dnew ?_) | (with_reducible refine rd_ddel ?_) | (with_reducible refine rd_kw ?_) | (with_reducible refine rd_callS ?_) | (with_reducible refine rd_dc ?_) | (with_reducible refine rd_for ?_) | (with_reducible refine rd_tru ?_) | (with_reducible refine rd_truI ?_)
  | (with_reducible refine rd_nil ?_) | (with_reducible refine rd_cons ?_) | (with_reducible refine rd_call ?_) | (with_reducible refine rd_cb ?_)
  | (with_reducible refine rd_tup ?_) | (with_reducible refine rd_lst ?_) | (with_reducible refine rd_dget ?_) | (with_reducible refine rd_dput ?_) | (with_reducible refine rd_sl ?_)
  | (with_reducible refine rd_nopart ?_) | (with_reducible refine rd_part ?_) | (with_reducible refine rd_parti ?_) | (with_reducible refine rd_bm ?_) | (with_reducible refine rd_bm0 ?_)
  | (with_reducible refine rd_int ?_) | (with_reducible refine rd_intb ?_) | (with_reducible refine rd_abs ?_) | (with_reducible refine rd_min2 ?_) | (with_reducible refine rd_max2 ?_))
local macro_rules | `(tactic| walk_at "rds") => `(tactic| repeat (walk_at "rd"))

section
variable {P : Program} {w : World} {K : PySem.W.Frag} {mg : Str → Option Value} {base : Heap}
def spMet (K : PySem.W.Frag) (C : Addr) : Sp := fun vs H Q E => ∃ (a b : Addr) (n : Nat) (xs ys : List Int), vs = [.ref a, .ref b] ∧ SqT K H a (xs.map V.int) ∧ SqT K H b (ys.map V.int) ∧ n ≤ 60 ∧ Row n xs ∧ Row n ys ∧
  ((against xs ys).length = 1 → ∀ (q : Addr) (r : List Int) (H' : Hp), Evl.Ex H H' → IsJoin xs ys r → SqT K H' q (r.map V.int) → Q (.ref q) H') ∧
  ((against xs ys).length ≠ 1 → ∀ H', Evl.Ex H H' → E (.ref C) none H')
theorem ok_met {f fC C : Addr} {fd fdC : FuncData} (F : Fun K "met" "met" smet f fd) (T : Bl mg) (UUnfit : ExcF K mg "Unfit" C)
    (Gclashes : FnOk P w K mg base CX0 1 fC fdC ["one", "other"] (spAgainst K)) (Cclashes : Callee K mg "clashes" fC fdC ["one", "other"]) :
    FnOk P w K mg base (L2.CX P w) 2 f fd ["one", "other"] (spMet K C) := by
  refine F.okX scmet (fun vs H Q E h => ?_) (fun cdv A outer s H vs Q E hr h => ?_)
  · obtain ⟨a, b, n, xs, ys, rfl, _⟩ := h
    rfl
  · obtain ⟨a, b, n, xs, ys, rfl, ha, hb, hn, hx, hy, q1, q2⟩ := h
    have lx := hx.length
    have ly := hy.length
    refine ⟨_, (pss_cons (ps_set (i := 2) scmet.nd rfl (Or.inl rfl) (pe_call Gclashes (hr.mono (by decide)) (by rfl) Cclashes.m Cclashes.k Cclashes.b .nil pass0 (pa_cons (pv 0) (pa_cons (pv 1) pa_nil))))
 (pss_cons (ps_if (pt_cmpR op_ne (pe_callB (c_len (K := K) rfl) (by rfl) T.len (by decide +kernel) (pa_cons (pv 2) pa_nil)) pe_int (nomark _)) (pss_one (ps_raise rfl (takes_of rfl rfl rfl rfl) (pmk_own0 PySem.F.excBase_ValueError UUnfit.x UUnfit.g UUnfit.k (raises_own UUnfit.b UUnfit.t) rfl))) pss_nil)
 (pss_cons (ps_set (i := 3) scmet.nd rfl (Or.inr rfl) (pe_dc (own := [("literal", 4)]) (g := gName 4) rfl scmet.nd (ik_tupI (K := K) rfl (pe_op (ok_catT (K := K) rfl) (pv 0) (pv 1))) (blkOk_by (own := [("literal", 4)]) (N := ["one", "other", "letters", "by_letter", "literal", "letter"]) (sc := defScope smet) (by decide +kernel)) (fun _ _ _ _ _ => (pg_name (i := 4) scmet.nd rfl (Or.inl rfl))) (fun _ _ _ _ _ => pts_nil) (fun _ _ _ _ _ => (pe_callB c_abs (by rfl) T.abs (by decide +kernel) (pa_cons (pv 4) pa_nil))) (fun _ _ _ _ _ => (pv 4))))
 (pss_cons (ps_ddel (pv 3) (pe_ix (ik_tup (K := K) rfl) (pv 2) pe_int (fun _ _ => rfl)))
 (pss_one (ps_ret (pe_callTy (c_tuple (K := K) rfl) (by rfl) T.tuple (by decide +kernel) (pa_cons (pe_lc (own := [("letter", 5)]) (g := gName 5) rfl scmet.nd (ik_listI (K := K) rfl (pe_callB (c_sortedD rfl) (by rfl) T.sorted (by decide +kernel) (pa_cons (pv 3) pa_nil))) (blkOk_by (own := [("letter", 5)]) (N := ["one", "other", "letters", "by_letter", "literal", "letter"]) (sc := defScope smet) (by decide +kernel)) (fun _ _ _ _ _ => (pg_name (i := 5) scmet.nd rfl (Or.inl rfl))) (fun _ _ _ _ _ => pts_nil) (fun _ _ _ _ _ => (pe_dget (hu_of hr) (pv 3) (pv 5) (fun _ _ => rfl)))) pa_nil)))))))), ?_⟩
    refine rd_start (σ' := [some (.ref a), some (.ref b), none, none, none, none]) rfl ?_
    walk_at "rds"
    refine ⟨a, b, xs, ys, rfl, ha, hb, by omega, by omega, fun g H1 e1 hg => ?_⟩
    walk_at "rds"
    refine rd_lenT hg ?_
    walk_at "rds"
    rw [List.length_map]
    refine rd_iten (fun c => ?_) (fun c => ?_)
    · have c' : (against xs ys).length ≠ 1 := fun e => c (by rw [e]; rfl)
      exact q2 c' _ e1
    have c' : (against xs ys).length = 1 := by
      have := V.int.inj c
      omega
    obtain ⟨k, hk⟩ : ∃ k, against xs ys = [k] := List.length_eq_one_iff.mp c'
    have hkm : k ∈ against xs ys := by rw [hk]; exact List.mem_cons_self
    walk_at "rds"
    refine rd_catT (Evl.ex_t e1 ha) (Evl.ex_t e1 hb) (by rw [List.length_map, List.length_map, sizeLine_eq]; omega) fun u H2 e2 hu => ?_
    rw [← List.map_append] at hu
    refine rd_ref hu ?_
    refine dc_dicT (σx := fun x => [some (.ref a), some (.ref b), some (.ref g), none, some x, none]) hu (by rw [List.length_append]; omega) (fun _ => rfl) (fun _ => rfl) (fun x H' R h => ?_) (fun x H' R h => ?_) fun p kvs H3 e3 ep hp f5 => ?_
    · walk_at "rds"
      exact h
    · walk_at "rds"
      exact h
    have e13 := (e1.trans e2).trans e3
    have hg3 : SqT K H3 g ((against xs ys).map V.int) := Evl.ex_t (e2.trans e3) hg
    obtain ⟨ks, k1, k2, k3⟩ := f5.ks
    have hks : ∀ j ∈ ks, 1 ≤ j ∧ j ≤ (n : Int) := fun j hj => by
      obtain ⟨x, hx2, e⟩ := (k3 j).mp hj
      have : 1 ≤ x.natAbs ∧ x.natAbs ≤ n := (List.mem_append.mp hx2).elim (hx.2 x) (hy.2 x)
      omega
    have kl : ks.length ≤ n := nodup_le k2 hks
    have hkk : ∃ x ∈ xs ++ ys, (x.natAbs : Int) = k := by
      obtain ⟨x, hx2, _, e⟩ := against_mem.mp hkm
      exact ⟨x, List.mem_append_left _ hx2, e⟩
    walk_at "rds"
    walk_at "rds"
    refine rd_ixT (x := .int k) hg3 (at_nat (k := 0) rfl (by rw [hk]; rfl)) ?_
    refine ⟨p, kvs, Sum.inl k, rfl, hp, rfl, by rw [(f5.lit hkk).1]; rfl, ?_⟩
    have e4 : Evl.Ex H (upd H3 p (.dK (dropK kvs (.inl k)))) := Evl.Ex.mut e13 (Evl.fresh_back (e1.trans e2) ep)
    walk_at "rds"
    have klf : (ks.filter fun j => decide (j ≠ k)).length < 64 := by
      have := List.length_filter_le (fun j => decide (j ≠ k)) ks
      omega
    refine rd_sortD upd_same (keys_drop k1) klf fun zs v pz so hv => ?_
    have znd : zs.Nodup := pz.nodup_iff.mpr (k2.sublist List.filter_sublist)
    have zlt : zs.Pairwise (· < ·) := lt_of_sorted so znd
    have zl : zs.length ≤ 64 := by rw [pz.length_eq]; omega
    have zm : ∀ j, j ∈ zs ↔ (∃ x ∈ xs ++ ys, (x.natAbs : Int) = j) ∧ j ∉ against xs ys := fun j => by
      rw [pz.mem_iff, List.mem_filter, k3 j, hk, List.mem_singleton]
      simp
    have pv' : p ≠ v := ne_of_none upd_same hv
    walk_at "rds"
    refine rd_refL (SqL.of upd_same) ?_
    refine lc_fmL (fun _ => true) (fun j => .int (litOf kvs j)) (σx := fun x => [some (.ref a), some (.ref b), some (.ref g), some (.ref p), none, some x])
      (SqL.of upd_same) (by omega) (fun _ => rfl) (fun _ => rfl) (fun j hj H6 N S ex kN kS => ?_) fun D H6 e6 eD hD => ?_
    · obtain ⟨h1, h2⟩ := (zm j).mp hj
      have hne : j ≠ k := fun e => h2 (by rw [e]; exact hkm)
      have hv1 : valV (dropK kvs (.inl k)) (.inl j) = some (.int (litOf kvs j)) := by
        rw [valV_drop (fun e => hne (Sum.inl.inj e))]
        exact (f5.lit h1).1
      walk_at "rds"
      refine ⟨p, _, rfl, hv1 ▸ DGet.k (k := Sum.inl j) (ex _ _ ((upd_ne pv').trans upd_same)), ?_⟩
      exact kN rfl _ (Evl.Ex.refl _)
    walk_at "rds"
    refine rd_tupL (SqL.of hD) fun o ho => ?_
    refine q1 c' o (zs.map (litOf kvs)) _ (((e4.trans (Evl.Ex.new hv)).trans e6).trans (Evl.Ex.new ho)) (f5.join hx hy zlt zm) (SqT.of ?_)
    have hf : zs.filter (fun _ => true) = zs := List.filter_eq_self.mpr fun _ _ => rfl
    rw [upd_same, List.map_map, hf]
    rfl

/-- what _law_seen tells, as data -/
def Seen (xs ys : List Int) (d : PyData) : Prop :=
  ((against xs ys).length = 1 ∧ ∃ r, IsJoin xs ys r ∧ d = .list [.str "row", .tuple (dI r)]) ∨ ((against xs ys).length ≠ 1 ∧ d = .list [.str "unfit", .bool true])
def spSeen (K : PySem.W.Frag) : Sp := fun vs H Q _ => ∃ (a b : Addr) (nm : Bool) (n : Nat) (xs ys : List Int), vs = [.ref a, .ref b, .bl nm] ∧ SqT K H a (xs.map V.int) ∧ SqT K H b (ys.map V.int) ∧ n ≤ 60 ∧ Row n xs ∧ Row n ys ∧
  ∀ (q : Addr) (d : PyData) (H' : Hp), Evl.Ex H H' → Seen xs ys d → Dp K H' (.ref q) d → Q (.ref q) H'
theorem ok_seen {f fM C CG : Addr} {fd fdM : FuncData} (F : Fun K "_law_seen" "_law_seen" s_law_seen f fd) (T : Bl mg) (U : ExcF K mg "Unfit" C) (UC : ExcC K C)
    (gG : mg "GameError" = some (.ref CG)) (kit : PySem.W.kitOne K (.ref C) (.ref CG) = some true) (exm : PySem.W.exmOne K (.ref C) (.ref C) = some true)
    (Gmet : FnOk P w K mg base (L2.CX P w) 2 fM fdM ["one", "other"] (spMet K C)) (Cmet : Callee K mg "met" fM fdM ["one", "other"])
    (kw : ∀ (s : Shared) (ws : List Value), ws.length = 2 → BindsTo s fdM ⟨[], (["other", "one"] : List Str).zip ws⟩ ((["one", "other"] : List Str).zip ws.reverse)) :
    FnOk P w K mg base CX0 3 f fd ["one", "other", "is_named"] (spSeen K) := by
  refine F.ok sc_law_seen (fun vs H Q E h => ?_) (fun cdv A outer s H vs Q E hr h => ?_)
  · obtain ⟨a, b, nm, n, xs, ys, rfl, _⟩ := h
    rfl
  · obtain ⟨a, b, nm, n, xs, ys, rfl, ha, hb, hn, hx, hy, q⟩ := h
    refine ⟨_, pss_one (ps_try_as (i := 3) (c := .ref C) (Wout := fun _ _ _ _ => False) rfl rfl sc_law_seen.nd rfl rfl ⟨rfl, by decide, .inl U.g⟩ takes0
      (fun W pn xe tk _ => pss_one (ps_ret (pe_lst (pa_cons pe_str (pa_cons (pe_ifExp (pt_val (pv 2))
        (pe_kw (ks := ["other", "one"]) (g := List.reverse) (gV := List.reverse) Gmet (hr.mono (by decide)) (by rfl) Cmet.m Cmet.k kw (fun _ r => rel_rev r) (fun σ => passAt tk σ) (pk_cons (pv 1) (pk_cons (pv 0) pk_nil)))
        (pe_callS Gmet (hr.mono (by decide)) (by rfl) Cmet.m Cmet.k Cmet.b (fun σ => passAt tk σ) (pa_cons (pv 0) (pa_cons (pv 1) pa_nil)))) pa_nil)))))
      (fun a oe cls d pn hz hf => pss_guard (p := cls = .ref C ∧ d = none) fun hp => by
        obtain ⟨rfl, rfl⟩ := hp
        exact pss_one (ps_ret (pe_lst (pa_cons pe_str (pa_cons (pe_callB (call_isE UC hz hf) (by rfl) T.isinstance (by decide +kernel) (pa_cons (pv 3) (pa_cons (pe_glob (v := .ref CG) (by rfl) gG rfl) pa_nil))) pa_nil)))))), ?_⟩
    refine rd_start (σ' := [some (.ref a), some (.ref b), some (.bl nm), none]) rfl ?_
    have fine : ∀ (u : Addr) (r : List Int) (H1 : Hp), (against xs ys).length = 1 → Evl.Ex H H1 → IsJoin xs ys r → SqT K H1 u (r.map V.int) → ∀ p, H1 p = none → Q (.ref p) (upd H1 p (.lst [.str "row", .ref u])) :=
      fun u r H1 c e1 hj hr p hp => q p (.list [.str "row", .tuple (dI r)]) _ (e1.trans (Evl.Ex.new hp)) (.inl ⟨c, r, hj, rfl⟩)
        (.lst (SqL.of upd_same) (.cons (.str _) (.cons (dp_T (Evl.ex_t (Evl.Ex.new hp) hr)) .nil)))
    walk_at "rds"
    refine rd_iteb (fun c => ?_) (fun c => ?_)
    · walk_at "rds"
      refine ⟨rfl, a, b, n, xs, ys, rfl, ha, hb, hn, hx, hy, fun c1 u r H1 e1 hj hr => ?_, fun c1 H1 e1 => ?_⟩
      · walk_at "rds"
        exact ⟨(by show 2 ≤ sizeLine; decide), fun p hp => fine u r H1 c1 e1 hj hr p hp⟩
      · refine ⟨true, exm, fun _ u hu => ⟨⟨rfl, rfl⟩, ?_⟩, fun h => (nomatch h)⟩
        refine rd_start (σ' := [some (.ref a), some (.ref b), some (.bl nm), some (.ref u)]) rfl ?_
        walk_at "rds"
        refine ⟨.ref CG, .ref CG, true, rfl, fun v h => h, kit, ?_⟩
        walk_at "rds"
        refine ⟨(by show 2 ≤ sizeLine; decide), fun p hp => ?_⟩
        exact q p (.list [.str "unfit", .bool true]) _ (e1.trans (Evl.Ex.new hp)) (.inr ⟨c1, rfl⟩) (.lst (SqL.of upd_same) (.cons (.str _) (.cons (.bl _) .nil)))
    · walk_at "rds"
      refine ⟨a, b, n, xs, ys, rfl, ha, hb, hn, hx, hy, fun c1 u r H1 e1 hj hr => ?_, fun c1 H1 e1 => ?_⟩
      · walk_at "rds"
        exact ⟨(by show 2 ≤ sizeLine; decide), fun p hp => fine u r H1 c1 e1 hj hr p hp⟩
      · refine ⟨true, exm, fun _ u hu => ⟨⟨rfl, rfl⟩, ?_⟩, fun h => (nomatch h)⟩
        refine rd_start (σ' := [some (.ref a), some (.ref b), some (.bl nm), some (.ref u)]) rfl ?_
        walk_at "rds"
        refine ⟨.ref CG, .ref CG, true, rfl, fun v h => h, kit, ?_⟩
        walk_at "rds"
        refine ⟨(by show 2 ≤ sizeLine; decide), fun p hp => ?_⟩
        exact q p (.list [.str "unfit", .bool true]) _ (e1.trans (Evl.Ex.new hp)) (.inr ⟨c1, rfl⟩) (.lst (SqL.of upd_same) (.cons (.str _) (.cons (.bl _) .nil)))
end
end K13
set_option Elab.async false
set_option linter.all false
set_option maxRecDepth 100000
set_option maxHeartbeats 400000
namespace K13
open PySem PySem.Spec PyProof.Rows L2 Ea
abbrev s_law_is_short : Stmt := topS 20
theorem sc_law_is_short : FnScope ["owners", "row", "is_named", "side", "due", "seen"] ["owners", "row", "is_named"] (defScope s_law_is_short) :=
  ⟨rfl, rfl, rfl, by decide +kernel, rfl, by decide +kernel, by decide +kernel⟩
abbrev s_law_is_met : Stmt := topS 21
theorem sc_law_is_met : FnScope ["one", "other", "is_named", "kept", "due", "seen", "row", "found"] ["one", "other", "is_named"] (defScope s_law_is_met) :=
  ⟨rfl, rfl, rfl, by decide +kernel, rfl, by decide +kernel, by decide +kernel⟩
local macro_rules | `(tactic| walk_at "rd") => `(tactic| first
  | (with_reducible refine rd_seq ?_) | (with_reducible refine rd_asg ?_) | (with_reducible refine rd_if ?_) | (with_reducible refine rd_ret ?_) | (with_reducible refine rd_next ?_)
  | (with_reducible refine rd_drop ?_) | ((with_reducible refine rd_name (σ' := ?ss) ?hs ?_); (case hs => (dsimp only [List.set]; exact rfl)))
  | ((with_reducible refine rd_var (v := ?vv) ?hv ?_); (case hv => exact rfl)) | (with_reducible refine rd_c ?_) | (with_reducible refine rd_op ?_) | (with_reducible refine rd_un ?_)
  | (with_reducible refine rd_I0 ?_) | (with_reducible refine rd_U ?_) | (with_reducible refine rd_test ?_) | (with_reducible refine rd_B ?_) | (with_reducible refine rd_k ?_)
  | (with_reducible refine rd_not ?_) | (with_reducible refine rd_and ?_) | (with_reducible refine rd_or ?_) | (with_reducible refine rd_ifE ?_)
  | (with_reducible refine rd_par ?_) | ((with_reducible refine rd_par2 (σ' := ?ss) ?hs ?_); (case hs => (dsimp only [List.set]; exact rfl)))
  | (with_reducible refine rd_lc ?_) | (with_reducible refine rd_iTup ?_) | (with_reducible refine rd_iList ?_) | (with_reducible refine rd_iRng1 ?_)
  | (with_reducible refine rd_yes ?_) | (with_reducible refine rd_true ?_) | (with_reducible refine rd_false ?_) | (with_reducible refine rd_m1 ?_) | (with_reducible refine rd_isS ?_)
  | ((with_reducible refine rd_eq ?hs ?_); (case hs => exact rfl)) | ((with_reducible refine rd_ne ?hs ?_); (case hs => exact rfl))
  | (with_reducible refine rd_listRg ?_) | (with_reducible refine rd_rg2 ?_) | (with_reducible refine rd_rgk ?_)
  | (with_reducible refine rd_dnew ?_) | (with_reducible refine rd_ddel ?_) | (with_reducible refine rd_kw ?_) | (with_reducible refine rd_callS ?_) | (with_reducible refine rd_dc ?_) | (with_reducible refine rd_for ?_) | (with_reducible refine rd_tru ?_) | (with_reducible refine rd_truI ?_)
  | (with_reducible refine rd_nil ?_) | (with_reducible refine rd_cons ?_) | (with_reducible refine rd_call ?_) | (with_reducible refine rd_cb ?_)
  | (with_reducible refine rd_tup ?_) | (with_reducible refine rd_lst ?_) | (with_reducible refine rd_dget ?_) | (with_reducible refine rd_dput ?_) | (with_reducible refine rd_sl ?_)
  | (with_reducible refine rd_nopart ?_) | (with_reducible refine rd_part ?_) | (with_reducible refine rd_parti ?_) | (with_reducible refine rd_bm ?_) | (with_reducible refine rd_bm0 ?_)
  | (with_reducible refine rd_int ?_) | (with_reducible refine rd_intb ?_) | (with_reducible refine rd_abs ?_) | (with_reducible refine rd_min2 ?_) | (with_reducible refine rd_max2 ?_))
local macro_rules | `(tactic| walk_at "rds") => `(tactic| repeat (walk_at "rd"))

/-- calls by names, the parameters' order turned -/
def KwRev (fd : FuncData) (ps : List Str) : Prop := ∀ (s : Shared) (ws : List Value), ws.length = ps.length → BindsTo s fd ⟨[], ps.reverse.zip ws⟩ (ps.zip ws.reverse)
section
variable {P : Program} {w : World} {K : PySem.W.Frag} {mg : Str → Option Value} {base : Heap}
def spIsShort (K : PySem.W.Frag) : Sp := fun vs H Q _ => ∃ (z : Str) (a : Addr) (nm : Bool) (n : Nat) (ns : List Int), vs = [.str z, .ref a, .bl nm] ∧ OwnS n z ∧ n ≤ 60 ∧ Row n ns ∧ SqT K H a (ns.map V.int) ∧
  ∀ H', Evl.Ex H H' → Q (.bl true) H'
theorem ok_is_short {f fS fT fD : Addr} {fd fdS fdT fdD : FuncData} (F : Fun K "_law_is_short" "_law_is_short" s_law_is_short f fd) (T : Bl mg)
    (G_law_short : FnOk P w K mg base CX0 1 fS fdS ["owners", "side", "row"] (spDropped K)) (C_law_short : Callee K mg "_law_short" fS fdS ["owners", "side", "row"])
    (G_law_taken : FnOk P w K mg base CX0 1 fT fdT ["owners", "side", "row"] (spDropped K)) (C_law_taken : Callee K mg "_law_taken" fT fdT ["owners", "side", "row"])
    (Gdropped : FnOk P w K mg base CX0 1 fD fdD ["owners", "side", "row"] (spDropped K)) (Cdropped : Callee K mg "dropped" fD fdD ["owners", "side", "row"]) (Kdropped : KwRev fdD ["owners", "side", "row"]) :
    FnG P w K mg base 2 f fd ["owners", "row", "is_named"] (spIsShort K) := by
  refine okG F sc_law_is_short (fun vs H Q E h => ?_) (fun cdv A outer s H vs Q E hr hg h => ?_)
  · obtain ⟨z, a, nm, n, ns, rfl, _⟩ := h
    rfl
  · obtain ⟨z, a, nm, n, ns, rfl, hz, hn, hrow, ht, q⟩ := h
    refine ⟨_, (pss_cons (ps_for PassesOwn.never rfl (ik_tupI (K := K) rfl (pe_tup (pa_cons pe_str (pa_cons pe_str pa_nil)))) (pg_name (i := 3) sc_law_is_short.nd rfl (Or.inl rfl)) (pss_cons (ps_set (i := 4) sc_law_is_short.nd rfl (Or.inl rfl) (pe_call G_law_short (hr.mono (by decide)) (by rfl) C_law_short.m C_law_short.k C_law_short.b .nil pass0 (pa_cons (pv 0) (pa_cons (pv 3) (pa_cons (pv 1) pa_nil)))))
 (pss_cons (ps_set (i := 5) sc_law_is_short.nd rfl (Or.inl rfl) (pe_ifExp (pt_val (pv 2)) (pe_kw (E := fun _ => E0) (ks := ["row", "side", "owners"]) (g := List.reverse) (gV := List.reverse) Gdropped (hr.mono (by decide)) (by rfl) Cdropped.m Cdropped.k Kdropped (fun _ r => rel_rev r) (fun _ => passAt0) (pk_cons (pv 1) (pk_cons (pv 3) (pk_cons (pv 0) pk_nil)))) (pe_call Gdropped (hr.mono (by decide)) (by rfl) Cdropped.m Cdropped.k Cdropped.b .nil pass0 (pa_cons (pv 0) (pa_cons (pv 3) (pa_cons (pv 1) pa_nil))))))
 (pss_one (ps_if (PW.pt (pw_or (pt_cmpR op_ne (pe_callB (c_repr (K := K) rfl hg hr.units) (by rfl) T.repr (by decide +kernel) (pa_cons (pe_lst (pa_cons (pv 5) (pa_cons (pe_call Gdropped (hr.mono (by decide)) (by rfl) Cdropped.m Cdropped.k Cdropped.b .nil pass0 (pa_cons (pv 0) (pa_cons (pv 3) (pa_cons (pv 4) pa_nil)))) pa_nil))) pa_nil)) (pe_callB (c_repr (K := K) rfl hg hr.units) (by rfl) T.repr (by decide +kernel) (pa_cons (pe_lst (pa_cons (pv 4) (pa_cons (pv 4) pa_nil))) pa_nil)) (nomark _)) (pw_or1 (pt_cmpR (ok_neD (K := K) rfl hr.units) (pv 4) (pe_call G_law_taken (hr.mono (by decide)) (by rfl) C_law_taken.m C_law_taken.k C_law_taken.b .nil pass0 (pa_cons (pv 0) (pa_cons (pv 3) (pa_cons (pv 1) pa_nil)))) (nomark _))))) (pss_one (ps_ret pe_bl)) pss_nil)))))
 (pss_one (ps_ret pe_bl))), ?_⟩
    refine rd_start (σ' := [some (.str z), some (.ref a), some (.bl nm), none, none, none]) rfl ?_
    walk_at "rds"
    refine ⟨(by show 2 ≤ sizeLine; decide), fun u hu => ?_⟩
    refine rd_ref (SqT.of upd_same) ?_
    refine fr_tup (xs := [.str "no", .str "yes"]) (fun i σ' H' => ∃ x y v, σ' = [some (.str z), some (.ref a), some (.bl nm), x, y, v] ∧ Evl.Ex H H' ∧ SqT K H' u [.str "no", .str "yes"])
      ⟨none, none, none, rfl, Evl.Ex.new hu, SqT.of upd_same⟩ (fun i σ' H' _ ⟨_, _, _, _, _, h⟩ => h) (fun i x σ' H1 hi hP => ?_) fun σ' H1 hP => ?_
    · obtain ⟨x0, y0, v0, rfl, e1, hu1⟩ := hP
      obtain ⟨sd, rfl, hsd⟩ : ∃ sd : Str, x = .str sd ∧ (sd = "no" ∨ sd = "yes") := by
        rcases List.mem_cons.mp (List.mem_of_getElem? hi) with rfl | h
        · exact ⟨_, rfl, .inl rfl⟩
        · rw [List.mem_singleton.mp h]
          exact ⟨_, rfl, .inr rfl⟩
      refine rd_start (σ' := [some (.str z), some (.ref a), some (.bl nm), some (.str sd), y0, v0]) rfl ?_
      have hD : Row n (dropTail (heldBy z (hold sd)) ns) := hrow.sub (dropTail_sub _ _)
      walk_at "rds"
      refine ⟨z, sd, a, n, ns, rfl, hz, hn, hsd, hrow, Evl.ex_t e1 ht, fun p1 H2 e2 h1 => ?_⟩
      walk_at "rds"
      refine rd_ite2 (fun v H' => ∃ p2, v = .ref p2 ∧ Evl.Ex H2 H' ∧ SqT K H' p2 ((dropTail (heldBy z (hold sd)) ns).map V.int)) (fun R kR => ?_) (fun R kR => ?_) fun v H3 hv => ?_
      · walk_at "rds"
        exact ⟨rfl, z, sd, a, n, ns, rfl, hz, hn, hsd, hrow, Evl.ex_t (e1.trans e2) ht, fun p2 H' e h => kR _ _ ⟨p2, rfl, e, h⟩⟩
      · walk_at "rds"
        exact ⟨z, sd, a, n, ns, rfl, hz, hn, hsd, hrow, Evl.ex_t (e1.trans e2) ht, fun p2 H' e h => kR _ _ ⟨p2, rfl, e, h⟩⟩
      obtain ⟨p2, rfl, e3, h2⟩ := hv
      have h1a := Evl.ex_t e3 h1
      walk_at "rds"
      refine ⟨z, sd, p1, n, _, rfl, hz, hn, hsd, hD, h1a, fun p3 H4 e4 h3 => ?_⟩
      rw [dropTail_idem] at h3
      have nD : Nice 60 1 (.tuple (dI (dropTail (heldBy z (hold sd)) ns))) := nice_row hD hn
      have nDD : Nice 122 2 (.list [.tuple (dI (dropTail (heldBy z (hold sd)) ns)), .tuple (dI (dropTail (heldBy z (hold sd)) ns))]) := (Nice.lst (nD.cons2 nD)).mono (by decide) (by decide)
      walk_at "rds"
      refine ⟨(by show 2 ≤ sizeLine; decide), fun b hb => ?_⟩
      have x5 : Evl.Ex H4 (upd H4 b (.lst [V.ref p2, V.ref p3])) := Evl.Ex.new hb
      walk_at "rds"
      refine rd_repr (.lst (SqL.of upd_same) (.cons (dp_T (Evl.ex_t (e4.trans x5) h2)) (.cons (dp_T (Evl.ex_t x5 h3)) .nil))) nDD (by decide) (by decide) rfl ?_
      walk_at "rds"
      refine ⟨(by show 2 ≤ sizeLine; decide), fun c hc => ?_⟩
      have x6 := x5.trans (Evl.Ex.new (o := .lst [V.ref p1, V.ref p1]) hc)
      have h1c := Evl.ex_t (e4.trans x6) h1a
      walk_at "rds"
      refine rd_repr (.lst (SqL.of upd_same) (.cons (dp_T h1c) (.cons (dp_T h1c) .nil))) nDD (by decide) (by decide) rfl ?_
      walk_at "rds"
      refine rd_iten (fun c => absurd rfl c) fun _ => ?_
      have x7 := ((e1.trans e2).trans e3).trans (e4.trans x6)
      walk_at "rds"
      refine ⟨z, sd, a, n, ns, rfl, hz, hn, hsd, hrow, Evl.ex_t x7 ht, fun p4 H8 e8 h4 => ?_⟩
      walk_at "rds"
      refine rd_neD (dp_T (Evl.ex_t e8 h1c)) (dp_T h4) nD nD (by decide) (by decide) ?_
      rw [SeqAt.eqv_refl _ nD.lay]
      walk_at "rds"
      refine ⟨some (.str sd), some (.ref p1), some (.ref p2), rfl, x7.trans e8, ?_⟩
      exact Evl.ex_t ((((e2.trans e3).trans (e4.trans x6))).trans e8) hu1
    · obtain ⟨x0, y0, v0, rfl, e1, _⟩ := hP
      walk_at "rds"
      exact q _ e1
end
end K13
set_option Elab.async false
set_option linter.all false
set_option maxRecDepth 100000
set_option maxHeartbeats 400000
namespace K13
open PySem PySem.Spec PyProof.Rows L2 Ea
local macro_rules | `(tactic| walk_at "rd") => `(tactic| first
  | (with_reducible refine rd_seq ?_) | (with_reducible refine rd_asg ?_) | (with_reducible refine rd_if ?_) | (with_reducible refine rd_ret ?_) | (with_reducible refine rd_next ?_)
  | (with_reducible refine rd_drop ?_) | ((with_reducible refine rd_name (σ' := ?ss) ?hs ?_); (case hs => (dsimp only [List.set]; exact rfl)))
  | ((with_reducible refine rd_var (v := ?vv) ?hv ?_); (case hv => exact rfl)) | (with_reducible refine rd_c ?_) | (with_reducible refine rd_op ?_) | (with_reducible refine rd_un ?_)
  | (with_reducible refine rd_I0 ?_) | (with_reducible refine rd_U ?_) | (with_reducible refine rd_test ?_) | (with_reducible refine rd_B ?_) | (with_reducible refine rd_k ?_)
  | (with_reducible refine rd_not ?_) | (with_reducible refine rd_and ?_) | (with_reducible refine rd_or ?_) | (with_reducible refine rd_ifE ?_)
  | (with_reducible refine rd_par ?_) | ((with_reducible refine rd_par2 (σ' := ?ss) ?hs ?_); (case hs => (dsimp only [List.set]; exact rfl)))
  | (with_reducible refine rd_andV ?_) | (with_reducible refine rd_orV ?_) | (with_reducible refine rd_notV ?_)
  | (with_reducible refine rd_lc ?_) | (with_reducible refine rd_iTup ?_) | (with_reducible refine rd_iList ?_) | (with_reducible refine rd_iRng1 ?_)
  | (with_reducible refine rd_yes ?_) | (with_reducible refine rd_true ?_) | (with_reducible refine rd_false ?_) | (with_reducible refine rd_m1 ?_) | (with_reducible refine rd_isS ?_)
  | ((with_reducible refine rd_eq ?hs ?_); (case hs => exact rfl)) | ((with_reducible refine rd_ne ?hs ?_); (case hs => exact rfl))
  | (with_reducible refine rd_listRg ?_) | (with_reducible refine rd_rg2 ?_) | (with_reducible refine rd_rgk ?_)
  | (with_reducible refine rd_dnew ?_) | (with_reducible refine rd_ddel ?_) | (with_reducible refine rd_kw ?_) | (with_reducible refine rd_callS ?_) | (with_reducible refine rd_dc ?_) | (with_reducible refine rd_for ?_) | (with_reducible refine rd_tru ?_) | (with_reducible refine rd_truI ?_)
  | (with_reducible refine rd_nil ?_) | (with_reducible refine rd_cons ?_) | (with_reducible refine rd_call ?_) | (with_reducible refine rd_cb ?_)
  | (with_reducible refine rd_tup ?_) | (with_reducible refine rd_lst ?_) | (with_reducible refine rd_dget ?_) | (with_reducible refine rd_dput ?_) | (with_reducible refine rd_sl ?_)
  | (with_reducible refine rd_nopart ?_) | (with_reducible refine rd_part ?_) | (with_reducible refine rd_parti ?_) | (with_reducible refine rd_bm ?_) | (with_reducible refine rd_bm0 ?_)
  | (with_reducible refine rd_int ?_) | (with_reducible refine rd_intb ?_) | (with_reducible refine rd_abs ?_) | (with_reducible refine rd_min2 ?_) | (with_reducible refine rd_max2 ?_))
local macro_rules | `(tactic| walk_at "rds") => `(tactic| repeat (walk_at "rd"))

theorem Seen.eq {xs ys : List Int} {d e : PyData} (h : Seen xs ys d) (h2 : Seen xs ys e) : d = e := by
  rcases h with ⟨c, r, j, rfl⟩ | ⟨c, rfl⟩ <;> rcases h2 with ⟨c2, r2, j2, rfl⟩ | ⟨c2, rfl⟩
  · rw [j.eq j2]
  · exact absurd c c2
  · exact absurd c2 c
  · rfl
theorem Seen.comm {n : Nat} {xs ys : List Int} {d : PyData} (a : Row n xs) (b : Row n ys) (h : Seen ys xs d) : Seen xs ys d := by
  rcases h with ⟨c, r, j, rfl⟩ | ⟨c, rfl⟩
  · exact .inl ⟨by rw [← against_comm a b]; exact c, r, j.comm a b, rfl⟩
  · exact .inr ⟨by rw [← against_comm a b]; exact c, rfl⟩
theorem nice_row_word : Nice 3 0 (.str "row") := Nice.str (by decide) (by decide) (by first | decide | decide +kernel | kernel_rfl | simp [PyData.canLay0])
theorem nice_unfit : Nice 5 0 (.str "unfit") := Nice.str (by decide) (by decide) (by first | decide | decide +kernel | kernel_rfl | simp [PyData.canLay0])
theorem Seen.nice {n : Nat} {xs ys : List Int} {d : PyData} (a : Row n xs) (b : Row n ys) (hn : n ≤ 60) (h : Seen xs ys d) : Nice 70 2 d := by
  rcases h with ⟨c, r, j, rfl⟩ | ⟨c, rfl⟩
  · exact (Nice.lst (((nice_row_word.mono (Nat.le_refl 3) (by decide : 0 ≤ 1)).cons2 (nice_row (j.row a b) hn)))).mono (by decide) (by decide)
  · exact (Nice.lst (nice_unfit.cons2 (Nice.bool true))).mono (by decide) (by decide)
theorem against_row {n : Nat} {xs ys : List Int} (a : Row n xs) : Row n (against xs ys) := Row.of_letters (against_lt a) fun x hx => against_pos a hx
section
variable {P : Program} {w : World} {K : PySem.W.Frag} {mg : Str → Option Value} {base : Heap}
def spIsMet (K : PySem.W.Frag) : Sp := fun vs H Q _ => ∃ (a b : Addr) (nm : Bool) (n : Nat) (xs ys : List Int), vs = [.ref a, .ref b, .bl nm] ∧ SqT K H a (xs.map V.int) ∧ SqT K H b (ys.map V.int) ∧ n ≤ 60 ∧ Row n xs ∧ Row n ys ∧
  ∀ H', Evl.Ex H H' → Q (.bl true) H'
theorem ok_is_met {f fA fC fJ fS : Addr} {fd fdA fdC fdJ fdS : FuncData} (F : Fun K "_law_is_met" "_law_is_met" s_law_is_met f fd) (T : Bl mg)
    (G_law_against : FnOk P w K mg base CX0 1 fA fdA ["one", "other"] (spAgainst K)) (C_law_against : Callee K mg "_law_against" fA fdA ["one", "other"])
    (Gclashes : FnOk P w K mg base CX0 1 fC fdC ["one", "other"] (spAgainst K)) (Cclashes : Callee K mg "clashes" fC fdC ["one", "other"]) (Kclashes : KwRev fdC ["one", "other"])
    (G_law_joined : FnOk P w K mg base CX0 2 fJ fdJ ["one", "other"] (spJoined K)) (C_law_joined : Callee K mg "_law_joined" fJ fdJ ["one", "other"])
    (G_law_seen : FnOk P w K mg base CX0 3 fS fdS ["one", "other", "is_named"] (spSeen K)) (C_law_seen : Callee K mg "_law_seen" fS fdS ["one", "other", "is_named"]) :
    FnG P w K mg base 4 f fd ["one", "other", "is_named"] (spIsMet K) := by
  refine okG F sc_law_is_met (fun vs H Q E h => ?_) (fun cdv A outer s H vs Q E hr hg h => ?_)
  · obtain ⟨a, b, nm, n, xs, ys, rfl, _⟩ := h
    rfl
  · obtain ⟨a, b, nm, n, xs, ys, rfl, ha, hb, hn, hx, hy, q⟩ := h
    have lx := hx.length
    have ly := hy.length
    have nx : Nice 60 1 (.tuple (dI xs)) := nice_row hx hn
    have ny : Nice 60 1 (.tuple (dI ys)) := nice_row hy hn
    have nK : Nice 122 2 (.list [.tuple (dI xs), .tuple (dI ys)]) := (Nice.lst (nx.cons2 ny)).mono (by decide) (by decide)
    have nu : Nice 60 1 (.tuple (dI (against xs ys))) := nice_row (against_row hx) hn
    have nU : Nice 122 2 (.list [.tuple (dI (against xs ys)), .tuple (dI (against xs ys))]) := (Nice.lst (nu.cons2 nu)).mono (by decide) (by decide)
    refine ⟨_, (pss_cons (ps_par (i := 3) (j := 4) rfl sc_law_is_met.nd rfl rfl (by decide) rfl rfl (pa_cons (pe_callB (c_repr (K := K) rfl hg hr.units) (by rfl) T.repr (by decide +kernel) (pa_cons (pe_lst (pa_cons (pv 0) (pa_cons (pv 1) pa_nil))) pa_nil)) (pa_cons (pe_call G_law_against (hr.mono (by decide)) (by rfl) C_law_against.m C_law_against.k C_law_against.b .nil pass0 (pa_cons (pv 0) (pa_cons (pv 1) pa_nil))) pa_nil)) (by rfl))
 (pss_cons (ps_set (i := 5) sc_law_is_met.nd rfl (Or.inl rfl) (pe_ifExp (pt_val (pv 2)) (pe_kw (E := fun _ => E0) (ks := ["other", "one"]) (g := List.reverse) (gV := List.reverse) Gclashes (hr.mono (by decide)) (by rfl) Cclashes.m Cclashes.k Kclashes (fun _ r => rel_rev r) (fun _ => passAt0) (pk_cons (pv 1) (pk_cons (pv 0) pk_nil))) (pe_call Gclashes (hr.mono (by decide)) (by rfl) Cclashes.m Cclashes.k Cclashes.b .nil pass0 (pa_cons (pv 0) (pa_cons (pv 1) pa_nil)))))
 (pss_cons (ps_if (pt_cmpR op_ne (pe_callB (c_repr (K := K) rfl hg hr.units) (by rfl) T.repr (by decide +kernel) (pa_cons (pe_lst (pa_cons (pv 5) (pa_cons (pe_call Gclashes (hr.mono (by decide)) (by rfl) Cclashes.m Cclashes.k Cclashes.b .nil pass0 (pa_cons (pv 1) (pa_cons (pv 0) pa_nil))) pa_nil))) pa_nil)) (pe_callB (c_repr (K := K) rfl hg hr.units) (by rfl) T.repr (by decide +kernel) (pa_cons (pe_op op_rep (pe_lst (pa_cons (pe_callTy (c_tuple (K := K) rfl) (by rfl) T.tuple (by decide +kernel) (pa_cons (pe_callB (cr_sortedT (K := K) rfl) (by rfl) T.sorted (by decide +kernel) (pa_cons (pv 4) pa_nil)) pa_nil)) pa_nil)) pe_int) pa_nil)) (nomark _)) (pss_one (ps_ret pe_bl)) pss_nil)
 (pss_cons (ps_set (i := 6) sc_law_is_met.nd rfl (Or.inl rfl) (pe_ifExp (pt_cmpR op_eq (pe_callB (c_len (K := K) rfl) (by rfl) T.len (by decide +kernel) (pa_cons (pv 4) pa_nil)) pe_int (nomark _)) (pe_lst (pa_cons pe_str (pa_cons (pe_call G_law_joined (hr.mono (by decide)) (by rfl) C_law_joined.m C_law_joined.k C_law_joined.b .nil pass0 (pa_cons (pv 0) (pa_cons (pv 1) pa_nil))) pa_nil))) (pe_lst (pa_cons pe_str (pa_cons pe_bl pa_nil)))))
 (pss_cons (ps_set (i := 7) sc_law_is_met.nd rfl (Or.inl rfl) (pe_lst (pa_cons (pe_call G_law_seen (hr.mono (by decide)) (by rfl) C_law_seen.m C_law_seen.k C_law_seen.b .nil pass0 (pa_cons (pv 0) (pa_cons (pv 1) (pa_cons (pv 2) pa_nil)))) (pa_cons (pe_call G_law_seen (hr.mono (by decide)) (by rfl) C_law_seen.m C_law_seen.k C_law_seen.b .nil pass0 (pa_cons (pv 0) (pa_cons (pv 1) (pa_cons pe_bl pa_nil)))) (pa_cons (pe_call G_law_seen (hr.mono (by decide)) (by rfl) C_law_seen.m C_law_seen.k C_law_seen.b .nil pass0 (pa_cons (pv 1) (pa_cons (pv 0) (pa_cons pe_bl pa_nil)))) pa_nil)))))
 (pss_one (ps_ret (pe_and (pe_cmpR op_eq (pe_callB (c_repr (K := K) rfl hg hr.units) (by rfl) T.repr (by decide +kernel) (pa_cons (pv 7) pa_nil)) (pe_callB (c_repr (K := K) rfl hg hr.units) (by rfl) T.repr (by decide +kernel) (pa_cons (pe_op op_rep (pe_lst (pa_cons (pv 6) pa_nil)) pe_int) pa_nil)) (nomark _)) (pe_one (pe_cmpR op_eq (pe_callB (c_repr (K := K) rfl hg hr.units) (by rfl) T.repr (by decide +kernel) (pa_cons (pe_lst (pa_cons (pv 0) (pa_cons (pv 1) pa_nil))) pa_nil)) (pv 3) (nomark _))))))))))), ?_⟩
    refine rd_start (σ' := [some (.ref a), some (.ref b), some (.bl nm), none, none, none, none, none]) rfl ?_
    walk_at "rds"
    refine ⟨(by show 2 ≤ sizeLine; decide), fun u hu => ?_⟩
    have e0 : Evl.Ex H (upd H u (.lst [V.ref a, V.ref b])) := Evl.Ex.new hu
    walk_at "rds"
    refine rd_repr (.lst (SqL.of upd_same) (.cons (dp_T (Evl.ex_t e0 ha)) (.cons (dp_T (Evl.ex_t e0 hb)) .nil))) nK (by decide) (by decide) rfl ?_
    walk_at "rds"
    refine ⟨a, b, xs, ys, rfl, Evl.ex_t e0 ha, Evl.ex_t e0 hb, by omega, by omega, fun g H1 e1 hg1 => ?_⟩
    have e01 := e0.trans e1
    walk_at "rds"
    refine rd_ite2 (fun v H' => ∃ p2, v = .ref p2 ∧ Evl.Ex H1 H' ∧ SqT K H' p2 ((against xs ys).map V.int)) (fun R kR => ?_) (fun R kR => ?_) fun v H2 hv => ?_
    · walk_at "rds"
      exact ⟨rfl, a, b, xs, ys, rfl, Evl.ex_t e01 ha, Evl.ex_t e01 hb, by omega, by omega, fun p2 H' e h => kR _ _ ⟨p2, rfl, e, h⟩⟩
    · walk_at "rds"
      exact ⟨a, b, xs, ys, rfl, Evl.ex_t e01 ha, Evl.ex_t e01 hb, by omega, by omega, fun p2 H' e h => kR _ _ ⟨p2, rfl, e, h⟩⟩
    obtain ⟨p2, rfl, e2, h2⟩ := hv
    have e02 := e01.trans e2
    walk_at "rds"
    refine ⟨b, a, ys, xs, rfl, Evl.ex_t e02 hb, Evl.ex_t e02 ha, by omega, by omega, fun p3 H3 e3 h3 => ?_⟩
    rw [against_comm hx hy] at h3
    walk_at "rds"
    refine ⟨(by show 2 ≤ sizeLine; decide), fun c hc => ?_⟩
    have x4 : Evl.Ex H3 (upd H3 c (.lst [V.ref p2, V.ref p3])) := Evl.Ex.new hc
    walk_at "rds"
    refine rd_repr (.lst (SqL.of upd_same) (.cons (dp_T (Evl.ex_t (e3.trans x4) h2)) (.cons (dp_T (Evl.ex_t x4 h3)) .nil))) nU (by decide) (by decide) rfl ?_
    walk_at "rds"
    have lg : (against xs ys).length ≤ 60 := Nat.le_trans (against_row (ys := ys) hx).length hn
    have g4 := Evl.ex_t (((e2.trans e3)).trans x4) hg1
    refine rd_sortT g4 (by omega) fun ms v pm sm hv => ?_
    have em := sorted_same pm sm (against_lt hx)
    subst em
    have x5 := Evl.Ex.new (o := .lst ((against xs ys).map V.int)) hv
    walk_at "rds"
    refine rd_tupL (SqL.of upd_same) fun o ho => ?_
    have x6 := Evl.Ex.new (o := .tup ((against xs ys).map V.int)) ho
    walk_at "rds"
    refine ⟨(by show 1 ≤ sizeLine; decide), fun l hl => ?_⟩
    walk_at "rds"
    refine rd_mulL upd_same (by decide) (by show 1 * 2 ≤ sizeLine; decide) fun l2 hl2 => ?_
    walk_at "rds"
    have o1 : SqT K (upd (upd (upd H3 c (.lst [V.ref p2, V.ref p3])) v (.lst ((against xs ys).map V.int))) o (.tup ((against xs ys).map V.int))) o ((against xs ys).map V.int) := SqT.of upd_same
    have x7 := Evl.Ex.new (o := .lst [V.ref o]) hl
    have x8 := Evl.Ex.new (o := .lst [V.ref o, V.ref o]) hl2
    have o8 := Evl.ex_t (x7.trans x8) o1
    refine rd_repr (.lst (xs := [V.ref o, V.ref o]) (SqL.of upd_same) (.cons (dp_T o8) (.cons (dp_T o8) .nil))) nU (by decide) (by decide) rfl ?_
    walk_at "rds"
    refine rd_iten (fun c => absurd rfl c) fun _ => ?_
    have e8 := (e02.trans (e3.trans x4)).trans ((x5.trans x6).trans (x7.trans x8))
    have g8 := Evl.ex_t ((x5.trans x6).trans (x7.trans x8)) g4
    have a8 := Evl.ex_t e8 ha
    have b8 := Evl.ex_t e8 hb
    walk_at "rds"
    refine rd_lenT g8 ?_
    walk_at "rds"
    rw [List.length_map]
    refine rd_ite2p (fun y H' => ∃ z d, y = .ref z ∧ Evl.Ex (upd (upd (upd (upd (upd H3 c (.lst [V.ref p2, V.ref p3])) v (.lst ((against xs ys).map V.int))) o (.tup ((against xs ys).map V.int))) l (.lst [V.ref o])) l2 (.lst [V.ref o, V.ref o])) H' ∧ Seen xs ys d ∧ Dp K H' (.ref z) d) (fun c R kR => ?_) (fun c R kR => ?_) fun v' H5 hv' => ?_
    · have c1 : (against xs ys).length = 1 := by
        have := V.int.inj c
        omega
      walk_at "rds"
      refine ⟨a, b, n, xs, ys, rfl, a8, b8, hn, hx, hy, fun j r H9 e9 hj hr9 => ?_⟩
      walk_at "rds"
      refine ⟨(by show 2 ≤ sizeLine; decide), fun p hp => ?_⟩
      exact kR _ _ ⟨p, _, rfl, e9.trans (Evl.Ex.new hp), .inl ⟨c1, r, hj, rfl⟩, .lst (SqL.of upd_same) (.cons (.str _) (.cons (dp_T (Evl.ex_t (Evl.Ex.new hp) hr9)) .nil))⟩
    · have c1 : (against xs ys).length ≠ 1 := fun e => c (by rw [e]; rfl)
      walk_at "rds"
      refine ⟨(by show 2 ≤ sizeLine; decide), fun p hp => ?_⟩
      exact kR _ _ ⟨p, _, rfl, Evl.Ex.new hp, .inr ⟨c1, rfl⟩, .lst (SqL.of upd_same) (.cons (.str _) (.cons (.bl _) .nil))⟩
    obtain ⟨z, d, rfl, e5, sd, dz⟩ := hv'
    have a5 := Evl.ex_t e5 a8
    have b5 := Evl.ex_t e5 b8
    have e05 := e8.trans e5
    walk_at "rds"
    refine ⟨a, b, nm, n, xs, ys, rfl, a5, b5, hn, hx, hy, fun q1 d1 F1 f1 s1 k1 => ?_⟩
    have u1 := s1.eq sd
    subst u1
    walk_at "rds"
    refine ⟨a, b, false, n, xs, ys, rfl, Evl.ex_t f1 a5, Evl.ex_t f1 b5, hn, hx, hy, fun q2 d2 F2 f2 s2 k2 => ?_⟩
    have u2 := s2.eq sd
    subst u2
    walk_at "rds"
    refine ⟨b, a, false, n, ys, xs, rfl, Evl.ex_t (f1.trans f2) b5, Evl.ex_t (f1.trans f2) a5, hn, hy, hx, fun q3 d3 F3 f3 s3 k3 => ?_⟩
    have u3 := (s3.comm hx hy).eq sd
    subst u3
    walk_at "rds"
    refine ⟨(by show 3 ≤ sizeLine; decide), fun c2 hc2 => ?_⟩
    have f4 : Evl.Ex F3 (upd F3 c2 (.lst [V.ref q1, V.ref q2, V.ref q3])) := Evl.Ex.new hc2
    have nd := sd.nice hx hy hn
    have nDD : Nice 300 3 (.list [d3, d3, d3]) := (Nice.lst (nd.cons3 nd nd)).mono (by decide) (by decide)
    walk_at "rds"
    refine rd_repr (.lst (xs := [V.ref q1, V.ref q2, V.ref q3]) (SqL.of upd_same) (.cons (dp_ex (f2.trans (f3.trans f4)) _ _ k1) (.cons (dp_ex (f3.trans f4) _ _ k2) (.cons (dp_ex f4 _ _ k3) .nil)))) nDD (by decide) (by decide) rfl ?_
    walk_at "rds"
    refine ⟨(by show 1 ≤ sizeLine; decide), fun l3 hl3 => ?_⟩
    walk_at "rds"
    refine rd_mulL upd_same (by decide) (by show 1 * 3 ≤ sizeLine; decide) fun l4 hl4 => ?_
    have f5 := Evl.Ex.new (o := .lst [V.ref z]) hl3
    have f6 := Evl.Ex.new (o := .lst [V.ref z, V.ref z, V.ref z]) hl4
    have f7 := f4.trans (f5.trans f6)
    have z7 := dp_ex (((f1.trans f2).trans f3).trans f7) _ _ dz
    walk_at "rds"
    refine rd_repr (.lst (xs := [V.ref z, V.ref z, V.ref z]) (SqL.of upd_same) (.cons z7 (.cons z7 (.cons z7 .nil)))) nDD (by decide) (by decide) rfl ?_
    walk_at "rds"
    have e7 := e05.trans (((f1.trans f2).trans f3).trans f7)
    refine rd_ite (fun _ => ?_) (fun c => absurd rfl c)
    walk_at "rds"
    refine ⟨(by show 2 ≤ sizeLine; decide), fun l5 hl5 => ?_⟩
    have x9 := e7.trans (Evl.Ex.new (o := .lst [V.ref a, V.ref b]) hl5)
    walk_at "rds"
    refine rd_repr (.lst (xs := [V.ref a, V.ref b]) (SqL.of upd_same) (.cons (dp_T (Evl.ex_t x9 ha)) (.cons (dp_T (Evl.ex_t x9 hb)) .nil))) nK (by decide) (by decide) rfl ?_
    walk_at "rds"
    rw [decide_eq_true (rfl : V.str (PyData.list [PyData.tuple (dI xs), PyData.tuple (dI ys)]).shown = _)]
    exact q _ x9
end
end K13
set_option Elab.async false
set_option linter.all false
set_option maxRecDepth 100000
set_option maxHeartbeats 400000
namespace K13
open PySem PySem.Spec PyProof.Rows L2 Ea
abbrev s_law_deck : Stmt := topS 9
theorem sc_law_deck : FnScope ["script", "deck", "cell", "whole", "state"] ["script"] (defScope s_law_deck) :=
  ⟨rfl, rfl, rfl, by decide +kernel, rfl, by decide +kernel, by decide +kernel⟩
local macro_rules | `(tactic| walk_at "rd") => `(tactic| first
  | (with_reducible refine rd_seq ?_) | (with_reducible refine rd_asg ?_) | (with_reducible refine rd_if ?_) | (with_reducible refine rd_ret ?_) | (with_reducible refine rd_next ?_)
  | (with_reducible refine rd_drop ?_) | ((with_reducible refine rd_name (σ' := ?ss) ?hs ?_); (case hs => (dsimp only [List.set]; exact rfl)))
  | ((with_reducible refine rd_var (v := ?vv) ?hv ?_); (case hv => exact rfl)) | (with_reducible refine rd_c ?_) | (with_reducible refine rd_op ?_) | (with_reducible refine rd_un ?_)
  | (with_reducible refine rd_I0 ?_) | (with_reducible refine rd_U ?_) | (with_reducible refine rd_test ?_) | (with_reducible refine rd_B ?_) | (with_reducible refine rd_k ?_)
  | (with_reducible refine rd_not ?_) | (with_reducible refine rd_and ?_) | (with_reducible refine rd_or ?_) | (with_reducible refine rd_ifE ?_)
  | (with_reducible refine rd_par ?_) | ((with_reducible refine rd_par2 (σ' := ?ss) ?hs ?_); (case hs => (dsimp only [List.set]; exact rfl)))
  | (with_reducible refine rd_andV ?_) | (with_reducible refine rd_orV ?_) | (with_reducible refine rd_notV ?_)
  | (with_reducible refine rd_lc ?_) | (with_reducible refine rd_iTup ?_) | (with_reducible refine rd_iList ?_) | (with_reducible refine rd_iRng1 ?_)
  | (with_reducible refine rd_yes ?_) | (with_reducible refine rd_true ?_) | (with_reducible refine rd_false ?_) | (with_reducible refine rd_m1 ?_) | (with_reducible refine rd_isS ?_)
  | ((with_reducible refine rd_eq ?hs ?_); (case hs => exact rfl)) | ((with_reducible refine rd_ne ?hs ?_); (case hs => exact rfl))
  | (with_reducible refine rd_listRg ?_) | (with_reducible refine rd_rg2 ?_) | (with_reducible refine rd_rgk ?_)
  | (with_reducible refine rd_dnew ?_) | (with_reducible refine rd_ddel ?_) | (with_reducible refine rd_kw ?_) | (with_reducible refine rd_callS ?_) | (with_reducible refine rd_dc ?_) | (with_reducible refine rd_for ?_) | (with_reducible refine rd_tru ?_) | (with_reducible refine rd_truI ?_)
  | (with_reducible refine rd_nil ?_) | (with_reducible refine rd_cons ?_) | (with_reducible refine rd_call ?_) | (with_reducible refine rd_cb ?_)
  | (with_reducible refine rd_tup ?_) | (with_reducible refine rd_lst ?_) | (with_reducible refine rd_dget ?_) | (with_reducible refine rd_dput ?_) | (with_reducible refine rd_sl ?_)
  | (with_reducible refine rd_nopart ?_) | (with_reducible refine rd_part ?_) | (with_reducible refine rd_parti ?_) | (with_reducible refine rd_bm ?_) | (with_reducible refine rd_bm0 ?_)
  | (with_reducible refine rd_int ?_) | (with_reducible refine rd_intb ?_) | (with_reducible refine rd_abs ?_) | (with_reducible refine rd_min2 ?_) | (with_reducible refine rd_max2 ?_))
local macro_rules | `(tactic| walk_at "rds") => `(tactic| repeat (walk_at "rd"))

theorem rd_disp2 {t1 t2 t3 t4 : TE} {σ : L2.St} {H : Hp} {Q : VK} (h : ∀ p, H p = none → t1 σ (upd H p (.dK [])) fun x1 H1 => t2 σ H1 fun y1 H2 => t3 σ H2 fun x2 H3 => t4 σ H3 fun y2 H4 =>
    H4 p = some (.dK []) ∧ ∃ kvs : List (Key × V), [(x1, y1), (x2, y2)] = kvs.map (fun kv => (kV kv.1, kv.2)) ∧ kvs.length ≤ 15 ∧ Q (.ref p) (upd H4 p (.dK (mergeK [] kvs)))) : tDisp [(t1, t2), (t3, t4)] σ H Q := h
theorem deck_putD {d l m : Addr} {s : Int} {H : Hp} (h : H d = some (.dK [(.inr "deep", .ref l), (.inr "state", .int s)])) :
    DPut H d (.str "deep") (.ref m) (upd H d (.dK [(.inr "deep", .ref m), (.inr "state", .int s)])) :=
  DPut.k (k := Sum.inr "deep") (v := .ref m) h (by show 2 < sizeLine; rw [sizeLine_eq]; omega)
section
variable {P : Program} {w : World} {K : PySem.W.Frag} {mg : Str → Option Value} {base : Heap}
def spDeck (K : PySem.W.Frag) : Sp := fun vs H Q _ => ∃ (a : Addr) (ns : List Int), vs = [.ref a] ∧ SqL K H a (ns.map V.int) ∧ ns.length ≤ 63 ∧
  ∀ (d l : Addr) (H' : Hp), Evl.Ex H H' → H d = none → H l = none → DeckB d l H' → Q (.ref d) H'
theorem ok_deck {f : Addr} {fd : FuncData} (F : Fun K "_law_deck" "_law_deck" s_law_deck f fd) (T : Bl mg) : FnOk P w K mg base CX0 1 f fd ["script"] (spDeck K) := by
  refine F.ok sc_law_deck (fun vs H Q E h => ?_) (fun cdv A outer s H vs Q E hr h => ?_)
  · obtain ⟨a, ns, rfl, _⟩ := h
    rfl
  · obtain ⟨a, ns, rfl, ha, hl, q⟩ := h
    refine ⟨_, (pss_cons (ps_set (i := 1) sc_law_deck.nd rfl (Or.inl rfl) (pe_disp (pps_cons pe_str (pe_lst pa_nil) (pps_cons pe_str (pe_op op_add pe_int (pe_callB (c_len (K := K) rfl) (by rfl) T.len (by decide +kernel) (pa_cons (pe_slice (sk_list (K := K) rfl) (pv 0) po_none (po_some pe_int)) pa_nil))) pps_nil)) (by rfl) (by rfl) (fun z => by cases z) (by decide)))
 (pss_cons (ps_for PassesOwn.never rfl (ik_listI (K := K) rfl (pe_slice (sk_list (K := K) rfl) (pv 0) po_none (po_some pe_int))) (pg_name (i := 2) sc_law_deck.nd rfl (Or.inl rfl)) (pss_cons (ps_set (i := 3) sc_law_deck.nd rfl (Or.inl rfl) (pe_callB c_abs (by rfl) T.abs (by decide +kernel) (pa_cons (pv 2) pa_nil)))
 (pss_cons (ps_if (pt_cmpR op_ge (pv 3) (pe_op op_pow pe_int pe_int) (nomark _)) (pss_one (ps_dput (hu_of hr) (pv 1) pe_str (pe_op op_cat (pe_lst (pa_cons (pv 3) pa_nil)) (pe_dget (hu_of hr) (pv 1) pe_str (fun _ _ => rfl))) rfl)) pss_nil)
 (pss_cons (ps_set (i := 4) sc_law_deck.nd rfl (Or.inl rfl) (pe_op op_add (pe_op op_mul (pe_op op_add (pe_op op_add (pe_op op_add (pe_dget (hu_of hr) (pv 1) pe_str (fun _ _ => rfl)) (pe_op op_mul pe_int (pv 3))) (pe_callTy c_int (by rfl) T.int (by decide +kernel) (pa_cons (pe_cmpR op_lt (pv 2) pe_int (nomark _)) pa_nil))) pe_int) pe_int) pe_int))
 (pss_one (ps_dput (hu_of hr) (pv 1) pe_str (pe_op op_mod (pe_callTy c_int (by rfl) T.int (by decide +kernel) (pa_cons (pv 4) pa_nil)) pe_int) rfl))))))
 (pss_one (ps_ret (pv 1))))), ?_⟩
    refine rd_start (σ' := [some (.ref a), none, none, none, none]) rfl ?_
    walk_at "rds"
    refine rd_disp2 fun d hd => ?_
    have e1 : Evl.Ex H (upd H d (.dK [])) := Evl.Ex.new hd
    walk_at "rds"
    refine ⟨Nat.zero_le _, fun l hl0 => ?_⟩
    have hdl : d ≠ l := ne_of_none upd_same hl0
    have e2 := e1.trans (Evl.Ex.new (o := .lst []) hl0)
    walk_at "rds"
    refine rd_slL (Evl.ex_l e2 ha) fun u hu => ?_
    have e3 := e2.trans (Evl.Ex.new (o := .lst (cutV (ns.map V.int) none (some 63))) hu)
    rw [show ((63 : Int)) = ((63 : Nat) : Int) from rfl, cut_take (by omega), List.take_of_length_le (by rw [List.length_map]; exact hl)] at e3 ⊢
    walk_at "rds"
    refine rd_lenL (SqL.of upd_same) ?_
    rw [List.length_map]
    walk_at "rds"
    have hdu : d ≠ u := ne_of_none ((upd_ne hdl).trans upd_same) hu
    have hlu : l ≠ u := ne_of_none upd_same hu
    refine ⟨(upd_ne hdu).trans ((upd_ne hdl).trans upd_same), [(.inr "deep", .ref l), (.inr "state", .int (1394413 + (ns.length : Int)))], rfl, (by show 2 ≤ 15; decide), ?_⟩
    have e4 := Evl.Ex.mut (o := .dK (mergeK [] [(.inr "deep", .ref l), (.inr "state", .int (1394413 + (ns.length : Int)))])) e3 hd
    walk_at "rds"
    refine rd_slL (Evl.ex_l e4 ha) fun v hv => ?_
    have e5 := e4.trans (Evl.Ex.new (o := .lst (cutV (ns.map V.int) none (some ((63 : Nat) : Int)))) hv)
    rw [cut_take (by omega), List.take_of_length_le (by rw [List.length_map]; exact hl)] at e5 ⊢
    have hdv : d ≠ v := ne_of_none upd_same hv
    have hlv : l ≠ v := ne_of_none ((upd_ne hdl.symm).trans ((upd_ne hlu).trans upd_same)) hv
    have hl1 : H l = none := Evl.fresh_back e1 hl0
    have hv1 : H v = none := Evl.fresh_back e4 hv
    refine rd_refL (SqL.of upd_same) ?_
    refine fr_list (xs := ns.map V.int) (fun i σ' H' => ∃ (ms : List Int) (m : Addr) (s : Int) (x y z : Option V), σ' = [some (.ref a), some (.ref d), x, y, z] ∧ Evl.Ex H H' ∧ H' d = some (.dK [(.inr "deep", .ref m), (.inr "state", .int s)]) ∧ H' m = some (.lst (ms.map V.int)) ∧ H m = none ∧
        ms.length ≤ i ∧ (∀ k ∈ ms, 0 ≤ k) ∧ 0 ≤ s ∧ s < 2305843009213693951 ∧ H' v = some (.lst (ns.map V.int)))
      ⟨[], l, _, none, none, none, rfl, e5, (upd_ne hdv).trans upd_same, (upd_ne hlv).trans ((upd_ne hdl.symm).trans ((upd_ne hlu).trans upd_same)), hl1, Nat.le_refl _, nofun, by omega, by omega, upd_same⟩
      (fun i σ' H' _ ⟨_, _, _, _, _, _, _, _, _, _, _, _, _, _, _, h⟩ => SqL.of h) (fun i x σ' H1 hi hP => ?_) fun σ' H1 hP => ?_
    · obtain ⟨ms, m, s, x0, y0, z0, rfl, f1, f2, f3, f4, f5, f6, f7, f8, f9⟩ := hP
      rw [List.getElem?_map] at hi
      obtain ⟨t, ht, rfl⟩ := Option.map_eq_some_iff.mp hi
      refine rd_start (σ' := [some (.ref a), some (.ref d), some (.int t), y0, z0]) rfl ?_
      walk_at "rds"
      refine rd_I ⟨by decide, by decide, by decide⟩ ?_
      walk_at "rds"
      refine rd_meet (fun σ' H' => ∃ (ms : List Int) (m : Addr), σ' = [some (.ref a), some (.ref d), some (.int t), some (.int (t.natAbs : Int)), z0] ∧ Evl.Ex H H' ∧ H' d = some (.dK [(.inr "deep", .ref m), (.inr "state", .int s)]) ∧ H' m = some (.lst (ms.map V.int)) ∧ H m = none ∧
        ms.length ≤ i + 1 ∧ (∀ k ∈ ms, 0 ≤ k) ∧ H' v = some (.lst (ns.map V.int))) (fun c N kN => ?_) (fun c N kN => ?_) fun σ' H2 hP => ?_
      · walk_at "rds"
        refine ⟨(by show 1 ≤ sizeLine; decide), fun b hb => ?_⟩
        have g1 := Evl.Ex.new (H := H1) (o := .lst [V.int (t.natAbs : Int)]) hb
        walk_at "rds"
        refine ⟨d, .ref m, rfl, deck_deep (g1 _ _ f2), ?_⟩
        refine rd_catL upd_same (g1 _ _ f3) (by rw [List.length_map, sizeLine_eq]; show 1 + _ ≤ _; have := (List.getElem?_eq_some_iff.mp ht).1; omega) fun r hr => ?_
        have g2 := g1.trans (Evl.Ex.new (o := .lst ([V.int (t.natAbs : Int)] ++ ms.map V.int)) hr)
        walk_at "rds"
        refine ⟨d, _, rfl, deck_putD (m := r) (g2 _ _ f2), ?_⟩
        have hr1 : H1 r = none := Evl.fresh_back g1 hr
        have ndr : d ≠ r := ne_of_none f2 hr1
        have ndv : d ≠ v := hdv
        refine kN _ _ ⟨(t.natAbs : Int) :: ms, r, rfl, Evl.Ex.mut (f1.trans g2) hd, upd_same, (upd_ne ndr.symm).trans upd_same, Evl.fresh_back f1 hr1, by rw [List.length_cons]; omega, fun k hk => ?_, (upd_ne ndv.symm).trans (g2 _ _ f9)⟩
        rcases List.mem_cons.mp hk with rfl | hk
        · omega
        · exact f6 k hk
      · walk_at "rds"
        exact kN _ _ ⟨ms, m, rfl, f1, f2, f3, f4, by omega, f6, f9⟩
      clear f1 f2 f3 f4 f5 f6 f9
      obtain ⟨ms', m', rfl, f1, f2, f3, f4, f5, f6, f9⟩ := hP
      walk_at "rds"
      refine ⟨d, .int s, rfl, deck_state f2, ?_⟩
      walk_at "rds"
      refine rd_I (.inl ⟨by decide, by decide⟩) ?_
      walk_at "rds"
      refine rd_I (.inr ⟨by decide, by decide⟩) ?_
      walk_at "rds"
      refine rd_I (by decide) ?_
      walk_at "rds"
      have ndm : d ≠ m' := fun e => by
        rw [← e, f2] at f3
        cases f3
      refine ⟨d, _, rfl, deck_put f2, ms', m', _, _, _, _, rfl, Evl.Ex.mut f1 hd, upd_same, (upd_ne ndm.symm).trans f3, f4, f5, f6, Int.emod_nonneg _ (by decide), Int.emod_lt_of_pos _ (by decide), (upd_ne hdv.symm).trans f9⟩
    · obtain ⟨ms, m, s, x0, y0, z0, rfl, f1, f2, f3, f4, f5, f6, f7, f8, f9⟩ := hP
      rw [List.length_map] at f5
      walk_at "rds"
      exact q d m H1 f1 hd f4 ⟨ms, s, f2, f3, by omega, f6, f7, f8⟩
end
end K13
set_option Elab.async false
set_option linter.all false
set_option maxRecDepth 100000
set_option maxHeartbeats 400000
namespace K13
open PySem PySem.Spec PyProof.Rows L2 Ea
abbrev slaw : Stmt := topS 22
theorem sclaw : FnScope ["script", "deck", "turn", "n", "owners", "one", "own", "other", "spot", "near", "rest", "turned", "literal"] ["script"] (defScope slaw) :=
  ⟨rfl, rfl, rfl, by decide +kernel, rfl, by decide +kernel, by decide +kernel⟩
local macro_rules | `(tactic| walk_at "rd") => `(tactic| first
  | (with_reducible refine rd_seq ?_) | (with_reducible refine rd_asg ?_) | (with_reducible refine rd_if ?_) | (with_reducible refine rd_ret ?_) | (with_reducible refine rd_next ?_)
  | (with_reducible refine rd_drop ?_) | ((with_reducible refine rd_name (σ' := ?ss) ?hs ?_); (case hs => (dsimp only [List.set]; exact rfl)))
  | ((with_reducible refine rd_var (v := ?vv) ?hv ?_); (case hv => exact rfl)) | (with_reducible refine rd_c ?_) | (with_reducible refine rd_op ?_) | (with_reducible refine rd_un ?_)
  | (with_reducible refine rd_I0 ?_) | (with_reducible refine rd_U ?_) | (with_reducible refine rd_test ?_) | (with_reducible refine rd_B ?_) | (with_reducible refine rd_k ?_)
  | (with_reducible refine rd_not ?_) | (with_reducible refine rd_and ?_) | (with_reducible refine rd_or ?_) | (with_reducible refine rd_ifE ?_)
  | (with_reducible refine rd_par ?_) | ((with_reducible refine rd_par2 (σ' := ?ss) ?hs ?_); (case hs => (dsimp only [List.set]; exact rfl)))
  | (with_reducible refine rd_andV ?_) | (with_reducible refine rd_orV ?_) | (with_reducible refine rd_notV ?_)
  | (with_reducible refine rd_lc ?_) | (with_reducible refine rd_iTup ?_) | (with_reducible refine rd_iList ?_) | (with_reducible refine rd_iRng1 ?_)
  | (with_reducible refine rd_yes ?_) | (with_reducible refine rd_true ?_) | (with_reducible refine rd_false ?_) | (with_reducible refine rd_m1 ?_) | (with_reducible refine rd_isS ?_)
  | ((with_reducible refine rd_eq ?hs ?_); (case hs => exact rfl)) | ((with_reducible refine rd_ne ?hs ?_); (case hs => exact rfl))
  | (with_reducible refine rd_listRg ?_) | (with_reducible refine rd_rg2 ?_) | (with_reducible refine rd_rgk ?_)
  | (with_reducible refine rd_dnew ?_) | (with_reducible refine rd_ddel ?_) | (with_reducible refine rd_kw ?_) | (with_reducible refine rd_callS ?_) | (with_reducible refine rd_dc ?_) | (with_reducible refine rd_for ?_) | (with_reducible refine rd_tru ?_) | (with_reducible refine rd_truI ?_)
  | (with_reducible refine rd_nil ?_) | (with_reducible refine rd_cons ?_) | (with_reducible refine rd_call ?_) | (with_reducible refine rd_cb ?_)
  | (with_reducible refine rd_tup ?_) | (with_reducible refine rd_lst ?_) | (with_reducible refine rd_dget ?_) | (with_reducible refine rd_dput ?_) | (with_reducible refine rd_sl ?_)
  | (with_reducible refine rd_nopart ?_) | (with_reducible refine rd_part ?_) | (with_reducible refine rd_parti ?_) | (with_reducible refine rd_bm ?_) | (with_reducible refine rd_bm0 ?_)
  | (with_reducible refine rd_int ?_) | (with_reducible refine rd_intb ?_) | (with_reducible refine rd_abs ?_) | (with_reducible refine rd_min2 ?_) | (with_reducible refine rd_max2 ?_))
local macro_rules | `(tactic| walk_at "rds") => `(tactic| repeat (walk_at "rd"))

theorem sub_snoc {ts xs : List Int} {j : Nat} {t : Int} (h : ts.Sublist (xs.take j)) (e : xs[j]? = some t) : (ts ++ [t]).Sublist (xs.take (j + 1)) := by
  rw [List.take_add_one, e]
  exact h.append (List.Sublist.refl _)
theorem sub_skip {ts xs : List Int} {j : Nat} (h : ts.Sublist (xs.take j)) : ts.Sublist (xs.take (j + 1)) := by
  rw [List.take_add_one]
  exact h.trans (List.sublist_append_left _ _)
section
variable {P : Program} {w : World} {K : PySem.W.Frag} {mg : Str → Option Value} {base : Heap}
def spLaw (K : PySem.W.Frag) : Sp := fun vs H Q _ => ∃ (a : Addr) (ns : List Int), vs = [.ref a] ∧ SqL K H a (ns.map V.int) ∧ ns.length ≤ 63 ∧ ∀ H', Q (.bl true) H'
theorem ok_law {f fK fD fP fO fC fS fM : Addr} {fd fdK fdD fdP fdO fdC fdS fdM : FuncData} (F : Fun K "law" "law" slaw f fd) (T : Bl mg)
    (G_law_deck : FnOk P w K mg base CX0 1 fK fdK ["script"] (spDeck K)) (C_law_deck : Callee K mg "_law_deck" fK fdK ["script"])
    (G_law_draw : FnOk P w K mg base CX0 1 fD fdD ["deck", "many"] spDraw) (C_law_draw : Callee K mg "_law_draw" fD fdD ["deck", "many"])
    (G_law_pick : FnOk P w K mg base CX0 2 fP fdP ["deck", "items"] spPick) (C_law_pick : Callee K mg "_law_pick" fP fdP ["deck", "items"])
    (G_law_owners : FnOk P w K mg base CX0 3 fO fdO ["deck", "n"] spOwners) (C_law_owners : Callee K mg "_law_owners" fO fdO ["deck", "n"])
    (G_law_clause : FnOk P w K mg base CX0 3 fC fdC ["deck", "n", "most"] (spClause K)) (C_law_clause : Callee K mg "_law_clause" fC fdC ["deck", "n", "most"])
    (G_law_is_short : FnG P w K mg base 2 fS fdS ["owners", "row", "is_named"] (spIsShort K)) (C_law_is_short : Callee K mg "_law_is_short" fS fdS ["owners", "row", "is_named"])
    (G_law_is_met : FnG P w K mg base 4 fM fdM ["one", "other", "is_named"] (spIsMet K)) (C_law_is_met : Callee K mg "_law_is_met" fM fdM ["one", "other", "is_named"]) :
    FnG P w K mg base 5 f fd ["script"] (spLaw K) := by
  refine okG F sclaw (fun vs H Q E h => ?_) (fun cdv A outer s H vs Q E hr hg h => ?_)
  · obtain ⟨a, ns, rfl, _⟩ := h
    rfl
  · obtain ⟨a, ns, rfl, ha, hl, q⟩ := h
    refine ⟨_, (pss_cons (ps_set (i := 1) sclaw.nd rfl (Or.inr rfl) (pe_call G_law_deck (hr.mono (by decide)) (by rfl) C_law_deck.m C_law_deck.k C_law_deck.b .nil pass0 (pa_cons (pv 0) pa_nil)))
 (pss_cons (ps_for PassesOwn.never rfl (pi_range1 (by rfl) T.range (pa_cons pe_int pa_nil)) (pg_name (i := 2) sclaw.nd rfl (Or.inl rfl)) (pss_cons (ps_set (i := 3) sclaw.nd rfl (Or.inl rfl) (pe_ix (ik_list (K := K) rfl) (pe_lst (pa_cons pe_int (pa_cons pe_int (pa_cons pe_int (pa_cons pe_int (pa_cons pe_int (pa_cons pe_int (pa_cons pe_int (pa_cons pe_int (pa_cons pe_int (pa_cons pe_int (pa_cons pe_int (pa_cons (pe_op op_add pe_int (pe_call G_law_draw (hr.mono (by decide)) (by rfl) C_law_draw.m C_law_draw.k C_law_draw.b .nil pass0 (pa_cons (pv 1) (pa_cons pe_int pa_nil)))) pa_nil))))))))))))) (pv 2) (fun _ _ => rfl)))
 (pss_cons (ps_set (i := 4) sclaw.nd rfl (Or.inl rfl) (pe_call G_law_owners (hr.mono (by decide)) (by rfl) C_law_owners.m C_law_owners.k C_law_owners.b .nil pass0 (pa_cons (pv 1) (pa_cons (pv 3) pa_nil))))
 (pss_cons (ps_set (i := 5) sclaw.nd rfl (Or.inr rfl) (pe_call G_law_clause (hr.mono (by decide)) (by rfl) C_law_clause.m C_law_clause.k C_law_clause.b .nil pass0 (pa_cons (pv 1) (pa_cons (pv 3) (pa_cons (pe_call G_law_pick (hr.mono (by decide)) (by rfl) C_law_pick.m C_law_pick.k C_law_pick.b .nil pass0 (pa_cons (pv 1) (pa_cons (pe_lst (pa_cons pe_int (pa_cons (pv 3) (pa_cons (pe_op op_add (pe_op op_fdiv (pv 3) pe_int) pe_int) pa_nil)))) pa_nil))) pa_nil)))))
 (pss_cons (ps_for PassesOwn.never rfl (ik_tupI (K := K) rfl (pe_tup (pa_cons (pv 5) (pa_cons (pe_call G_law_clause (hr.mono (by decide)) (by rfl) C_law_clause.m C_law_clause.k C_law_clause.b .nil pass0 (pa_cons (pv 1) (pa_cons (pv 3) (pa_cons (pv 3) pa_nil)))) (pa_cons (pe_callTy (c_tuple (K := K) rfl) (by rfl) T.tuple (by decide +kernel) (pa_cons (pe_lc (own := [("literal", 12)]) (g := gName 12) rfl sclaw.nd (ik_tupI (K := K) rfl (pv 5)) (blkOk_by (own := [("literal", 12)]) (N := ["script", "deck", "turn", "n", "owners", "one", "own", "other", "spot", "near", "rest", "turned", "literal"]) (sc := defScope slaw) (by decide +kernel)) (fun _ _ _ _ _ => (pg_name (i := 12) sclaw.nd rfl (Or.inl rfl))) (fun _ _ _ _ _ => pts_nil) (fun _ _ _ _ _ => (pe_un un_neg (pv 12)))) pa_nil)) (pa_cons (pe_tup pa_nil) pa_nil)))))) (pg_name (i := 6) sclaw.nd rfl (Or.inl rfl)) (pss_one (ps_if (pt_not (pt_val (pe_callG G_law_is_short (hr.mono (by decide)) hg (by rfl) C_law_is_short.m C_law_is_short.k C_law_is_short.b (pa_cons (pv 4) (pa_cons (pv 6) (pa_cons (pe_cmpR op_eq (pv 2) pe_int (nomark _)) pa_nil)))))) (pss_one (ps_ret pe_bl)) pss_nil)))
 (pss_cons (ps_set (i := 7) sclaw.nd rfl (Or.inl rfl) (pe_call G_law_clause (hr.mono (by decide)) (by rfl) C_law_clause.m C_law_clause.k C_law_clause.b .nil pass0 (pa_cons (pv 1) (pa_cons (pv 3) (pa_cons (pe_call G_law_pick (hr.mono (by decide)) (by rfl) C_law_pick.m C_law_pick.k C_law_pick.b .nil pass0 (pa_cons (pv 1) (pa_cons (pe_lst (pa_cons pe_int (pa_cons pe_int (pa_cons (pv 3) pa_nil)))) pa_nil))) pa_nil)))))
 (pss_cons (ps_set (i := 8) sclaw.nd rfl (Or.inl rfl) (pe_call G_law_draw (hr.mono (by decide)) (by rfl) C_law_draw.m C_law_draw.k C_law_draw.b .nil pass0 (pa_cons (pv 1) (pa_cons (pe_op op_add (pe_callB (c_len (K := K) rfl) (by rfl) T.len (by decide +kernel) (pa_cons (pv 5) pa_nil)) pe_int) pa_nil))))
 (pss_cons (ps_set (i := 9) sclaw.nd rfl (Or.inl rfl) (pe_op (ok_catT (K := K) rfl) (pe_op (ok_catT (K := K) rfl) (pe_slice (sk_tup (K := K) rfl) (pv 5) po_none (po_some (pv 8))) (pe_callTy (c_tuple (K := K) rfl) (by rfl) T.tuple (by decide +kernel) (pa_cons (pe_lc (own := [("literal", 12)]) (g := gName 12) rfl sclaw.nd (ik_tupI (K := K) rfl (pe_slice (sk_tup (K := K) rfl) (pv 5) (po_some (pv 8)) (po_some (pe_op op_add (pv 8) pe_int)))) (blkOk_by (own := [("literal", 12)]) (N := ["script", "deck", "turn", "n", "owners", "one", "own", "other", "spot", "near", "rest", "turned", "literal"]) (sc := defScope slaw) (by decide +kernel)) (fun _ _ _ _ _ => (pg_name (i := 12) sclaw.nd rfl (Or.inl rfl))) (fun _ _ _ _ _ => pts_nil) (fun _ _ _ _ _ => (pe_un un_neg (pv 12)))) pa_nil))) (pe_slice (sk_tup (K := K) rfl) (pv 5) (po_some (pe_op op_add (pv 8) pe_int)) po_none)))
 (pss_cons (ps_set (i := 10) sclaw.nd rfl (Or.inl rfl) (pe_callTy (c_tuple (K := K) rfl) (by rfl) T.tuple (by decide +kernel) (pa_cons (pe_lc (own := [("literal", 12)]) (g := gName 12) rfl sclaw.nd (ik_tupI (K := K) rfl (pv 5)) (blkOk_by (own := [("literal", 12)]) (N := ["script", "deck", "turn", "n", "owners", "one", "own", "other", "spot", "near", "rest", "turned", "literal"]) (sc := defScope slaw) (by decide +kernel)) (fun _ _ _ _ _ => (pg_name (i := 12) sclaw.nd rfl (Or.inl rfl))) (fun _ _ _ _ _ => (pts_one (pt_cmpR op_eq (pe_call G_law_draw (hr.mono (by decide)) (by rfl) C_law_draw.m C_law_draw.k C_law_draw.b .nil pass0 (pa_cons (pv 1) (pa_cons pe_int pa_nil))) pe_int (nomark _)))) (fun _ _ _ _ _ => (pv 12))) pa_nil)))
 (pss_cons (ps_set (i := 11) sclaw.nd rfl (Or.inl rfl) (pe_callTy (c_tuple (K := K) rfl) (by rfl) T.tuple (by decide +kernel) (pa_cons (pe_lc (own := [("literal", 12)]) (g := gName 12) rfl sclaw.nd (ik_tupI (K := K) rfl (pv 9)) (blkOk_by (own := [("literal", 12)]) (N := ["script", "deck", "turn", "n", "owners", "one", "own", "other", "spot", "near", "rest", "turned", "literal"]) (sc := defScope slaw) (by decide +kernel)) (fun _ _ _ _ _ => (pg_name (i := 12) sclaw.nd rfl (Or.inl rfl))) (fun _ _ _ _ _ => (pts_one (PW.pt (pw_or (pt_cmpR (ok_notIn (K := K) rfl) (pv 12) (pv 5) (by rfl)) (pw_or1 (pt_cmpR op_eq (pe_call G_law_draw (hr.mono (by decide)) (by rfl) C_law_draw.m C_law_draw.k C_law_draw.b .nil pass0 (pa_cons (pv 1) (pa_cons pe_int pa_nil))) pe_int (nomark _))))))) (fun _ _ _ _ _ => (pv 12))) pa_nil)))
 (pss_cons (ps_for PassesOwn.never rfl (ik_tupI (K := K) rfl (pe_tup (pa_cons (pv 7) (pa_cons (pv 9) (pa_cons (pv 10) (pa_cons (pv 11) (pa_cons (pv 5) (pa_cons (pe_tup pa_nil) pa_nil)))))))) (pg_name (i := 6) sclaw.nd rfl (Or.inl rfl)) (pss_one (ps_if (pt_not (pt_val (pe_callG G_law_is_met (hr.mono (by decide)) hg (by rfl) C_law_is_met.m C_law_is_met.k C_law_is_met.b (pa_cons (pv 5) (pa_cons (pv 6) (pa_cons (pe_cmpR op_eq (pv 2) pe_int (nomark _)) pa_nil)))))) (pss_one (ps_ret pe_bl)) pss_nil)))
 (pss_one (ps_if (PW.pt (pw_or (pt_not (pt_val (pe_callG G_law_is_met (hr.mono (by decide)) hg (by rfl) C_law_is_met.m C_law_is_met.k C_law_is_met.b (pa_cons (pv 9) (pa_cons (pv 10) (pa_cons pe_bl pa_nil)))))) (pw_or1 (pt_not (pt_val (pe_callG G_law_is_met (hr.mono (by decide)) hg (by rfl) C_law_is_met.m C_law_is_met.k C_law_is_met.b (pa_cons (pv 11) (pa_cons (pv 7) (pa_cons pe_bl pa_nil))))))))) (pss_one (ps_ret pe_bl)) pss_nil)))))))))))))
 (pss_one (ps_ret pe_bl)))), ?_⟩
    refine rd_start (σ' := [some (.ref a), none, none, none, none, none, none, none, none, none, none, none, none]) rfl ?_
    walk_at "rds"
    refine ⟨a, ns, rfl, ha, hl, fun d l H1 e1 hd hl0 hD1 => ?_⟩
    walk_at "rds"
    refine rd_rng1 (by decide) (by decide) ?_
    refine fr_range (lo := 0) (n := 12) (fun i σ' H' => ∃ x2 x3 x4 x5 x6 x7 x8 x9 xa xb xc : Option V, σ' = [some (.ref a), some (.ref d), x2, x3, x4, x5, x6, x7, x8, x9, xa, xb, xc] ∧ DeckB d l H')
      ⟨_, _, _, _, _, _, _, _, _, _, _, rfl, hD1⟩ (fun i σ' H2 hi hP => ?_) fun σ' H2 hP => ?_
    · obtain ⟨x2, x3, x4, x5, x6, x7, x8, x9, xa, xb, xc, rfl, hD2⟩ := hP
      refine rd_start (σ' := [some (.ref a), some (.ref d), some (.int (0 + (i : Int))), x3, x4, x5, x6, x7, x8, x9, xa, xb, xc]) rfl ?_
      walk_at "rds"
      refine ⟨d, l, 60, rfl, hD2, by decide, by decide, fun r H3 g3 r0 r1 => ?_⟩
      walk_at "rds"
      refine ⟨(by show 12 ≤ sizeLine; decide), fun p hp => ?_⟩
      have gp := g3.trans (Go.new (o := .lst (([1, 2, 3, 4, 5, 6, 8, 12, 20, 60, 60, 1 + r] : List Int).map V.int)) g3.dk hp)
      obtain ⟨n, hn, n1, n60⟩ : ∃ n : Int, ([1, 2, 3, 4, 5, 6, 8, 12, 20, 60, 60, 1 + r] : List Int)[i]? = some n ∧ 1 ≤ n ∧ n ≤ 60 := by
        have hlt : i < ([1, 2, 3, 4, 5, 6, 8, 12, 20, 60, 60, 1 + r] : List Int).length := hi
        refine ⟨_, List.getElem?_eq_getElem hlt, ?_⟩
        have hm := List.getElem_mem hlt
        generalize ([1, 2, 3, 4, 5, 6, 8, 12, 20, 60, 60, 1 + r] : List Int)[i] = n at hm
        simp only [List.mem_cons, List.not_mem_nil, or_false] at hm
        omega
      have en : ((n.toNat : Nat) : Int) = n := Int.toNat_of_nonneg (by omega)
      have n60' : n.toNat ≤ 60 := by omega
      walk_at "rds"
      refine rd_ixL (ys := ([1, 2, 3, 4, 5, 6, 8, 12, 20, 60, 60, 1 + r] : List Int).map V.int) (x := .int n) (SqL.of upd_same) (at_nat (k := i) (by omega) (by rw [List.getElem?_map, hn] <;> rfl)) ?_
      walk_at "rds"
      refine ⟨d, l, n, rfl, gp.dk, by omega, by omega, fun z H4 g4 hz => ?_⟩
      walk_at "rds"
      refine rd_I ⟨by decide, by decide⟩ ?_
      walk_at "rds"
      refine ⟨(by show 3 ≤ sizeLine; decide), fun b hb => ?_⟩
      have gb := Go.new (o := .lst [V.int 3, V.int n, V.int (n / 2 + 1)]) g4.dk hb
      refine ⟨d, l, b, _, rfl, gb.dk, upd_same, (g4.dk.off hb).2, (by show 1 ≤ 3; decide), (by show 3 ≤ 1000; decide), fun y H5 g5 hy => ?_⟩
      obtain ⟨k, rfl, k0, k1⟩ : ∃ k : Int, y = .int k ∧ 0 ≤ k ∧ k ≤ 60 := by
        simp only [List.mem_cons, List.not_mem_nil, or_false] at hy
        rcases hy with rfl | rfl | rfl
        · exact ⟨_, rfl, by omega, by omega⟩
        · exact ⟨_, rfl, by omega, by omega⟩
        · exact ⟨_, rfl, by omega, by omega⟩
      walk_at "rds"
      refine ⟨d, l, n, k, rfl, g5.dk, by omega, by omega, k0, k1, fun o one H6 g6 hone so => ?_⟩
      walk_at "rds"
      have hD6 := g6.dk
      clear gp g3 gb g4 g5 g6 hy hn
      refine ⟨d, l, n, n, rfl, hD6, by omega, by omega, by omega, by omega, fun o2 two H7 g7 htwo so2 => ?_⟩
      have so7 := g7.tup hD6 so
      walk_at "rds"
      refine rd_ref so7 ?_
      have lone := hone.length
      refine lc_fmT (fun _ => true) (fun x => .int (-x)) (σx := fun x => [some (.ref a), some (.ref d), some (.int (0 + (i : Int))), some (.int n), some (.str z), some (.ref o), x6, x7, x8, x9, xa, xb, some x]) so7 (by omega) (fun _ => rfl) (fun _ => rfl)
        (fun x hx H' N S e kN kS => ?_) fun D H8 e8 eD hD8 => ?_
      · walk_at "rds"
        exact kN rfl _ (Evl.Ex.refl _)
      rw [List.filter_eq_self.mpr fun _ _ => rfl] at hD8
      have hneg : Row n.toNat (one.map fun x => -x) := hone.abs (by rw [List.map_map]; exact List.map_congr_left fun x _ => Int.natAbs_neg x)
      walk_at "rds"
      refine rd_tupL (SqL.of hD8) fun o3 ho3 => ?_
      have e9 := e8.trans (Evl.Ex.new (o := .tup (one.map fun x => V.int (-x))) ho3)
      walk_at "rds"
      refine ⟨(by show 0 ≤ sizeLine; exact Nat.zero_le _), fun o4 ho4 => ?_⟩
      have xa4 := Evl.Ex.new (o := .tup []) ho4
      walk_at "rds"
      refine ⟨(by show 4 ≤ sizeLine; decide), fun o5 ho5 => ?_⟩
      have xa5 := Evl.Ex.new (o := .tup [V.ref o, V.ref o2, V.ref o3, V.ref o4]) ho5
      have gA := g7.trans (Go.ex ((e9.trans xa4).trans xa5) g7.dk)
      walk_at "rds"
      refine rd_ref (SqT.of upd_same) ?_
      have eA := (e9.trans xa4).trans xa5
      have s1 := Evl.ex_t eA so7
      have s2 := Evl.ex_t eA so2
      have s3 := Evl.ex_t (xa4.trans xa5) (SqT.of (K := K) (H := upd H8 o3 (.tup (one.map fun x => V.int (-x)))) upd_same)
      have s4 := Evl.ex_t xa5 (SqT.of (K := K) (H := upd (upd H8 o3 (.tup (one.map fun x => V.int (-x)))) o4 (.tup [])) upd_same)
      have s5 := SqT.of (K := K) (H := upd (upd (upd H8 o3 (.tup (one.map fun x => V.int (-x)))) o4 (.tup [])) o5 (.tup [V.ref o, V.ref o2, V.ref o3, V.ref o4])) upd_same
      have hDA := gA.dk
      clear eA gA xa4 xa5 hD8
      generalize upd (upd (upd H8 o3 (.tup (one.map fun x => V.int (-x)))) o4 (.tup [])) o5 (.tup [V.ref o, V.ref o2, V.ref o3, V.ref o4]) = HA at s1 s2 s3 s4 s5 hDA ⊢
      have al : ∀ x ∈ [V.ref o, V.ref o2, V.ref o3, V.ref o4], ∃ b ms, x = V.ref b ∧ Row n.toNat ms ∧ SqT K HA b (ms.map V.int) := fun x hx => by
        simp only [List.mem_cons, List.not_mem_nil, or_false] at hx
        rcases hx with rfl | rfl | rfl | rfl
        · exact ⟨o, one, rfl, hone, s1⟩
        · exact ⟨o2, two, rfl, htwo, s2⟩
        · exact ⟨o3, _, rfl, hneg, by rw [List.map_map]; exact s3⟩
        · exact ⟨o4, [], rfl, Row.nil, s4⟩
      refine fr_tup (xs := [V.ref o, V.ref o2, V.ref o3, V.ref o4]) (fun j σ' H' => ∃ y, σ' = [some (.ref a), some (.ref d), some (.int (0 + (i : Int))), some (.int n), some (.str z), some (.ref o), y, x7, x8, x9, xa, xb, xc] ∧ Evl.Ex HA H')
        ⟨_, rfl, Evl.Ex.refl HA⟩ (fun j σ' H' _ ⟨_, _, e⟩ => Evl.ex_t e s5) (fun j x σ' HB hj hP => ?_) fun σ' HB hP => ?_
      · obtain ⟨y, rfl, eB⟩ := hP
        obtain ⟨b', ms, rfl, hms, sm⟩ := al x (List.mem_of_getElem? hj)
        refine rd_start (σ' := [some (.ref a), some (.ref d), some (.int (0 + (i : Int))), some (.int n), some (.str z), some (.ref o), some (.ref b'), x7, x8, x9, xa, xb, xc]) rfl ?_
        walk_at "rds"
        refine ⟨z, b', _, n.toNat, ms, rfl, hz, n60', hms, Evl.ex_t eB sm, fun HC eC => ?_⟩
        walk_at "rds"
        refine rd_false ?_
        walk_at "rds"
        exact ⟨_, rfl, eB.trans eC⟩
      clear s2 s3 s4 s5 al
      obtain ⟨y, rfl, eB⟩ := hP
      have hDB := (Go.ex eB hDA).dk
      have sB := Evl.ex_t eB s1
      clear eB hDA s1
      walk_at "rds"
      refine ⟨(by show 3 ≤ sizeLine; decide), fun b2 hb2 => ?_⟩
      have gb2 := Go.new (o := .lst [V.int 2, V.int 3, V.int n]) hDB hb2
      refine ⟨d, l, b2, _, rfl, gb2.dk, upd_same, (hDB.off hb2).2, (by show 1 ≤ 3; decide), (by show 3 ≤ 1000; decide), fun y2 HC gC hy2 => ?_⟩
      obtain ⟨k2, rfl, k20, k21⟩ : ∃ k : Int, y2 = .int k ∧ 0 ≤ k ∧ k ≤ 60 := by
        simp only [List.mem_cons, List.not_mem_nil, or_false] at hy2
        rcases hy2 with rfl | rfl | rfl
        · exact ⟨_, rfl, by omega, by omega⟩
        · exact ⟨_, rfl, by omega, by omega⟩
        · exact ⟨_, rfl, by omega, by omega⟩
      walk_at "rds"
      refine ⟨d, l, n, k2, rfl, gC.dk, by omega, by omega, k20, k21, fun o6 oth HD gD hoth soth => ?_⟩
      have gBD := (gb2.trans gC).trans gD
      have oD := gBD.tup hDB sB
      walk_at "rds"
      refine rd_lenT oD ?_
      rw [List.length_map]
      walk_at "rds"
      refine ⟨d, l, _, rfl, gD.dk, by omega, by omega, fun sp HE gE sp0 sp1 => ?_⟩
      have oE := gE.tup gD.dk oD
      have tE := gE.tup gD.dk soth
      have hDE := gE.dk
      clear gBD gE gD gC gb2 hy2 oD soth
      walk_at "rds"
      refine rd_slT oE fun c1 F1 f1 u1 => ?_
      rw [cut_take sp0, ← List.map_take] at u1
      walk_at "rds"
      refine rd_slT (Evl.ex_t f1 oE) fun c2 F2 f2 u2 => ?_
      rw [cut_mid sp0 (by omega), ← List.map_drop, ← List.map_take, show (sp + 1).toNat - sp.toNat = 1 by omega] at u2
      refine rd_ref u2 ?_
      refine lc_fmT (fun _ => true) (fun x => .int (-x)) (σx := fun x => [some (.ref a), some (.ref d), some (.int (0 + (i : Int))), some (.int n), some (.str z), some (.ref o), y, some (.ref o6), some (.int sp), x9, xa, xb, some x]) u2 (by rw [List.length_take]; omega) (fun _ => rfl) (fun _ => rfl)
        (fun x hx H' N S e kN kS => ?_) fun D2 F3 f3 eD2 hF3 => ?_
      · walk_at "rds"
        exact kN rfl _ (Evl.Ex.refl _)
      rw [List.filter_eq_self.mpr fun _ _ => rfl] at hF3
      walk_at "rds"
      refine rd_tupL (SqL.of hF3) fun c3 hc3 => ?_
      have f4 := f3.trans (Evl.Ex.new (o := .tup (((one.drop sp.toNat).take 1).map fun x => V.int (-x))) hc3)
      have u4 : SqT K (upd F3 c3 (.tup (((one.drop sp.toNat).take 1).map fun x => V.int (-x)))) c3 (((one.drop sp.toNat).take 1).map fun x => V.int (-x)) := SqT.of upd_same
      walk_at "rds"
      refine rd_catT (Evl.ex_t (f2.trans f4) u1) u4 (by rw [List.length_map, List.length_map, List.length_take, List.length_take, sizeLine_eq]; omega) fun c5 F5 f5 u5 => ?_
      have f15 := ((f1.trans f2).trans f4).trans f5
      walk_at "rds"
      refine rd_slT (Evl.ex_t f15 oE) fun c6 F6 f6 u6 => ?_
      rw [cut_drop (by omega), ← List.map_drop, show (sp + 1).toNat = sp.toNat + 1 by omega] at u6
      refine rd_catT (Evl.ex_t f6 u5) u6 (by simp only [List.length_append, List.length_map, List.length_take, List.length_drop]; rw [sizeLine_eq]; omega) fun c7 F7 f7 u7 => ?_
      have f17 := (f15.trans f6).trans f7
      obtain ⟨near, en1, en2⟩ : ∃ near : List Int, (one.take sp.toNat).map V.int ++ (((one.drop sp.toNat).take 1).map fun x => V.int (-x)) ++ (one.drop (sp.toNat + 1)).map V.int = near.map V.int ∧ near.map Int.natAbs = one.map Int.natAbs := by
        refine ⟨one.take sp.toNat ++ ((one.drop sp.toNat).take 1).map (fun x => -x) ++ one.drop (sp.toNat + 1), by rw [List.map_append, List.map_append, List.map_map] <;> rfl, ?_⟩
        have e : one = one.take sp.toNat ++ ((one.drop sp.toNat).take 1 ++ one.drop (sp.toNat + 1)) := by
          rw [← List.drop_drop, List.take_append_drop, List.take_append_drop]
        conv => rhs; rw [e]
        rw [List.map_append, List.map_append, List.map_map, List.map_append, List.map_append, List.append_assoc]
        congr 2
        exact List.map_congr_left fun x _ => Int.natAbs_neg x
      have hnear := hone.abs en2
      rw [en1] at u7
      have oF := Evl.ex_t f17 oE
      have tF := Evl.ex_t f17 tE
      have gF := Go.ex f17 hDE
      have hDF := gF.dk
      clear u1 u2 u4 u5 u6 f1 f2 f3 f4 f5 f6 f7 f15 f17 gF hF3
      walk_at "rds"
      refine rd_ref oF ?_
      refine lc_goT (xs := one.map V.int) (fun j acc => ∃ ts : List Int, acc = ts.map V.int ∧ ts.Sublist (one.take j)) (σx := fun x => [some (.ref a), some (.ref d), some (.int (0 + (i : Int))), some (.int n), some (.str z), some (.ref o), y, some (.ref o6), some (.int sp), some (.ref c7), xa, xb, some x])
        hDF oF (by rw [List.length_map]; omega) (fun _ => rfl) (fun _ => rfl) ⟨[], rfl, List.nil_sublist _⟩ (fun j x hx acc H8 N S g8 hP kN kS => ?_) fun D3 acc H8 g8 eD3 hacc hP => ?_
      · obtain ⟨ts, rfl, et⟩ := hP
        rw [List.getElem?_map] at hx
        obtain ⟨t, ht, rfl⟩ := Option.map_eq_some_iff.mp hx
        walk_at "rds"
        refine ⟨d, l, 2, rfl, g8.dk, by decide, by decide, fun r9 H9 g9 r90 r91 => ?_⟩
        walk_at "rds"
        refine rd_ite (fun c => ?_) (fun c => ?_)
        · walk_at "rds"
          exact kN _ _ g9 ⟨ts ++ [t], by rw [List.map_append] <;> rfl, sub_snoc et ht⟩
        · exact kS _ g9 ⟨ts, rfl, sub_skip et⟩
      obtain ⟨rs, rfl, ers⟩ := hP
      have hrest : Row n.toNat rs := hone.sub (ers.trans (List.take_sublist _ _))
      walk_at "rds"
      refine rd_tupL (SqL.of hacc) fun c8 hc8 => ?_
      have g9 := g8.trans (Go.new (o := .tup (rs.map V.int)) g8.dk hc8)
      have rG : SqT K (upd H8 c8 (.tup (rs.map V.int))) c8 (rs.map V.int) := SqT.of upd_same
      have oG := g9.tup hDF oF
      have tG := g9.tup hDF tF
      have nG := g9.tup hDF u7
      have hDG := g9.dk
      clear g8 g9 oF tF u7 hDF hacc
      generalize upd H8 c8 (.tup (rs.map V.int)) = HG at rG oG tG nG hDG ⊢
      walk_at "rds"
      have lnear := hnear.length
      refine rd_ref nG ?_
      refine lc_goT (xs := near.map V.int) (fun j acc => ∃ ts : List Int, acc = ts.map V.int ∧ ts.Sublist (near.take j)) (σx := fun x => [some (.ref a), some (.ref d), some (.int (0 + (i : Int))), some (.int n), some (.str z), some (.ref o), y, some (.ref o6), some (.int sp), some (.ref c7), some (.ref c8), xb, some x])
        hDG nG (by rw [List.length_map]; omega) (fun _ => rfl) (fun _ => rfl) ⟨[], rfl, List.nil_sublist _⟩ (fun j x hx acc H8 N S g8 hP kN kS => ?_) fun D4 acc H8 g8 eD4 hacc hP => ?_
      · obtain ⟨ts, rfl, et⟩ := hP
        rw [List.getElem?_map] at hx
        obtain ⟨t, ht, rfl⟩ := Option.map_eq_some_iff.mp hx
        walk_at "rds"
        refine rd_notInT (g8.tup hDG oG) ?_
        walk_at "rds"
        refine rd_iteb (fun c => ?_) (fun c => ?_)
        · walk_at "rds"
          exact kN _ _ (Go.refl g8.dk) ⟨ts ++ [t], by rw [List.map_append] <;> rfl, sub_snoc et ht⟩
        · walk_at "rds"
          refine ⟨d, l, 2, rfl, g8.dk, by decide, by decide, fun r9 H9 g9 r90 r91 => ?_⟩
          walk_at "rds"
          refine rd_ite (fun c => ?_) (fun c => ?_)
          · walk_at "rds"
            exact kN _ _ g9 ⟨ts ++ [t], by rw [List.map_append] <;> rfl, sub_snoc et ht⟩
          · exact kS _ g9 ⟨ts, rfl, sub_skip et⟩
      obtain ⟨us, rfl, eus⟩ := hP
      have hturned : Row n.toNat us := hnear.sub (eus.trans (List.take_sublist _ _))
      walk_at "rds"
      refine rd_tupL (SqL.of hacc) fun c9 hc9 => ?_
      have g9 := g8.trans (Go.new (o := .tup (us.map V.int)) g8.dk hc9)
      have uI : SqT K (upd H8 c9 (.tup (us.map V.int))) c9 (us.map V.int) := SqT.of upd_same
      have oI := g9.tup hDG oG
      have tI := g9.tup hDG tG
      have nI := g9.tup hDG nG
      have rI := g9.tup hDG rG
      have hDI := g9.dk
      clear g8 g9 oG tG nG rG hDG hacc
      generalize upd H8 c9 (.tup (us.map V.int)) = HI at uI oI tI nI rI hDI ⊢
      walk_at "rds"
      refine ⟨(by show 0 ≤ sizeLine; exact Nat.zero_le _), fun w1 hw1 => ?_⟩
      have m1 := Evl.Ex.new (o := .tup []) hw1
      walk_at "rds"
      refine ⟨(by show 6 ≤ sizeLine; decide), fun w2 hw2 => ?_⟩
      have m2 := Evl.Ex.new (o := .tup [V.ref o6, V.ref c7, V.ref c8, V.ref c9, V.ref o, V.ref w1]) hw2
      have mm := m1.trans m2
      have uJ := Evl.ex_t mm uI
      have oJ := Evl.ex_t mm oI
      have tJ := Evl.ex_t mm tI
      have nJ := Evl.ex_t mm nI
      have rJ := Evl.ex_t mm rI
      have wJ := Evl.ex_t m2 (SqT.of (K := K) (H := upd HI w1 (.tup [])) upd_same)
      have vJ := SqT.of (K := K) (H := upd (upd HI w1 (.tup [])) w2 (.tup [V.ref o6, V.ref c7, V.ref c8, V.ref c9, V.ref o, V.ref w1])) upd_same
      have hDJ := (Go.ex mm hDI).dk
      clear mm m1 m2 uI oI tI nI rI hDI
      walk_at "rds"
      generalize upd (upd HI w1 (.tup [])) w2 (.tup [V.ref o6, V.ref c7, V.ref c8, V.ref c9, V.ref o, V.ref w1]) = HJ at uJ oJ tJ nJ rJ wJ vJ hDJ ⊢
      refine rd_ref vJ ?_
      have al2 : ∀ x ∈ [V.ref o6, V.ref c7, V.ref c8, V.ref c9, V.ref o, V.ref w1], ∃ b ms, x = V.ref b ∧ Row n.toNat ms ∧ SqT K HJ b (ms.map V.int) := fun x hx => by
        simp only [List.mem_cons, List.not_mem_nil, or_false] at hx
        rcases hx with rfl | rfl | rfl | rfl | rfl | rfl
        · exact ⟨_, oth, rfl, hoth, tJ⟩
        · exact ⟨_, near, rfl, hnear, nJ⟩
        · exact ⟨_, rs, rfl, hrest, rJ⟩
        · exact ⟨_, us, rfl, hturned, uJ⟩
        · exact ⟨_, one, rfl, hone, oJ⟩
        · exact ⟨_, [], rfl, Row.nil, wJ⟩
      refine fr_tup (xs := [V.ref o6, V.ref c7, V.ref c8, V.ref c9, V.ref o, V.ref w1]) (fun j σ' H' => ∃ y, σ' = [some (.ref a), some (.ref d), some (.int (0 + (i : Int))), some (.int n), some (.str z), some (.ref o), y, some (.ref o6), some (.int sp), some (.ref c7), some (.ref c8), some (.ref c9), xc] ∧ Evl.Ex HJ H')
        ⟨_, rfl, Evl.Ex.refl HJ⟩ (fun j σ' H' _ ⟨_, _, e⟩ => Evl.ex_t e vJ) (fun j x σ' HL hj hP => ?_) fun σ' HL hP => ?_
      · obtain ⟨y', rfl, eL⟩ := hP
        obtain ⟨b', ms, rfl, hms, sm⟩ := al2 x (List.mem_of_getElem? hj)
        refine rd_start (σ' := [some (.ref a), some (.ref d), some (.int (0 + (i : Int))), some (.int n), some (.str z), some (.ref o), some (.ref b'), some (.ref o6), some (.int sp), some (.ref c7), some (.ref c8), some (.ref c9), xc]) rfl ?_
        walk_at "rds"
        refine ⟨o, b', _, n.toNat, one, ms, rfl, Evl.ex_t eL oJ, Evl.ex_t eL sm, n60', hone, hms, fun HC eC => ?_⟩
        walk_at "rds"
        refine rd_false ?_
        walk_at "rds"
        exact ⟨_, rfl, eL.trans eC⟩
      obtain ⟨y', rfl, eL⟩ := hP
      walk_at "rds"
      refine ⟨c7, c8, false, n.toNat, near, rs, rfl, Evl.ex_t eL nJ, Evl.ex_t eL rJ, n60', hnear, hrest, fun HM eM => ?_⟩
      walk_at "rds"
      refine rd_false ?_
      walk_at "rds"
      have eLM := eL.trans eM
      refine ⟨c9, o6, false, n.toNat, us, oth, rfl, Evl.ex_t eLM uJ, Evl.ex_t eLM tJ, n60', hturned, hoth, fun HN eN => ?_⟩
      walk_at "rds"
      refine rd_false ?_
      walk_at "rds"
      exact ⟨_, _, _, _, _, _, _, _, _, _, _, rfl, (Go.ex (eLM.trans eN) hDJ).dk⟩
    · obtain ⟨x2, x3, x4, x5, x6, x7, x8, x9, xa, xb, xc, rfl, hD2⟩ := hP
      walk_at "rds"
      exact q _
end
end K13
set_option Elab.async false
set_option linter.all false
set_option maxRecDepth 100000
set_option maxHeartbeats 400000
namespace K13
open PySem PySem.Spec PyProof.Rows L2 Ea
theorem cls_if {K : PySem.W.Frag} {S : Addr} {o : Option Bool} (h2 : PySem.W.isClsIn K S = true) (h3 : PySem.W.typeIn K (.ref S) = some (.type "type")) :
    (if ((PySem.W.clsIn K S).isSome && PySem.W.typeIn K (.ref S) == some (.type "type")) = true then o else none) = o := by
  have q : (PySem.W.clsIn K S).isSome = true := h2
  rw [q, h3]
  exact if_pos rfl
theorem kit_up {K : PySem.W.Frag} {t : Value} {S : Addr} (h2 : PySem.W.isClsIn K S = true) (h3 : PySem.W.typeIn K (.ref S) = some (.type "type")) (h4 : PySem.W.subIn K t (.ref S) = some true) : PySem.W.kitOne K t (.ref S) = some true := by
  have e : PySem.W.kitCls K t (.ref S) = some true := (cls_if h2 h3).trans h4
  unfold PySem.W.kitOne
  rw [e]
  split <;> rfl
theorem exm_same {K : PySem.W.Frag} {S : Addr} (h1 : PySem.W.subIn K (.ref S) (.type "BaseException") = some true) (h2 : PySem.W.isClsIn K S = true) (h3 : PySem.W.typeIn K (.ref S) = some (.type "type")) (h4 : PySem.W.subIn K (.ref S) (.ref S) = some true) : PySem.W.exmOne K (.ref S) (.ref S) = some true := by
  have e : PySem.W.kitCls K (.ref S) (.ref S) = some true := (cls_if h2 h3).trans h4
  unfold PySem.W.exmOne
  rw [h1, e]
  exact if_pos rfl
theorem all_mk {l : PySem.W.OpenLaw} {w : World} {K : PySem.W.Frag} {h : Heap} {mg : Str → Option Value} {fa f0 f1 f2 f3 f4 f5 f6 f7 f8 f9 f10 f11 f12 f13 f14 f15 f16 C CG hd : Addr} {es : Array DictEntry} {en : Nat} {un uy : Value} (X : K.In h) (G : h.Ns mainGlobals mg) (hfa : mg "law" = some (.ref fa))
    {od0 an0 : Option Addr} {sl0 : Array (Option Value)} {oc0 kV0 dc0 pm0 cd0 ct0 : Value} {od1 an1 : Option Addr} {sl1 : Array (Option Value)} {oc1 kV1 dc1 pm1 cd1 ct1 : Value} {od2 an2 : Option Addr} {sl2 : Array (Option Value)} {oc2 kV2 dc2 pm2 cd2 ct2 : Value} {od3 an3 : Option Addr} {sl3 : Array (Option Value)} {oc3 kV3 dc3 pm3 cd3 ct3 : Value} {od4 an4 : Option Addr} {sl4 : Array (Option Value)} {oc4 kV4 dc4 pm4 cd4 ct4 : Value} {od5 an5 : Option Addr} {sl5 : Array (Option Value)} {oc5 kV5 dc5 pm5 cd5 ct5 : Value} {od6 an6 : Option Addr} {sl6 : Array (Option Value)} {oc6 kV6 dc6 pm6 cd6 ct6 : Value} {od7 an7 : Option Addr} {sl7 : Array (Option Value)} {oc7 kV7 dc7 pm7 cd7 ct7 : Value} {od8 an8 : Option Addr} {sl8 : Array (Option Value)} {oc8 kV8 dc8 pm8 cd8 ct8 : Value} {od9 an9 : Option Addr} {sl9 : Array (Option Value)} {oc9 kV9 dc9 pm9 cd9 ct9 : Value} {od10 an10 : Option Addr} {sl10 : Array (Option Value)} {oc10 kV10 dc10 pm10 cd10 ct10 : Value} {od11 an11 : Option Addr} {sl11 : Array (Option Value)} {oc11 kV11 dc11 pm11 cd11 ct11 : Value} {od12 an12 : Option Addr} {sl12 : Array (Option Value)} {oc12 kV12 dc12 pm12 cd12 ct12 : Value} {od13 an13 : Option Addr} {sl13 : Array (Option Value)} {oc13 kV13 dc13 pm13 cd13 ct13 : Value} {od14 an14 : Option Addr} {sl14 : Array (Option Value)} {oc14 kV14 dc14 pm14 cd14 ct14 : Value} {od15 an15 : Option Addr} {sl15 : Array (Option Value)} {oc15 kV15 dc15 pm15 cd15 ct15 : Value} {od16 an16 : Option Addr} {sl16 : Array (Option Value)} {oc16 kV16 dc16 pm16 cd16 ct16 : Value}
    (a0 : PySem.W.nsIn K mainGlobals "_law_deck" = some (some (.ref f0))) (l0 : K.lookup f0 = some ⟨oc0, od0, .func (PySem.W.fnOf "_law_deck" "_law_deck" (defArgs s_law_deck) (defBody s_law_deck) (defScope s_law_deck) .none kV0 dc0 pm0 an0 cd0 ct0), sl0⟩) (c0 : PySem.W.codeIn K cd0 "_law_deck" = true) (k0 : PySem.W.keepIn K (.ref f0) = true)
    (a1 : PySem.W.nsIn K mainGlobals "_law_draw" = some (some (.ref f1))) (l1 : K.lookup f1 = some ⟨oc1, od1, .func (PySem.W.fnOf "_law_draw" "_law_draw" (defArgs s_law_draw) (defBody s_law_draw) (defScope s_law_draw) .none kV1 dc1 pm1 an1 cd1 ct1), sl1⟩) (c1 : PySem.W.codeIn K cd1 "_law_draw" = true) (k1 : PySem.W.keepIn K (.ref f1) = true)
    (a2 : PySem.W.nsIn K mainGlobals "_law_pick" = some (some (.ref f2))) (l2 : K.lookup f2 = some ⟨oc2, od2, .func (PySem.W.fnOf "_law_pick" "_law_pick" (defArgs s_law_pick) (defBody s_law_pick) (defScope s_law_pick) .none kV2 dc2 pm2 an2 cd2 ct2), sl2⟩) (c2 : PySem.W.codeIn K cd2 "_law_pick" = true) (k2 : PySem.W.keepIn K (.ref f2) = true)
    (a3 : PySem.W.nsIn K mainGlobals "_law_mixed" = some (some (.ref f3))) (l3 : K.lookup f3 = some ⟨oc3, od3, .func (PySem.W.fnOf "_law_mixed" "_law_mixed" (defArgs s_law_mixed) (defBody s_law_mixed) (defScope s_law_mixed) .none kV3 dc3 pm3 an3 cd3 ct3), sl3⟩) (c3 : PySem.W.codeIn K cd3 "_law_mixed" = true) (k3 : PySem.W.keepIn K (.ref f3) = true)
    (a4 : PySem.W.nsIn K mainGlobals "_law_owners" = some (some (.ref f4))) (l4 : K.lookup f4 = some ⟨oc4, od4, .func (PySem.W.fnOf "_law_owners" "_law_owners" (defArgs s_law_owners) (defBody s_law_owners) (defScope s_law_owners) .none kV4 dc4 pm4 an4 cd4 ct4), sl4⟩) (c4 : PySem.W.codeIn K cd4 "_law_owners" = true) (k4 : PySem.W.keepIn K (.ref f4) = true)
    (a5 : PySem.W.nsIn K mainGlobals "_law_clause" = some (some (.ref f5))) (l5 : K.lookup f5 = some ⟨oc5, od5, .func (PySem.W.fnOf "_law_clause" "_law_clause" (defArgs s_law_clause) (defBody s_law_clause) (defScope s_law_clause) .none kV5 dc5 pm5 an5 cd5 ct5), sl5⟩) (c5 : PySem.W.codeIn K cd5 "_law_clause" = true) (k5 : PySem.W.keepIn K (.ref f5) = true)
    (a6 : PySem.W.nsIn K mainGlobals "_law_short" = some (some (.ref f6))) (l6 : K.lookup f6 = some ⟨oc6, od6, .func (PySem.W.fnOf "_law_short" "_law_short" (defArgs s_law_short) (defBody s_law_short) (defScope s_law_short) .none kV6 dc6 pm6 an6 cd6 ct6), sl6⟩) (c6 : PySem.W.codeIn K cd6 "_law_short" = true) (k6 : PySem.W.keepIn K (.ref f6) = true)
    (a7 : PySem.W.nsIn K mainGlobals "_law_taken" = some (some (.ref f7))) (l7 : K.lookup f7 = some ⟨oc7, od7, .func (PySem.W.fnOf "_law_taken" "_law_taken" (defArgs s_law_taken) (defBody s_law_taken) (defScope s_law_taken) .none kV7 dc7 pm7 an7 cd7 ct7), sl7⟩) (c7 : PySem.W.codeIn K cd7 "_law_taken" = true) (k7 : PySem.W.keepIn K (.ref f7) = true)
    (a8 : PySem.W.nsIn K mainGlobals "dropped" = some (some (.ref f8))) (l8 : K.lookup f8 = some ⟨oc8, od8, .func (PySem.W.fnOf "dropped" "dropped" (defArgs sdropped) (defBody sdropped) (defScope sdropped) .none kV8 dc8 pm8 an8 cd8 ct8), sl8⟩) (c8 : PySem.W.codeIn K cd8 "dropped" = true) (k8 : PySem.W.keepIn K (.ref f8) = true)
    (a9 : PySem.W.nsIn K mainGlobals "_law_against" = some (some (.ref f9))) (l9 : K.lookup f9 = some ⟨oc9, od9, .func (PySem.W.fnOf "_law_against" "_law_against" (defArgs s_law_against) (defBody s_law_against) (defScope s_law_against) .none kV9 dc9 pm9 an9 cd9 ct9), sl9⟩) (c9 : PySem.W.codeIn K cd9 "_law_against" = true) (k9 : PySem.W.keepIn K (.ref f9) = true)
    (a10 : PySem.W.nsIn K mainGlobals "clashes" = some (some (.ref f10))) (l10 : K.lookup f10 = some ⟨oc10, od10, .func (PySem.W.fnOf "clashes" "clashes" (defArgs sclashes) (defBody sclashes) (defScope sclashes) .none kV10 dc10 pm10 an10 cd10 ct10), sl10⟩) (c10 : PySem.W.codeIn K cd10 "clashes" = true) (k10 : PySem.W.keepIn K (.ref f10) = true)
    (a11 : PySem.W.nsIn K mainGlobals "_law_joined" = some (some (.ref f11))) (l11 : K.lookup f11 = some ⟨oc11, od11, .func (PySem.W.fnOf "_law_joined" "_law_joined" (defArgs s_law_joined) (defBody s_law_joined) (defScope s_law_joined) .none kV11 dc11 pm11 an11 cd11 ct11), sl11⟩) (c11 : PySem.W.codeIn K cd11 "_law_joined" = true) (k11 : PySem.W.keepIn K (.ref f11) = true)
    (a12 : PySem.W.nsIn K mainGlobals "met" = some (some (.ref f12))) (l12 : K.lookup f12 = some ⟨oc12, od12, .func (PySem.W.fnOf "met" "met" (defArgs smet) (defBody smet) (defScope smet) .none kV12 dc12 pm12 an12 cd12 ct12), sl12⟩) (c12 : PySem.W.codeIn K cd12 "met" = true) (k12 : PySem.W.keepIn K (.ref f12) = true)
    (a13 : PySem.W.nsIn K mainGlobals "_law_seen" = some (some (.ref f13))) (l13 : K.lookup f13 = some ⟨oc13, od13, .func (PySem.W.fnOf "_law_seen" "_law_seen" (defArgs s_law_seen) (defBody s_law_seen) (defScope s_law_seen) .none kV13 dc13 pm13 an13 cd13 ct13), sl13⟩) (c13 : PySem.W.codeIn K cd13 "_law_seen" = true) (k13 : PySem.W.keepIn K (.ref f13) = true)
    (a14 : PySem.W.nsIn K mainGlobals "_law_is_short" = some (some (.ref f14))) (l14 : K.lookup f14 = some ⟨oc14, od14, .func (PySem.W.fnOf "_law_is_short" "_law_is_short" (defArgs s_law_is_short) (defBody s_law_is_short) (defScope s_law_is_short) .none kV14 dc14 pm14 an14 cd14 ct14), sl14⟩) (c14 : PySem.W.codeIn K cd14 "_law_is_short" = true) (k14 : PySem.W.keepIn K (.ref f14) = true)
    (a15 : PySem.W.nsIn K mainGlobals "_law_is_met" = some (some (.ref f15))) (l15 : K.lookup f15 = some ⟨oc15, od15, .func (PySem.W.fnOf "_law_is_met" "_law_is_met" (defArgs s_law_is_met) (defBody s_law_is_met) (defScope s_law_is_met) .none kV15 dc15 pm15 an15 cd15 ct15), sl15⟩) (c15 : PySem.W.codeIn K cd15 "_law_is_met" = true) (k15 : PySem.W.keepIn K (.ref f15) = true)
    (a16 : PySem.W.nsIn K mainGlobals "law" = some (some (.ref f16))) (l16 : K.lookup f16 = some ⟨oc16, od16, .func (PySem.W.fnOf "law" "law" (defArgs slaw) (defBody slaw) (defScope slaw) .none kV16 dc16 pm16 an16 cd16 ct16), sl16⟩) (c16 : PySem.W.codeIn K cd16 "law" = true) (k16 : PySem.W.keepIn K (.ref f16) = true)
    (z0 : PySem.W.nsIn K mainGlobals "len" = some none) (z1 : PySem.W.nsIn K mainGlobals "abs" = some none) (z2 : PySem.W.nsIn K mainGlobals "min" = some none) (z3 : PySem.W.nsIn K mainGlobals "max" = some none) (z4 : PySem.W.nsIn K mainGlobals "sorted" = some none) (z5 : PySem.W.nsIn K mainGlobals "tuple" = some none) (z6 : PySem.W.nsIn K mainGlobals "list" = some none) (z7 : PySem.W.nsIn K mainGlobals "set" = some none) (z8 : PySem.W.nsIn K mainGlobals "int" = some none) (z9 : PySem.W.nsIn K mainGlobals "range" = some none) (z10 : PySem.W.nsIn K mainGlobals "repr" = some none) (z11 : PySem.W.nsIn K mainGlobals "isinstance" = some none)
    (aU : PySem.W.nsIn K mainGlobals "Unfit" = some (some (.ref C))) (aG : PySem.W.nsIn K mainGlobals "GameError" = some (some (.ref CG)))
    (xe : PySem.W.excIn K C [.type "ValueError", .type "Exception", .type "BaseException", .type "object"] "ValueError.__new__" = true) (xk : PySem.W.keepIn K (.ref C) = true)
    (xb : PySem.W.subIn K (.ref C) (.type "BaseException") = some true) (xt : PySem.W.typeIn K (.ref C) = some (.type "type"))
    (u1 : PySem.W.findIn K (.ref C) "__getattribute__" = some (some (.builtin "BaseException.__getattribute__"))) (u2 : PySem.W.findIn K (.ref C) "__getattr__" = some none)
    (u4 : PySem.W.hasDictIn K C = true) (u5 : PySem.W.findIn K (.ref C) "__class__" = some (some (.builtin "object.__class__")))
    (u6 : PySem.W.specialIn K (.builtin "object.__class__") "__get__" = some (some (.builtin "getset_descriptor.__get__"))) (u7 : PySem.W.takesIn K (.builtin "object.__class__") = some true)
    (u8 : PySem.W.mroIn K C (.type "object") = some true) (iC : PySem.W.isClsIn K C = true) (sC : PySem.W.subIn K (.ref C) (.ref C) = some true) (iG : PySem.W.isClsIn K CG = true) (tG : PySem.W.typeIn K (.ref CG) = some (.type "type")) (sG : PySem.W.subIn K (.ref C) (.ref CG) = some true)
    (aH : PySem.W.nsIn K mainGlobals "HOLDERS" = some (some (.ref hd))) (lH : K.lookup hd = some ⟨.type "dict", none, .dict es en, #[]⟩) (kH : PySem.W.KeysLit w.params es.toList)
    (hn : PySem.W.nsIn K hd "no" = some (some un)) (hy : PySem.W.nsIn K hd "yes" = some (some uy)) (rn : RelV (.str "e") un) (ry : RelV (.str "s") uy) :
    ∃ fd : FuncData, (∀ (s : Shared) (v : Value), BindsTo s fd ⟨[v], []⟩ [("script", v)]) ∧ ∀ base : Heap, K.In base → base.Ns mainGlobals mg → FnG l.prog w K mg base 5 fa fd ["script"] (spLaw K) := by
  have e := hfa.symm.trans (PySem.W.mg_of X G a16)
  cases e
  have F0 := fun_mk (st := s_law_deck) l0 c0 k0
  have b0 := F0.binds (ps := ["script"]) fun _ _ _ _ _ _ us hl => match us, hl with | [_], _ => rfl
  have C_law_deck : Callee K mg "_law_deck" f0 _ ["script"] := ⟨PySem.W.mg_of X G a0, k0, b0⟩
  have F1 := fun_mk (st := s_law_draw) l1 c1 k1
  have b1 := F1.binds (ps := ["deck", "many"]) fun _ _ _ _ _ _ us hl => match us, hl with | [_, _], _ => rfl
  have C_law_draw : Callee K mg "_law_draw" f1 _ ["deck", "many"] := ⟨PySem.W.mg_of X G a1, k1, b1⟩
  have F2 := fun_mk (st := s_law_pick) l2 c2 k2
  have b2 := F2.binds (ps := ["deck", "items"]) fun _ _ _ _ _ _ us hl => match us, hl with | [_, _], _ => rfl
  have C_law_pick : Callee K mg "_law_pick" f2 _ ["deck", "items"] := ⟨PySem.W.mg_of X G a2, k2, b2⟩
  have F3 := fun_mk (st := s_law_mixed) l3 c3 k3
  have b3 := F3.binds (ps := ["deck", "items"]) fun _ _ _ _ _ _ us hl => match us, hl with | [_, _], _ => rfl
  have C_law_mixed : Callee K mg "_law_mixed" f3 _ ["deck", "items"] := ⟨PySem.W.mg_of X G a3, k3, b3⟩
  have F4 := fun_mk (st := s_law_owners) l4 c4 k4
  have b4 := F4.binds (ps := ["deck", "n"]) fun _ _ _ _ _ _ us hl => match us, hl with | [_, _], _ => rfl
  have C_law_owners : Callee K mg "_law_owners" f4 _ ["deck", "n"] := ⟨PySem.W.mg_of X G a4, k4, b4⟩
  have F5 := fun_mk (st := s_law_clause) l5 c5 k5
  have b5 := F5.binds (ps := ["deck", "n", "most"]) fun _ _ _ _ _ _ us hl => match us, hl with | [_, _, _], _ => rfl
  have C_law_clause : Callee K mg "_law_clause" f5 _ ["deck", "n", "most"] := ⟨PySem.W.mg_of X G a5, k5, b5⟩
  have F6 := fun_mk (st := s_law_short) l6 c6 k6
  have b6 := F6.binds (ps := ["owners", "side", "row"]) fun _ _ _ _ _ _ us hl => match us, hl with | [_, _, _], _ => rfl
  have C_law_short : Callee K mg "_law_short" f6 _ ["owners", "side", "row"] := ⟨PySem.W.mg_of X G a6, k6, b6⟩
  have F7 := fun_mk (st := s_law_taken) l7 c7 k7
  have b7 := F7.binds (ps := ["owners", "side", "row"]) fun _ _ _ _ _ _ us hl => match us, hl with | [_, _, _], _ => rfl
  have C_law_taken : Callee K mg "_law_taken" f7 _ ["owners", "side", "row"] := ⟨PySem.W.mg_of X G a7, k7, b7⟩
  have F8 := fun_mk (st := sdropped) l8 c8 k8
  have b8 := F8.binds (ps := ["owners", "side", "row"]) fun _ _ _ _ _ _ us hl => match us, hl with | [_, _, _], _ => rfl
  have Cdropped : Callee K mg "dropped" f8 _ ["owners", "side", "row"] := ⟨PySem.W.mg_of X G a8, k8, b8⟩
  have F9 := fun_mk (st := s_law_against) l9 c9 k9
  have b9 := F9.binds (ps := ["one", "other"]) fun _ _ _ _ _ _ us hl => match us, hl with | [_, _], _ => rfl
  have C_law_against : Callee K mg "_law_against" f9 _ ["one", "other"] := ⟨PySem.W.mg_of X G a9, k9, b9⟩
  have F10 := fun_mk (st := sclashes) l10 c10 k10
  have b10 := F10.binds (ps := ["one", "other"]) fun _ _ _ _ _ _ us hl => match us, hl with | [_, _], _ => rfl
  have Cclashes : Callee K mg "clashes" f10 _ ["one", "other"] := ⟨PySem.W.mg_of X G a10, k10, b10⟩
  have F11 := fun_mk (st := s_law_joined) l11 c11 k11
  have b11 := F11.binds (ps := ["one", "other"]) fun _ _ _ _ _ _ us hl => match us, hl with | [_, _], _ => rfl
  have C_law_joined : Callee K mg "_law_joined" f11 _ ["one", "other"] := ⟨PySem.W.mg_of X G a11, k11, b11⟩
  have F12 := fun_mk (st := smet) l12 c12 k12
  have b12 := F12.binds (ps := ["one", "other"]) fun _ _ _ _ _ _ us hl => match us, hl with | [_, _], _ => rfl
  have Cmet : Callee K mg "met" f12 _ ["one", "other"] := ⟨PySem.W.mg_of X G a12, k12, b12⟩
  have F13 := fun_mk (st := s_law_seen) l13 c13 k13
  have b13 := F13.binds (ps := ["one", "other", "is_named"]) fun _ _ _ _ _ _ us hl => match us, hl with | [_, _, _], _ => rfl
  have C_law_seen : Callee K mg "_law_seen" f13 _ ["one", "other", "is_named"] := ⟨PySem.W.mg_of X G a13, k13, b13⟩
  have F14 := fun_mk (st := s_law_is_short) l14 c14 k14
  have b14 := F14.binds (ps := ["owners", "row", "is_named"]) fun _ _ _ _ _ _ us hl => match us, hl with | [_, _, _], _ => rfl
  have C_law_is_short : Callee K mg "_law_is_short" f14 _ ["owners", "row", "is_named"] := ⟨PySem.W.mg_of X G a14, k14, b14⟩
  have F15 := fun_mk (st := s_law_is_met) l15 c15 k15
  have b15 := F15.binds (ps := ["one", "other", "is_named"]) fun _ _ _ _ _ _ us hl => match us, hl with | [_, _, _], _ => rfl
  have C_law_is_met : Callee K mg "_law_is_met" f15 _ ["one", "other", "is_named"] := ⟨PySem.W.mg_of X G a15, k15, b15⟩
  have F16 := fun_mk (st := slaw) l16 c16 k16
  have T : Bl mg := ⟨PySem.W.mg_none_of X G z0, PySem.W.mg_none_of X G z1, PySem.W.mg_none_of X G z2, PySem.W.mg_none_of X G z3, PySem.W.mg_none_of X G z4, PySem.W.mg_none_of X G z5, PySem.W.mg_none_of X G z6, PySem.W.mg_none_of X G z7, PySem.W.mg_none_of X G z8, PySem.W.mg_none_of X G z9, PySem.W.mg_none_of X G z10, PySem.W.mg_none_of X G z11⟩
  have U : ExcF K mg "Unfit" C := ⟨PySem.W.mg_of X G aU, xe, xk, xb, xt⟩
  have UC : ExcC K C := ⟨u1, u2, xb, u4, u5, u6, u7, u8⟩
  have hH : Hol K w mg hd := ⟨PySem.W.mg_of X G aH, ⟨es, en, un, lH, kH, hn, rn⟩, ⟨es, en, uy, lH, kH, hy, ry⟩⟩
  have Kdropped : KwRev (PySem.W.fnOf "dropped" "dropped" (defArgs sdropped) (defBody sdropped) (defScope sdropped) .none kV8 dc8 pm8 an8 cd8 ct8) ["owners", "side", "row"] := fun s ws hw => match ws, hw with | [_, _, _], _ => .of_eq rfl
  have Kclashes : KwRev (PySem.W.fnOf "clashes" "clashes" (defArgs sclashes) (defBody sclashes) (defScope sclashes) .none kV10 dc10 pm10 an10 cd10 ct10) ["one", "other"] := fun s ws hw => match ws, hw with | [_, _], _ => .of_eq rfl
  have Kmet : ∀ (s : Shared) (ws : List Value), ws.length = 2 → BindsTo s (PySem.W.fnOf "met" "met" (defArgs smet) (defBody smet) (defScope smet) .none kV12 dc12 pm12 an12 cd12 ct12) ⟨[], (["other", "one"] : List Str).zip ws⟩ ((["one", "other"] : List Str).zip ws.reverse) := fun s ws hw => match ws, hw with | [_, _], _ => .of_eq rfl
  refine ⟨PySem.W.fnOf "law" "law" (defArgs slaw) (defBody slaw) (defScope slaw) .none kV16 dc16 pm16 an16 cd16 ct16, fun s v => .of_eq rfl, fun base _ _ => ?_⟩
  have G_law_deck := ok_deck (P := l.prog) (w := w) (base := base) F0 T 
  have G_law_draw := ok_draw (P := l.prog) (w := w) (base := base) F1 T 
  have G_law_pick := ok_pick (P := l.prog) (w := w) (base := base) F2 T G_law_draw C_law_draw
  have G_law_mixed := ok_mixed (P := l.prog) (w := w) (base := base) F3 T G_law_draw C_law_draw
  have G_law_owners := ok_owners (P := l.prog) (w := w) (base := base) F4 T G_law_draw C_law_draw G_law_pick C_law_pick
  have G_law_clause := ok_clause (P := l.prog) (w := w) (base := base) F5 T G_law_draw C_law_draw G_law_pick C_law_pick G_law_mixed C_law_mixed
  have G_law_short := ok_short (P := l.prog) (w := w) (base := base) F6 T 
  have G_law_taken := ok_taken (P := l.prog) (w := w) (base := base) F7 T 
  have Gdropped := ok_dropped (P := l.prog) (w := w) (base := base) F8 T hH
  have G_law_against := ok_against (P := l.prog) (w := w) (base := base) F9 T 
  have Gclashes := ok_clashes (P := l.prog) (w := w) (base := base) F10 T 
  have G_law_joined := ok_joined (P := l.prog) (w := w) (base := base) F11 T G_law_against C_law_against
  have Gmet := ok_met (P := l.prog) (w := w) (base := base) F12 T U Gclashes Cclashes
  have G_law_seen := ok_seen (P := l.prog) (w := w) (base := base) F13 T U UC (PySem.W.mg_of X G aG) (kit_up iG tG sG) (exm_same xb iC xt sC) Gmet Cmet Kmet
  have G_law_is_short := ok_is_short (P := l.prog) (w := w) (base := base) F14 T G_law_short C_law_short G_law_taken C_law_taken Gdropped Cdropped Kdropped
  have G_law_is_met := ok_is_met (P := l.prog) (w := w) (base := base) F15 T G_law_against C_law_against Gclashes Cclashes Kclashes G_law_joined C_law_joined G_law_seen C_law_seen
  exact ok_law F16 T G_law_deck C_law_deck G_law_draw C_law_draw G_law_pick C_law_pick G_law_owners C_law_owners G_law_clause C_law_clause G_law_is_short C_law_is_short G_law_is_met C_law_is_met
end K13
open PySem PySem.W PyProof.Rows
set_option Elab.async false
set_option linter.all false
set_option maxRecDepth 100000
set_option maxHeartbeats 0 in
theorem PySem.Challenge.cw_eachsome_k13_whole_rows_dropped_and_met_holds : PySem.Challenge.rw_eachsome_k13_whole_rows_dropped_and_met.Holds := by
  w_on; o_law; k_head; (case hw => w_witness2)
  k_fill
  refine Ea.walk_G (l := PySem.Challenge.rw_eachsome_k13_whole_rows_dropped_and_met) (n := 63) (k := 5) (x := "script") (sp := fun w => K13.spLaw _) rfl (by decide) rfl ⟨rfl, by decide, by decide⟩ (fun w h Y => PySem.W.kIn_of Y) ?F (fun _ _ a ns hl _ hS => ⟨a, ns, rfl, hS, hl, fun _ => rfl⟩)
  case F =>
    intro w mg fa h KX G hmg
    refine' K13.all_mk KX G hmg ?a0 ?l0 ?c0 ?k0 ?a1 ?l1 ?c1 ?k1 ?a2 ?l2 ?c2 ?k2 ?a3 ?l3 ?c3 ?k3 ?a4 ?l4 ?c4 ?k4 ?a5 ?l5 ?c5 ?k5 ?a6 ?l6 ?c6 ?k6 ?a7 ?l7 ?c7 ?k7 ?a8 ?l8 ?c8 ?k8 ?a9 ?l9 ?c9 ?k9 ?a10 ?l10 ?c10 ?k10 ?a11 ?l11 ?c11 ?k11 ?a12 ?l12 ?c12 ?k12 ?a13 ?l13 ?c13 ?k13 ?a14 ?l14 ?c14 ?k14 ?a15 ?l15 ?c15 ?k15 ?a16 ?l16 ?c16 ?k16 ?z0 ?z1 ?z2 ?z3 ?z4 ?z5 ?z6 ?z7 ?z8 ?z9 ?z10 ?z11 ?aU ?aG ?xe ?xk ?xb ?xt ?u1 ?u2 ?u4 ?u5 ?u6 ?u7 ?u8 ?iC ?sC ?iG ?tG ?sG ?aH ?lH ?kH ?hn ?hy ?rn ?ry
    (case a0 => k_is)
    (case l0 => k_is)
    (case c0 => k_is)
    (case k0 => k_is)
    (case a1 => k_is)
    (case l1 => k_is)
    (case c1 => k_is)
    (case k1 => k_is)
    (case a2 => k_is)
    (case l2 => k_is)
    (case c2 => k_is)
    (case k2 => k_is)
    (case a3 => k_is)
    (case l3 => k_is)
    (case c3 => k_is)
    (case k3 => k_is)
    (case a4 => k_is)
    (case l4 => k_is)
    (case c4 => k_is)
    (case k4 => k_is)
    (case a5 => k_is)
    (case l5 => k_is)
    (case c5 => k_is)
    (case k5 => k_is)
    (case a6 => k_is)
    (case l6 => k_is)
    (case c6 => k_is)
    (case k6 => k_is)
    (case a7 => k_is)
    (case l7 => k_is)
    (case c7 => k_is)
    (case k7 => k_is)
    (case a8 => k_is)
    (case l8 => k_is)
    (case c8 => k_is)
    (case k8 => k_is)
    (case a9 => k_is)
    (case l9 => k_is)
    (case c9 => k_is)
    (case k9 => k_is)
    (case a10 => k_is)
    (case l10 => k_is)
    (case c10 => k_is)
    (case k10 => k_is)
    (case a11 => k_is)
    (case l11 => k_is)
    (case c11 => k_is)
    (case k11 => k_is)
    (case a12 => k_is)
    (case l12 => k_is)
    (case c12 => k_is)
    (case k12 => k_is)
    (case a13 => k_is)
    (case l13 => k_is)
    (case c13 => k_is)
    (case k13 => k_is)
    (case a14 => k_is)
    (case l14 => k_is)
    (case c14 => k_is)
    (case k14 => k_is)
    (case a15 => k_is)
    (case l15 => k_is)
    (case c15 => k_is)
    (case k15 => k_is)
    (case a16 => k_is)
    (case l16 => k_is)
    (case c16 => k_is)
    (case k16 => k_is)
    (case z0 => k_is)
    (case z1 => k_is)
    (case z2 => k_is)
    (case z3 => k_is)
    (case z4 => k_is)
    (case z5 => k_is)
    (case z6 => k_is)
    (case z7 => k_is)
    (case z8 => k_is)
    (case z9 => k_is)
    (case z10 => k_is)
    (case z11 => k_is)
    (case aU => k_is)
    (case aG => k_is)
    (case xe => k_exc)
    (case xk => k_is)
    (case xb => k_is)
    (case xt => k_is)
    (case u1 => k_is)
    (case u2 => k_is)
    (case u4 => k_is)
    (case u5 => k_is)
    (case u6 => k_is)
    (case u7 => k_is)
    (case u8 => k_is)
    (case iC => k_is)
    (case sC => k_is)
    (case iG => k_is)
    (case tG => k_is)
    (case sG => k_is)
    (case aH => k_is)
    (case lH => k_is)
    (case kH => first | exact ⟨⟨_, _, rfl, rfl⟩, ⟨_, _, rfl, rfl⟩, trivial⟩ | k_is)
    (case hn => k_is)
    (case hy => k_is)
    (case rn => first | exact ⟨_, rfl⟩ | exact rfl | exact .str _ _)
    (case ry => first | exact ⟨_, rfl⟩ | exact rfl | exact .str _ _)
