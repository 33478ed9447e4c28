import PyProof.Rows.All
import Wide.All
import OpenK.AllK
import Wide.FinOn
import PyProof.EqAt
import PyProof.EqKinds
import PyProof.TupleCall
import PyProof.NeKinds
import KE.KIsAll
import KE.KTryMore
import HandS.Base
import HandS.Call
import HandS.List
import HandS.Ends
import HandS.Exc
import HandS.ExcInit
import HandS.ExcIs
import HandS.ExcField
import HandS.ExcValue
import HandS.Evl
import KE.KStateDown
import HandS.Comp
import HandS.Dict
import HandS.Iter
import HandS.Words
import HandS.NoneIn
import HandS.Conv
import HandS.Defaults
import HandS.Head0
import HandS.Head1
import HandS.Head2
import HandS.HeadEnd
import HandS.HeadHook1
import HandS.HeadHook2
import KE.KSortedM
import PySem.Challenge.RW_allteams_k04_errors_by_hand
set_option Elab.async false
set_option linter.all false
set_option maxRecDepth 100000
set_option maxHeartbeats 4000000
namespace Xo
open PySem PySem.Spec PyProof.Rows L2 Evl

/-! ### an own exception with an __init__ of its own, made as a value -/
def tMkV (C : Addr) (sp : Sp) (dvs : List V) (ta : TA) : TE := fun σ H Q => ta σ H fun vs H1 => vs.length ≤ 1000 ∧ ∀ a, H1 a = none →
  sp (.ref a :: (vs ++ dvs)) (upd H1 a (exo a C none)) (fun v H2 => v = .non ∧ Q (.ref a) H2) (fun _ _ _ => False)
section
variable {X : Cx} {e : Expr} {es : List Expr} {ta : TA} {p pos : Pos}
theorem pe_oex {CX : CXT} {x : Str} {C fI : Addr} {k : Nat} {fd : FuncData} {ps : List Str} {sp : Sp} {ds : List Value} {dvs : List V} (T : OexC X.K C)
    (iC : PySem.W.findIn X.K (.ref C) "__init__" = some (some (.ref fI))) (tI : PySem.W.typeIn X.K (.ref fI) = some (.type "function"))
    (F1 : FnOk X.prog X.w X.K X.mg X.base CX k fI fd ps sp) (hr : Room (k + 1) X.A) (hb : Binds X.K fd ps ds) (hd : Vals dvs ds) (hx : Passes CX X (fun _ _ _ => False)) (hg : Gl X x) (hm : X.mg x = some (.ref C)) (ha : PA X (e :: es) ta)
    (hdb : (x == ("__debug__" : Str)) = false := by decide) (he : starEach (e :: es) X.env = (false, eval e X.env) :: starEach es X.env := by rfl) (hpl : (backTo pos (starEach es X.env)).any (·.1) = false := by rfl) :
    PE X (.Call (.Name x p) (e :: es) [] pos) (tMkV C sp dvs ta) := by
  refine ⟨fun pins s σ H Q I h => ?_⟩
  obtain ⟨nm, q, N, bs, bm, sn, sub, ab, col, dd, k0, k1, k2, k3, k5, hC, hbm⟩ := T.cls
  refine wpAny_Call_Name_kw (ld_glob I hg hm ?_ hdb)
  refine PySem.W.callWith_K (h₀ := X.base) I.ok.mod.kin T.kC (thn (ha.run pos pins s σ H _ I h) fun us s1 ⟨vs, H1, I1, r1, hz, q1⟩ => ⟨I1.kIn, ?_⟩) he hpl
  show wpAny _ _ (call (.ref C) us) _ _ _
  obtain ⟨hp, g, dr, tk, os⟩ := s1
  have hsz : hp.objs.size ≤ hp.objs.size + 1 := Nat.le_succ _
  have hn : H1 (hp.objs.size + 1) = none := I1.hok.fresh hsz
  have hq := q1 (hp.objs.size + 1) hn
  have kk : ∀ b o, hp.get? b = some o → ((hp.push (PySem.W.kdv_tup us)).push (PySem.HandSPX.excO C hp.objs.size)).get? b = some o := fun b o e => Heap.get?_push_of_some _ (Heap.get?_push_of_some _ e)
  have hget : ((hp.push (PySem.W.kdv_tup us)).push (PySem.HandSPX.excO C hp.objs.size)).get? (hp.objs.size + 1) = some (PySem.HandSPX.excO C hp.objs.size) := by heap_get
  have I2 : Inv X pins σ (upd H1 (hp.objs.size + 1) (exo (hp.objs.size + 1) C none)) ⟨(hp.push (PySem.W.kdv_tup us)).push (PySem.HandSPX.excO C hp.objs.size), g, dr, tk, os⟩ :=
    I1.laid (t' := tk) (a := hp.objs.size + 1) (o := exo (hp.objs.size + 1) C none) (h' := (hp.push (PySem.W.kdv_tup us)).push (PySem.HandSPX.excO C hp.objs.size)) kk hsz (exo_ok hget)
  have r2 : Vals (V.ref (hp.objs.size + 1) :: (vs ++ dvs)) (Value.ref (hp.objs.size + 1) :: (us ++ ds)) := .cons rfl (r1.append hd)
  have hl : (Value.ref (hp.objs.size + 1) :: us ++ ds).length = ps.length := by
    have e := r2.length
    rw [F1.len _ _ _ _ hq] at e
    exact e.symm
  have hus : us.length ≤ sizeLine := by
    rw [← Paired.length r1, sizeLine_eq]
    omega
  refine wpAny_call (PySem.HandSPX.call_own F.excBase_ValueError (fun Y => PySem.HandSPX.refsVE_contains Y bm hbm) (I1.kIn _ _ hC) (PySem.W.looks_findIn I1.kIn iC) (fun self => PySem.W.bind_fn I1.kIn self tI) hus
    (codeAny_mono (F1.run _ X.stack _ _ ⟨Value.ref (hp.objs.size + 1) :: us, []⟩ (Value.ref (hp.objs.size + 1) :: (us ++ ds)) _ _ (fun _ _ _ => False) (hr.make C us []) (I2.env0.make C us []) (hb _ (Value.ref (hp.objs.size + 1) :: us) I2.kIn hl) r2 hq) fun r s' hq' => ?_))
  cases r with
  | error er => exact hx pins σ _ _ er s' I2 hq'
  | ok fl =>
    cases fl with
    | ret u =>
      obtain ⟨v, H', I3, rv, ev, q3⟩ := I2.after hq'
      subst ev
      exact ⟨rv, ⟨V.ref (hp.objs.size + 1), H', I3, rfl, q3⟩⟩
    | next => exact False.elim hq'
    | brk => exact False.elim hq'
    | cont => exact False.elim hq'
/-- C(), an own exception class without an __init__, as a value -/
def tExc0 (C : Addr) : TE := fun _ H Q => ∀ a, H a = none → Q (.ref a) (upd H a (ExO (.ref C) a))
theorem pe_exc0 {C : Addr} {bmB : List Value} {B newId initId : String} {x : Str} (F : ExcBaseFacts B newId initId bmB) (q : PySem.W.excIn X.K C bmB newId = true) (gC : X.mg x = some (.ref C)) (kC : PySem.W.keepIn X.K (.ref C) = true) (hg : Gl X x)
    (hdb : (x == ("__debug__" : Str)) = false := by decide) : PE X (.Call (.Name x p) [] [] pos) (tExc0 C) := by
  refine ⟨fun pins s σ H Q I h => ?_⟩
  refine wpAny_Call_Name_kw (ld_glob I hg gC ?_ hdb)
  refine PySem.W.callWith_K0 I.kIn kC ?_
  show wpAny _ _ (call (.ref C) []) _ _ _
  obtain ⟨bm, N, nm, qn, bs, hdct, sn, sub, ab, col, dd, k0, k1, k2, k3, k5, mN, hC, hN, hni, T⟩ := exc_obj I.kIn q
  refine wpAny_call_exc_subT F T hC hN hni (fun h' a hm => ?_) (Nat.zero_le _)
  have hn : H a = none := I.hok.gone hm.new
  obtain ⟨t, ht, _, _⟩ := hm.there
  exact ⟨.ref a, upd H a (ExO (.ref C) a), I.laidN hm.keeps hm.new hn (exO_ok ht ⟨rfl, rfl⟩ rfl rfl rfl (show 4 < 6 by decide)), rfl, h a hn⟩
end

/-! ### a field of such an exception, read -/
def tXo (K : PySem.W.Frag) (f : Str) (te : TE) : TE := fun σ H Q => te σ H fun x H1 => ∃ (a C dx : Addr) (fs : List (Str × V)) (v : V), x = .ref a ∧ H1 a = some (exo a C (some dx)) ∧ H1 dx = some (exd dx fs) ∧ XfC K C ∧ PySem.W.findIn K (.ref C) f = some none ∧ fs.lookup f = some v ∧ Q v H1
theorem pe_xo {X : Cx} {e : Expr} {te : TE} {pos : Pos} {n : Str} (he : PE X e te) (hb : attributeBase e n X.env (eval e X.env) = eval e X.env := by rfl) :
    PE X (.Attribute e n pos) (tXo X.K n te) := by
  refine ⟨fun pins s σ H Q I h => ?_⟩
  refine attr_of hb (thn (he.run pins s σ H _ I h) fun u s1 hh => ?_)
  obtain ⟨x, H1, I1, rx, a, C, dx, fs, v, ex, ea, ed, T, hno, l, q⟩ := hh
  subst ex
  obtain rfl : u = Value.ref a := rx
  obtain ⟨t1, ho⟩ := exo_at I1.hok ea
  obtain ⟨mA, hns, hr⟩ := exd_at I1.hok ed
  obtain ⟨od, hod, hl⟩ := lookIn_ns hns
  obtain ⟨u, hu, ru⟩ := RelO.some_of (v := v) (o := mA n) (by rw [← l]; exact hr n)
  have J : PySem.W.InstAt s1.heap a ({ cls := .ref C, dict := some dx, data := .fields #[.ref t1, .none, .none, .none, .bool false, .none] } : Obj) C (some od) := ⟨ho, rfl, rfl, hod⟩
  exact HandSPX.exc_get I1.kIn J T.ga T.gg T.exC (PySem.W.findObj_own T.hdC hno rfl (by rw [hl, hu])) (handed_of ru) ⟨v, H1, I1.tok _, ru, q⟩
end Xo

namespace PySem.W
open PySem PySem.Spec PySem.Calls PyProof.Rows
section
variable {prog : Program} {w : World} {A : Around} {E : Value → Shared → Prop} {s : Shared} {K : Frag} {x D : Addr} {ox : Obj} {od : Option Obj}
theorem xo_findObj {C : Addr} {name : Str} {a g : Value} (hc : (clsIn K C).isSome = true) (ha : findIn K (.ref C) name = some (some a)) (hg : specialIn K a "__get__" = some (some g)) (ht : takesIn K a = some true) : findObj K C od name = some (.bind g a) := by
  obtain ⟨cd, hc⟩ := Option.isSome_iff_exists.mp hc
  unfold findObj
  rw [hc, Option.bind_some, ha, Option.bind_some]
  simp [hg, ht]
theorem xo_class {Q : Option Value → Shared → Prop} (hga : findIn K (.ref D) "__getattribute__" = some (some (.builtin "BaseException.__getattribute__"))) (hgt : findIn K (.ref D) "__getattr__" = some none) (hsub : subIn K (.ref D) (.type "BaseException") = some true)
    (hdct : hasDictIn K D = true) (ha : findIn K (.ref D) "__class__" = some (some (.builtin "object.__class__")))
    (hn : specialIn K (.builtin "object.__class__") "__get__" = some (some (.builtin "getset_descriptor.__get__"))) (htk : takesIn K (.builtin "object.__class__") = some true) (hm : mroIn K D (.type "object") = some true)
    (X : K.In s.heap) (I : InstAt s.heap x ox D od) (h : Q (some (.ref D)) { s with toks := s.toks + 1 }) : wpAny (model prog w) A (getAttr? (.ref x) "__class__") Q E s := by
  have hf : findObj K D od "__class__" = some (.bind (.builtin "getset_descriptor.__get__") (.builtin "object.__class__")) := xo_findObj (by obtain ⟨cd, hc, _⟩ := any_some hdct; rw [hc]; rfl) ha hn htk
  obtain ⟨hp, g, d, t, os⟩ := s
  have L0 := I.type (M := model prog w)
  have L1 := looks_findIn (M := model prog w) X hga
  have L2 := looks_findIn (M := model prog w) X hgt
  have L3 := looks_find (M := model prog w) X I hf
  have sub : Looks (model prog w) hp (isInstance (.ref x) (.type "BaseException")) true := L0.andThen (looks_subIn X hsub)
  have hx0 : (false && onTheHeap (Value.builtin "BaseException.__getattribute__")) = false := rfl
  have hx2 : (Value.builtin "BaseException.__getattribute__" == Value.builtin "object.__getattribute__") = false := by decide +kernel
  have hx1 : (onTheHeap (Value.ref D) && Value.builtin "BaseException.__getattribute__" == Value.builtin "object.__getattribute__") = false := by rw [hx2]; rfl
  unfold getAttr? getAttrBy? getAttrBy
  refine wpAny_bind (wpAny_mkText (wpAny_bind (wpAny_attempt (wpAny_holding (wpAny_bind (L0.at (wpAny_bind (L1.at ?_))))))))
  show wpAny _ _ (if (onTheHeap (Value.ref D) && Value.builtin "BaseException.__getattribute__" == Value.builtin "object.__getattribute__") = true then _ else _) _ _ _
  rw [hx1, if_neg Bool.false_ne_true]
  unfold getAttrByItsOwn hookBefore
  refine wpAny_bind ?_
  rw [if_pos (show onTheHeap (Value.ref D) = true from rfl)]
  refine L2.at ?_
  refine wpAny_bind (wpAny_attempt (wpAny_holding ?_))
  unfold callGetattribute
  rw [hx0, if_neg Bool.false_ne_true]
  unfold boundAndCalled
  rw [PySem.F.excAttr_ValueError.ga.bind (.ref x)]
  refine wpAny_bind (wpAny_pure ?_)
  show wpAny _ _ (call (.builtin "BaseException.__getattribute__") [.ref x, .str "__class__" t]) _ _ _
  refine wpAny_call (codeAny_call_builtin PySem.F.excAttr_ValueError.ga.plain PySem.F.entry_bexc_ga ?_)
  refine @check_slot (model prog w) _ _ ⟨hp, g, d, t + 1, os⟩ "BaseException.__getattribute__" "BaseException" "__getattribute__" (.ref x) [.str "__class__" t] [] _ (by decide +kernel) (by decide +kernel) sub (PySem.F.args_bexc_ga (.ref x) (.str "__class__" t)) ?_
  unfold Builtin.«object.__getattribute__»
  refine wpAny_bind (wpAny_of_eq (a := ((Value.ref x : Value), [Value.str "__class__" t])) (by first | rfl | (simp only [slotArgs]; rfl)) ?_)
  refine wpAny_bind (wpAny_pure (wpAny_bind (L0.at (wpAny_bind (L3.at ?_)))))
  show wpAny _ _ (holding [Value.builtin "object.__class__"] (call (.builtin "getset_descriptor.__get__") [.builtin "object.__class__", .ref x, .ref D]) >>= ret) _ _ _
  refine wpAny_bind (wpAny_holding (wpAny_call (class_get (s := ⟨hp, g, d, t + 1, os⟩) (ox := ox) (od := od) X I hm ?_)))
  refine wpAny_pure ?_
  show wpAny _ _ (handedOut (.ref D)) _ _ _
  rw [handedOut_of (v := .ref D) rfl]
  first
    | exact wpAny_pure (wpAny_pure h)
    | exact wpAny_pure h
    | exact wpAny_pure (wpAny_bind (wpAny_pure (wpAny_pure h)))
theorem xo_kit (hga : findIn K (.ref D) "__getattribute__" = some (some (.builtin "BaseException.__getattribute__"))) (hgt : findIn K (.ref D) "__getattr__" = some none) (hsub : subIn K (.ref D) (.type "BaseException") = some true) (hdct : hasDictIn K D = true) (ha : findIn K (.ref D) "__class__" = some (some (.builtin "object.__class__")))
    (hn : specialIn K (.builtin "object.__class__") "__get__" = some (some (.builtin "getset_descriptor.__get__"))) (htk : takesIn K (.builtin "object.__class__") = some true) (hm : mroIn K D (.type "object") = some true) :
    KitX K (.ref x) (.ref D) (fun h => ∃ ox od, InstAt h x ox D od) where
  ty := fun _ _ _ ⟨_, _, I⟩ => I.type
  it := fun _ _ X _ => by
    obtain ⟨cdD, hcD, _⟩ := any_some hdct
    unfold clsIn at hcD
    split at hcD
    · rename_i c' d' cd' sl' ho
      intro A' Q' E' s' k q
      unfold isType loadHead
      exact wpAny_bind (wpAny_loadPart (k _ _ (X _ _ ho)) (wpAny_pure q))
    · cases hcD
  ne := fun h tp dd its n sl X htp => by
    obtain ⟨cdD, hcD, _⟩ := any_some hdct
    refine Bool.eq_false_iff.mpr fun q => ?_
    have e : D = tp := Value.ref.inj (beq_iff_eq.mp q)
    subst e
    unfold clsIn at hcD
    split at hcD
    · rename_i c' d' cd' sl' ho
      have z := (X _ _ ho).symm.trans htp
      cases z
    · cases hcD
  ca := fun X ⟨_, _, I⟩ k => xo_class hga hgt hsub hdct ha hn htk hm X I k
end
end PySem.W

namespace Xo
open PySem PySem.Spec PyProof.Rows L2 Evl
/-- an exception of the class at C stands at a: without a dict, or with its own -/
def IsE (H : Hp) (C a : Addr) : Prop := H a = some (ExO (.ref C) a) ∨ ∃ dx fs, H a = some (exo a C (some dx)) ∧ H dx = some (exd dx fs)
theorem IsE.ex {H H' : Hp} {C a : Addr} (e : Ex H H') (h : IsE H C a) : IsE H' C a := by
  rcases h with h | ⟨dx, fs, h1, h2⟩
  · exact .inl (e _ _ h)
  · exact .inr ⟨dx, fs, e _ _ h1, e _ _ h2⟩
theorem IsE.inst {X : Cx} {pins : List (Addr × Obj)} {σ : L2.St} {H : Hp} {s : Shared} {C a : Addr} (I : Inv X pins σ H s) (h : IsE H C a) : ∃ ox od, PySem.W.InstAt s.heap a ox C od := by
  rcases h with h | ⟨dx, fs, h1, h2⟩
  · obtain ⟨⟨oe, vs, ho, hz, hd, _⟩, _, _⟩ := I.hok a _ h
    obtain ⟨oc, odd, oda, osl⟩ := oe
    obtain ⟨z1, z2⟩ := hz
    dsimp only at z1 z2 hd
    subst z1 z2 hd
    exact ⟨_, none, ho, rfl, rfl, trivial⟩
  · obtain ⟨t1, ho⟩ := exo_at I.hok h1
    obtain ⟨mA, hns, _⟩ := exd_at I.hok h2
    obtain ⟨od, hod, _⟩ := lookIn_ns hns
    exact ⟨_, some od, ho, rfl, rfl, hod⟩
/-- isinstance(e, c), e an exception of ours -/
def rIsX (K : PySem.W.Frag) : List V → Hp → VK → Prop := fun xs H Q => ∃ (a D : Addr) (c : V) (cv : Value) (b : Bool), xs = [.ref a, c] ∧ IsE H D a ∧ ExcC K D ∧ (∀ u, RelV c u → u = cv) ∧ PySem.W.kitOne K (.ref D) cv = some b ∧ Q (.bl b) H
theorem call_isX {X : Cx} : CallR X (.builtin "isinstance") (rIsX X.K) := by
  intro pins s σ H xs us Q I r h
  obtain ⟨a, D, c, cv, b, rfl, hE, C, hcv, e, q⟩ := h
  obtain ⟨u1, u2, rfl, r1, r2⟩ := vals2 r
  obtain rfl : u1 = Value.ref a := r1
  have ec := hcv _ r2
  subst ec
  exact PySem.W.kia_one (PySem.W.xo_kit C.hg C.hk C.hs C.hd C.ha C.hn C.ht C.hm) I.kIn (hE.inst I) e (fun z => nomatch z) fun tk => ⟨.bl b, H, I.tok tk, rfl, q⟩

/-! ### lists whose items are the same things, or tuples of the same things -/
/-- a value that is no object, no bytes, no float -/
def atom : V → Bool
  | .non => true
  | .bl _ => true
  | .int _ => true
  | .str _ => true
  | _ => false
/-- None, a bool, an int, a text, or an object -/
def Safe (v : V) : Prop := atom v = true ∨ ∃ a, v = .ref a
theorem atom_eq {A : Around} {s : Shared} : ∀ {v : V} {u u' : Value}, RelV v u → RelV v u' → atom v = true → SeqAt.EqAt A s u u' true
  | .non, u, u', r, r', _ => by
    have h : u = Value.none := r
    have h' : u' = Value.none := r'
    rw [h, h']
    exact .same _
  | .bl b, u, u', r, r', _ => by
    have h : u = Value.bool b := r
    have h' : u' = Value.bool b := r'
    rw [h, h']
    exact .same _
  | .int i, u, u', r, r', _ => by
    obtain ⟨t, h⟩ := (id r : ∃ t, u = Value.int i t)
    obtain ⟨t', h'⟩ := (id r' : ∃ t, u' = Value.int i t)
    have z := SeqAt.EqAt.int_int (A := A) (s := s) i t i t'
    rw [h, h']
    simpa using z
  | .str x, u, u', r, r', _ => by
    obtain ⟨t, h⟩ := (id r : ∃ t, u = Value.str x t)
    obtain ⟨t', h'⟩ := (id r' : ∃ t, u' = Value.str x t)
    have z := SeqAt.EqAt.str_str (A := A) (s := s) x t x t'
    rw [h, h']
    simpa using z
def E0 (x y : V) : Prop := x = y ∧ Safe x
def E1 (K : PySem.W.Frag) (H : Hp) (x y : V) : Prop := E0 x y ∨ ∃ a b xs ys, x = .ref a ∧ y = .ref b ∧ SqT K H a xs ∧ SqT K H b ys ∧ Paired E0 xs ys
theorem e0_run {A : Around} {s : Shared} {x y : V} {v u : Value} (h : E0 x y) (rx : RelV x v) (ry : RelV y u) : SeqAt.EqAt A s v u true := by
  obtain ⟨rfl, f | ⟨a, rfl⟩⟩ := h
  · exact atom_eq rx ry f
  · cases (show v = Value.ref a from rx)
    cases (show u = Value.ref a from ry)
    exact SeqAt.EqAt.same _
theorem all_run {A : Around} {s : Shared} {F : V → V → Prop} (ih : ∀ x y v u, F x y → RelV x v → RelV y u → SeqAt.EqAt A s v u true) {xs ys : List V} (hp : Paired F xs ys) :
    ∀ {us ws : List Value}, Vals xs us → Vals ys ws → ∀ j (h1 : j < us.length) (h2 : j < ws.length), SeqAt.EqAt A s us[j] ws[j] true := by
  induction hp with
  | nil =>
    intro us ws r1 r2 j h1 h2
    cases r1
    exact absurd h1 (Nat.not_lt_zero j)
  | cons h _ k =>
    intro us ws r1 r2 j h1 h2
    cases r1 with
    | cons a1 b1 =>
      cases r2 with
      | cons a2 b2 =>
        cases j with
        | zero => exact ih _ _ _ _ h a1 a2
        | succ j => exact k b1 b2 j (Nat.lt_of_succ_lt_succ h1) (Nat.lt_of_succ_lt_succ h2)
theorem all_true (n : Nat) : ((List.range n).all fun _ => true) = true := List.all_eq_true.mpr fun _ _ => rfl
section
variable {X : Cx} {pins : List (Addr × Obj)} {σ : L2.St} {H : Hp} {s : Shared}
theorem e1_run (I : Inv X pins σ H s) {A : Around} (hu : A.units < cLine) {x y : V} {v u : Value} (h : E1 X.K H x y) (rx : RelV x v) (ry : RelV y u) : SeqAt.EqAt A s v u true := by
  rcases h with h | ⟨a, b, xs, ys, rfl, rfl, ha, hb, hp⟩
  · exact e0_run h rx ry
  · cases (show v = Value.ref a from rx)
    cases (show u = Value.ref b from ry)
    by_cases e : a = b
    · subst e
      exact SeqAt.EqAt.same _
    · obtain ⟨us, r1, p1, _⟩ := I.tuple ha
      obtain ⟨ws, r2, p2, _⟩ := I.tuple hb
      have hsz : us.length = ws.length := by
        rw [← r1.length, ← r2.length]
        exact Paired.length hp
      have q := SeqAt.RcAt.tuples (A := A) (s := s) (e := fun _ => true) p1 p2 hu (fun j h1 h2 => by
        have k := all_run (A := A.in1) (s := s) (fun x y v u h rx ry => e0_run h rx ry) hp r1 r2 j (by simpa using h1) (by simpa using h2)
        simpa using k)
      rw [all_true, show (us.toArray.size == ws.toArray.size) = true by simp [hsz]] at q
      exact SeqAt.EqAt.of_refs e q
end
def rEqW (K : PySem.W.Frag) : R2 := fun x y H Q => ∃ a b xs ys, x = .ref a ∧ y = .ref b ∧ SqL K H a xs ∧ SqL K H b ys ∧ Paired (E1 K H) xs ys ∧ Q (.bl true) H
def rNeW (K : PySem.W.Frag) : R2 := fun x y H Q => ∃ a b xs ys, x = .ref a ∧ y = .ref b ∧ SqL K H a xs ∧ SqL K H b ys ∧ Paired (E1 K H) xs ys ∧ Q (.bl false) H
section
variable {X : Cx}
theorem units_in1 {A : Around} (hu : A.units + 1 < cLine) : A.in1.units < cLine := hu
theorem op_eqW (hu : X.A.units + 1 < cLine) : OpR X (compareOp .Eq) (rEqW X.K) := by
  intro pins s σ H x y v u Q I rx ry h
  obtain ⟨a, b, xs, ys, rfl, rfl, ha, hb, hp, q⟩ := h
  cases (show v = Value.ref a from rx)
  cases (show u = Value.ref b from ry)
  obtain ⟨us, r1, p1, _⟩ := I.list ha
  obtain ⟨ws, r2, p2, _⟩ := I.list hb
  have hsz : us.toArray.size = ws.toArray.size := by
    rw [List.size_toArray, List.size_toArray, ← r1.length, ← r2.length]
    exact Paired.length hp
  refine SeqAt.RcAt.lists (A := X.A) (s := s) (e := fun _ => true) p1.isList p2.isList hsz (Nat.lt_of_succ_lt hu) (fun j h1 h2 => ?_) X.prog X.w _ _ ?_
  · have k := all_run (A := X.A.in1) (s := s) (fun x y v u h rx ry => e1_run I (units_in1 hu) h rx ry) hp r1 r2 j (by simpa using h1) (by simpa using h2)
    simpa using k
  · rw [all_true]
    exact ⟨.bl true, H, I, rfl, q⟩
theorem op_neW (hu : X.A.units + 1 < cLine) : OpR X (compareOp .NotEq) (rNeW X.K) := by
  intro pins s σ H x y v u Q I rx ry h
  obtain ⟨a, b, xs, ys, rfl, rfl, ha, hb, hp, q⟩ := h
  cases (show v = Value.ref a from rx)
  cases (show u = Value.ref b from ry)
  obtain ⟨us, r1, p1, _⟩ := I.list ha
  obtain ⟨ws, r2, p2, _⟩ := I.list hb
  have hsz : us.toArray.size = ws.toArray.size := by
    rw [List.size_toArray, List.size_toArray, ← r1.length, ← r2.length]
    exact Paired.length hp
  refine SeqAt.RcNeAt.lists (A := X.A) (s := s) (e := fun _ => true) p1.isList p2.isList hsz (Nat.lt_of_succ_lt hu) (fun j h1 h2 => ?_) X.prog X.w _ _ ?_
  · have k := all_run (A := X.A.in1) (s := s) (fun x y v u h rx ry => e1_run I (units_in1 hu) h rx ry) hp r1 r2 j (by simpa using h1) (by simpa using h2)
    simpa using k
  · rw [all_true]
    exact ⟨.bl false, H, I, rfl, q⟩
end
theorem paired_self {F : V → V → Prop} : ∀ {xs : List V}, (∀ v ∈ xs, F v v) → Paired F xs xs
  | [], _ => .nil
  | x :: xs, h => .cons (h x List.mem_cons_self) (paired_self fun v hv => h v (List.mem_cons_of_mem _ hv))

/-! ### what the written part says of a class of ours, by one Bool -/
def xoB (K : PySem.W.Frag) (C CT : Addr) : Bool := match K.lookup C with
  | some ⟨.type "type", _, .cls cd, sl⟩ => (match cd.mro, sl.toList with
    | .ref C' :: .ref T' :: bm, [_, _, _, _, some (.builtin n), _] => C' == C && (T' == CT && (bm == PySem.HandSPX.veTail && (n == "ValueError.__new__" && (!cd.hasDel && cd.hasDict))))
    | _, _ => false)
  | _ => false
theorem xoB_ok {K : PySem.W.Frag} {C CT : Addr} (q : xoB K C CT = true) : ∃ nm qn N bs sn sub ab col dd k0 k1 k2 k3 k5,
    K.lookup C = some (excClassObj nm qn C N bs (.ref CT :: PySem.HandSPX.veTail) true sn sub ab col dd k0 k1 k2 k3 k5 "ValueError.__new__") := by
  unfold xoB at q
  split at q
  · rename_i dd cd sl ho
    split at q
    · rename_i C' T' bm k0 k1 k2 k3 n k5 hm hs
      simp only [Bool.and_eq_true, beq_iff_eq, Bool.not_eq_true'] at q
      obtain ⟨rfl, rfl, rfl, rfl, hdel, hdct⟩ := q
      obtain ⟨nm, bs, mro, ns, qn, hd, sn, sub, ab, col, del⟩ := cd
      dsimp only at hm hdel hdct
      subst hm hdel hdct
      have hsl : sl = #[k0, k1, k2, k3, some (.builtin "ValueError.__new__"), k5] := by
        obtain ⟨l⟩ := sl
        simp only at hs
        rw [hs]
      subst hsl
      exact ⟨nm, qn, ns, bs, sn, sub, ab, col, dd, k0, k1, k2, k3, k5, ho⟩
    · cases q
  · cases q
end Xo


namespace K4
open PySem PySem.Spec PyProof.Rows L2 Evl Xo
def top (i : Nat) : Stmt := PySem.Challenge.pw_allteams_k04_errors_by_hand.main.body.getD i (.Pass ⟨0, 0, 0, 0⟩)
/-! ### what is left of a heap but for one object -/
def Bt (s : Addr) (H H' : Hp) : Prop := ∀ b o, b ≠ s → H b = some o → H' b = some o
theorem Bt.refl (s : Addr) (H : Hp) : Bt s H H := fun _ _ _ h => h
theorem Bt.ex {s : Addr} {H H1 H2 : Hp} (h : Bt s H H1) (e : Ex H1 H2) : Bt s H H2 := fun b o n q => e b o (h b o n q)
theorem Bt.upd {s : Addr} {H H1 : Hp} {o : HO} (h : Bt s H H1) : Bt s H (L2.upd H1 s o) := fun b u n q => by
  rw [upd_ne n]
  exact h b u n q
theorem Bt.trans {s : Addr} {H H1 H2 : Hp} (h : Bt s H H1) (e : Bt s H1 H2) : Bt s H H2 := fun b o n q => e b o n (h b o n q)
theorem Bt.mut {s D : Addr} {H H1 : Hp} {o : HO} (h : Bt s H H1) (hd : H D = none) : Bt s H (L2.upd H1 D o) := fun b u n q => by
  rw [upd_ne (ne_of_none q hd)]
  exact h b u n q
theorem Bt.toEx {s : Addr} {H H1 : Hp} (h : Bt s H H1) (hs : H s = none) : Ex H H1 := fun b o q => h b o (ne_of_none q hs) q
/-! ### the errors made -/
def cn : List Str := ["BadSizes", "BadPeople", "BadGames", "TooMany", "BadPerson", "BadTeam", "BadKind", "BadRounds", "BadRound", "BadNumber", "BadIndex", "BadClasses", "BadText", "WrongTimes", "NotAdding", "BadShares", "Alone", "WrongSum", "NotFull", "NoGrowth", "BadPairs", "ShortRound", "Crowded", "BadCost", "BadWish", "UnlikePeople", "NothingToUndo"]
def cA (K : PySem.W.Frag) (j : Nat) : Addr := He.ga K (cn.getD j "")
/-- an error with these fields stands at a -/
def Xc (H : Hp) (a C : Addr) (fs : List Str) (ws : List V) : Prop := ∃ dx, H a = some (exo a C (some dx)) ∧ H dx = some (exd dx ((fs.zip ws).reverse))
theorem Xc.ex {H H' : Hp} {a C : Addr} {fs : List Str} {ws : List V} (e : Ex H H') (h : Xc H a C fs ws) : Xc H' a C fs ws := by
  obtain ⟨dx, h1, h2⟩ := h
  exact ⟨dx, e _ _ h1, e _ _ h2⟩
theorem Xc.isE {H : Hp} {a C : Addr} {fs : List Str} {ws : List V} (h : Xc H a C fs ws) : IsE H C a := by
  obtain ⟨dx, h1, h2⟩ := h
  exact .inr ⟨dx, _, h1, h2⟩
def spInit (C : Addr) (fs : List Str) : Sp := fun vs H Q _ => ∃ (a : Addr) (ws : List V), vs = .ref a :: ws ∧ ws.length = fs.length ∧ H a = some (exo a C none) ∧
  ∀ (H' : Hp) (dx : Addr), Bt a H H' → H' a = some (exo a C (some dx)) → H' dx = some (exd dx ((fs.zip ws).reverse)) → Q .non H'
theorem len1 {ws : List V} (h : ws.length = 1) : ∃ v, ws = [v] := match ws, h with | [v], _ => ⟨v, rfl⟩
theorem len2 {ws : List V} (h : ws.length = 2) : ∃ v1 v2, ws = [v1, v2] := match ws, h with | [v1, v2], _ => ⟨v1, v2, rfl⟩
theorem len3 {ws : List V} (h : ws.length = 3) : ∃ v1 v2 v3, ws = [v1, v2, v3] := match ws, h with | [v1, v2, v3], _ => ⟨v1, v2, v3, rfl⟩
/-! one store, two, three: the readings of the inits -/
section
variable {K : PySem.W.Frag} {C : Addr} {D : Ends}
theorem init1 {f : Str} (O : OexC K C) (n1 : PySem.W.findIn K (.ref C) f = some none) {vs : List V} {H : Hp} {Q : VK} {E : XK} (h : spInit C [f] vs H Q E) {N : List Str} (hN : N = ([("self" : Str), f] : List Str)) :
    tOst K f (tVar 0) (tVar 1) { nx := fun _ H' => Q .non H', rt := Q } (start N vs) H := by
  subst hN
  obtain ⟨a, ws, rfl, hl, ha, k⟩ := h
  obtain ⟨v, rfl⟩ := len1 hl
  refine ⟨_, rfl, _, rfl, a, C, rfl, O, n1, .inl ⟨ha, fun dx hdx ne => ?_⟩⟩
  exact k _ dx (fun b o hb e => by rw [upd_ne hb, upd_ne (ne_of_none e hdx)]; exact e) upd_same (by rw [upd_ne ne, upd_same]; rfl)
theorem init2 {f g : Str} (O : OexC K C) (n1 : PySem.W.findIn K (.ref C) f = some none) (n2 : PySem.W.findIn K (.ref C) g = some none) {vs : List V} {H : Hp} {Q : VK} {E : XK} (h : spInit C [f, g] vs H Q E) {N : List Str} (hN : N = ([("self" : Str), f, g] : List Str)) :
    tSeq (tOst K f (tVar 0) (tVar 1)) (tOst K g (tVar 0) (tVar 2)) { nx := fun _ H' => Q .non H', rt := Q } (start N vs) H := by
  subst hN
  obtain ⟨a, ws, rfl, hl, ha, k⟩ := h
  obtain ⟨v, v2, rfl⟩ := len2 hl
  refine ⟨_, rfl, _, rfl, a, C, rfl, O, n1, .inl ⟨ha, fun dx hdx ne => ?_⟩⟩
  refine ⟨_, rfl, _, rfl, a, C, rfl, O, n2, .inr ⟨dx, _, upd_same, (by rw [upd_ne ne, upd_same]), by simp, ?_⟩⟩
  exact k _ dx (fun b o hb e => by rw [upd_ne (ne_of_none e hdx), upd_ne hb, upd_ne (ne_of_none e hdx)]; exact e) (by rw [upd_ne ne.symm, upd_same]) upd_same
theorem init3 {f g l : Str} (O : OexC K C) (n1 : PySem.W.findIn K (.ref C) f = some none) (n2 : PySem.W.findIn K (.ref C) g = some none) (n3 : PySem.W.findIn K (.ref C) l = some none) {vs : List V} {H : Hp} {Q : VK} {E : XK} (h : spInit C [f, g, l] vs H Q E) {N : List Str} (hN : N = ([("self" : Str), f, g, l] : List Str)) :
    tSeq (tOst K f (tVar 0) (tVar 1)) (tSeq (tOst K g (tVar 0) (tVar 2)) (tOst K l (tVar 0) (tVar 3))) { nx := fun _ H' => Q .non H', rt := Q } (start N vs) H := by
  subst hN
  obtain ⟨a, ws, rfl, hl, ha, k⟩ := h
  obtain ⟨v, v2, v3, rfl⟩ := len3 hl
  refine ⟨_, rfl, _, rfl, a, C, rfl, O, n1, .inl ⟨ha, fun dx hdx ne => ?_⟩⟩
  refine ⟨_, rfl, _, rfl, a, C, rfl, O, n2, .inr ⟨dx, _, upd_same, (by rw [upd_ne ne, upd_same]), by simp, ?_⟩⟩
  refine ⟨_, rfl, _, rfl, a, C, rfl, O, n3, .inr ⟨dx, _, (by rw [upd_ne ne.symm, upd_same]), upd_same, by simp, ?_⟩⟩
  exact k _ dx (fun b o hb e => by rw [upd_ne (ne_of_none e hdx), upd_ne (ne_of_none e hdx), upd_ne hb, upd_ne (ne_of_none e hdx)]; exact e) (by rw [upd_ne ne.symm, upd_ne ne.symm, upd_same]) upd_same
end
/-- what is known of a class x with the fields fs -/
structure Kl (P : Program) (w : World) (K : PySem.W.Frag) (mg : Str → Option Value) (base : Heap) (x : Str) (fs : List Str) : Prop where
  oex : OexC K (He.ga K x)
  xf : XfC K (He.ga K x)
  g : mg x = some (.ref (He.ga K x))
  iC : PySem.W.findIn K (.ref (He.ga K x)) "__init__" = some (some (.ref (He.ma K (He.ga K x) "__init__")))
  tI : PySem.W.typeIn K (.ref (He.ma K (He.ga K x) "__init__")) = some (.type "function")
  no : ∀ f ∈ fs, PySem.W.findIn K (.ref (He.ga K x)) f = some none
  ok : ∃ fd, FnOk P w K mg base CX0 1 (He.ma K (He.ga K x) "__init__") fd ("self" :: fs) (spInit (He.ga K x) fs) ∧ Binds K fd ("self" :: fs) []
section
variable {X : Cx} {e : Expr} {es : List Expr} {ta : TA} {p pos : Pos}
/-- x(e, ..) -/
def tKl (K : PySem.W.Frag) (x : Str) (fs : List Str) (ta : TA) : TE := tMkV (He.ga K x) (spInit (He.ga K x) fs) [] ta
theorem pe_kl {x : Str} {fs : List Str} (h : Kl X.prog X.w X.K X.mg X.base x fs) (hr : Room 2 X.A) (hg : Gl X x) (ha : PA X (e :: es) ta)
    (hdb : (x == ("__debug__" : Str)) = false := by decide) (he : starEach (e :: es) X.env = (false, eval e X.env) :: starEach es X.env := by rfl) (hpl : (backTo pos (starEach es X.env)).any (·.1) = false := by rfl) :
    PE X (.Call (.Name x p) (e :: es) [] pos) (tKl X.K x fs ta) := by
  obtain ⟨fd, F, B⟩ := h.ok
  exact pe_oex h.oex h.iC h.tI F hr B .nil pass0 hg h.g ha hdb he hpl
end
section
variable {K : PySem.W.Frag} {σ : L2.St} {H : Hp} {x : Str} {v v1 v2 v3 : V} {Q : VK}
theorem mk1 {f : Str} {i : Nat} (h : σ[i]? = some (some v)) (k : ∀ a H2, Ex H H2 → Xc H2 a (He.ga K x) [f] [v] → Q (.ref a) H2) : tKl K x [f] (tCons (tVar i) tNil) σ H Q :=
  ⟨v, h, by simp, fun a ha => ⟨a, [v], rfl, rfl, upd_same, fun H' dx b e1 e2 => ⟨rfl, k a H' (fun c o hc => b c o (ne_of_none hc ha) (by rw [upd_ne (ne_of_none hc ha)]; exact hc)) ⟨dx, e1, e2⟩⟩⟩⟩
theorem mk2 {f g : Str} {i j : Nat} (h : σ[i]? = some (some v)) (h2 : σ[j]? = some (some v2)) (k : ∀ a H2, Ex H H2 → Xc H2 a (He.ga K x) [f, g] [v, v2] → Q (.ref a) H2) : tKl K x [f, g] (tCons (tVar i) (tCons (tVar j) tNil)) σ H Q :=
  ⟨v, h, v2, h2, by simp, fun a ha => ⟨a, [v, v2], rfl, rfl, upd_same, fun H' dx b e1 e2 => ⟨rfl, k a H' (fun c o hc => b c o (ne_of_none hc ha) (by rw [upd_ne (ne_of_none hc ha)]; exact hc)) ⟨dx, e1, e2⟩⟩⟩⟩
theorem mk3 {f g l : Str} {i j m : Nat} (h : σ[i]? = some (some v)) (h2 : σ[j]? = some (some v2)) (h3 : σ[m]? = some (some v3)) (k : ∀ a H2, Ex H H2 → Xc H2 a (He.ga K x) [f, g, l] [v, v2, v3] → Q (.ref a) H2) : tKl K x [f, g, l] (tCons (tVar i) (tCons (tVar j) (tCons (tVar m) tNil))) σ H Q :=
  ⟨v, h, v2, h2, v3, h3, by simp, fun a ha => ⟨a, [v, v2, v3], rfl, rfl, upd_same, fun H' dx b e1 e2 => ⟨rfl, k a H' (fun c o hc => b c o (ne_of_none hc ha) (by rw [upd_ne (ne_of_none hc ha)]; exact hc)) ⟨dx, e1, e2⟩⟩⟩⟩
/-- a field read -/
theorem xo_get {te : TE} {a C : Addr} {fs : List Str} {ws : List V} {f : Str} (h : Ev te σ H (.ref a)) (hx : Xc H a C fs ws) (T : XfC K C) (no : ∀ f ∈ fs, PySem.W.findIn K (.ref C) f = some none) (hf : f ∈ fs) (l : ((fs.zip ws).reverse).lookup f = some v) : Ev (tXo K f te) σ H v :=
  fun H1 e Q q => h H1 e _ fun H2 e2 => by
    obtain ⟨dx, h1, h2⟩ := hx.ex (e.trans e2)
    exact ⟨a, C, dx, _, v, rfl, h1, h2, T, no f hf, l, q H2 e2⟩
/-- x(v).f is v -/
theorem kv1 {f : Str} {i : Nat} (T : XfC K (He.ga K x)) (no : ∀ g ∈ [f], PySem.W.findIn K (.ref (He.ga K x)) g = some none) (h : σ[i]? = some (some v)) : Ev (tXo K f (tKl K x [f] (tCons (tVar i) tNil))) σ H v := fun H1 e Q q =>
  mk1 h fun a H2 e2 ⟨dx, h1, h2⟩ => ⟨a, _, dx, _, v, rfl, h1, h2, T, no f List.mem_cons_self, (show List.lookup f [(f, v)] = some v by rw [lookup_put, if_pos rfl]), q H2 e2⟩
end
/-! ### lists: what evaluates to some of a kind -/
def EvX (te : TE) (σ : L2.St) (H : Hp) : Prop := ∀ H1, Ex H H1 → ∀ Q : VK, (∀ v H2, Ex H1 H2 → Safe v → Q v H2) → te σ H1 Q
def EAX (ta : TA) (σ : L2.St) (H : Hp) (n : Nat) : Prop := ∀ H1, Ex H H1 → ∀ Q : List V → Hp → Prop, (∀ vs H2, Ex H1 H2 → vs.length = n → (∀ v ∈ vs, Safe v) → Q vs H2) → ta σ H1 Q
section
variable {K : PySem.W.Frag} {σ : L2.St} {H : Hp} {te tb ta' : TE} {ta : TA} {v : V}
theorem evx_of (h : Ev te σ H v) (s : Safe v) : EvX te σ H := fun H1 e Q q => h H1 e Q fun H2 e2 => q v H2 e2 s
theorem evx_l {xs : List V} (h : EvL te σ H xs) : EvX te σ H := fun H1 e Q q => h H1 e Q fun p H2 _ e2 _ => q _ H2 e2 (.inr ⟨p, rfl⟩)
theorem evx_u {xs : List V} (h : EvU te σ H xs) : EvX te σ H := fun H1 e Q q => h H1 e Q fun p H2 _ e2 _ => q _ H2 e2 (.inr ⟨p, rfl⟩)
theorem eax_nil : EAX tNil σ H 0 := fun H1 _ _ q => q [] H1 (Ex.refl H1) rfl fun _ h => by cases h
theorem eax_cons {n : Nat} (h : EvX te σ H) (hr : EAX ta σ H n) : EAX (tCons te ta) σ H (n + 1) := fun H1 e Q q =>
  h H1 e _ fun v H2 e2 s => hr H2 (e.trans e2) _ fun vs H3 e3 l a => q _ H3 (e2.trans e3) (congrArg Nat.succ l) fun u hu => by
    rcases List.mem_cons.mp hu with rfl | hu
    · exact s
    · exact a u hu
theorem evx_lst {n : Nat} (h : EAX ta σ H n) (hn : n ≤ 100000) : EvX (tLst ta) σ H := fun H1 e Q q =>
  h H1 e _ fun vs H2 e2 l _ => ⟨sz_of (by omega), fun p hp => q _ _ (e2.trans (Ex.new hp)) (.inr ⟨p, rfl⟩)⟩
theorem evx_dnew : EvX tDNewK σ H := fun H1 _ Q q p hp => q _ _ (Ex.new hp) (.inr ⟨p, rfl⟩)
theorem evx_disp1 {z : Str} {i : Int} : EvX (tDisp [(tC (.str z), tC (.int i))]) σ H := fun H1 _ Q q p hp =>
  ⟨upd_same, [(.inr z, .int i)], rfl, by simp, q _ _ (Ex.mut (Ex.new hp) hp) (.inr ⟨p, rfl⟩)⟩
theorem sm {n : Nat} (h : Nat.ble n 100000 = true) : n ≤ 100000 := Nat.le_of_ble_eq_true h
theorem safe_int (i : Int) : Safe (.int i) := .inl rfl
theorem safe_str (z : Str) : Safe (.str z) := .inl rfl
theorem safe_non : Safe .non := .inl rfl
theorem safe_bl (b : Bool) : Safe (.bl b) := .inl rfl
/-- xs + ys -/
theorem el_cat {l : Addr} {xs ys : List V} (ha : Ev te σ H (.ref l)) (hl : H l = some (.lst xs)) (hb : EvL tb σ H ys) (hz : xs.length + ys.length ≤ 100000) : EvL (tOp rCat te tb) σ H (xs ++ ys) := fun H1 e Q q =>
  ha H1 e _ fun H2 e2 => hb H2 (e.trans e2) _ fun b H3 hb3 e3 h3 => ⟨l, b, xs, ys, rfl, rfl, e3 _ _ (e2 _ _ (e _ _ hl)), h3, sz_of hz, fun p hp => q p _ (fresh_back (e2.trans e3) hp) ((e2.trans e3).trans (Ex.new hp)) upd_same⟩
/-- a list each of whose items is one of a kind -/
def EAQ (ta : TA) (σ : L2.St) (H : Hp) (P : List V → Hp → Prop) : Prop := ∀ H1, Ex H H1 → ∀ Q : List V → Hp → Prop, (∀ vs H2, Ex H1 H2 → P vs H2 → Q vs H2) → ta σ H1 Q
end
/-! ### names of the module -/
structure Nm (mg : Str → Option Value) : Prop where
  len : mg "len" = none
  int : mg "int" = none
  range : mg "range" = none
  isinstance : mg "isinstance" = none
  all : mg "all" = none
  sorted : mg "sorted" = none
  list : mg "list" = none
  ve : mg "ValueError" = none
abbrev FnP (K : PySem.W.Frag) (x : Str) (st : Stmt) (f : Addr) (fd : FuncData) : Prop := FunD K x x (defArgs st) (defBody st) (defScope st) [] [] f fd
section
variable {P : Program} {w : World} {K : PySem.W.Frag} {mg : Str → Option Value} {base : Heap}
theorem call_lenS {X : Cx} {K : PySem.W.Frag} (h : X.K = K := by rfl) : CallR X (.builtin "len") (Evl.rLenS K) := by
  subst h
  exact call_len_seq
theorem yes_ite {σ : L2.St} {H : Hp} {A B : Hp → Prop} (h : A H) : tYes σ H (fun b H3 => if b = true then A H3 else B H3) := h
theorem ix_listK {X : Cx} {K : PySem.W.Frag} (h : X.K = K := by rfl) : IxR X (rIxL K) := by
  subst h
  exact ix_list
/-! ### _law_source -/
abbrev sSrc : Stmt := top 31
def spSrc : Sp := fun vs H Q _ => ∃ c : Int, vs = [.int c] ∧ RetL [.int c, .int c, .int 0] H Q
theorem scSrc : FnScope ["_law_cell_here"] ["_law_cell_here"] (defScope sSrc) := ⟨rfl, rfl, rfl, by decide +kernel, rfl, by decide +kernel, by decide +kernel⟩
theorem ok_src {f : Addr} {fd : FuncData} (F : FnP K "_law_source" sSrc f fd) : FnOk P w K mg base CX0 1 f fd ["_law_cell_here"] spSrc := by
  refine F.ok scSrc (fun vs H Q E h => ?_) (fun cdv A outer s H vs Q E hr h => ?_)
  · obtain ⟨c, rfl, _⟩ := h
    rfl
  · obtain ⟨c, rfl, k⟩ := h
    refine ⟨_, PSs.nox (pss_one (ps_ret (pe_lst (pa_cons (pv 0) (pa_cons (pv 0) (pa_cons pe_int pa_nil)))))), ?_⟩
    exact s_retL (el_lst (ea_cons (ev_var rfl) (ea_cons (ev_var rfl) (ea_cons ev_c ea_nil))) (sm rfl)) fun p H1 hp e h1 => k p H1 hp e h1
/-! ### _law_draw -/
abbrev sDraw : Stmt := top 32
def spDraw : Sp := fun vs H Q _ => ∃ (s : Addr) (c d k L : Int), vs = [.ref s, .int L] ∧ H s = some (.lst [.int c, .int d, .int k]) ∧ 0 ≤ k ∧ k ≤ 1000 ∧ 1 ≤ L ∧ L ≤ 1000 ∧
  ∀ (x d' : Int) (H' : Hp), Bt s H H' → H' s = some (.lst [.int c, .int d', .int (k + 1)]) → 0 ≤ x → x < L → Q (.int x) H'
theorem scDraw : FnScope ["_law_source_here", "_law_limit", "_law_digit", "_law_seed", "_law_mixed"] ["_law_source_here", "_law_limit"] (defScope sDraw) := ⟨rfl, rfl, rfl, by decide +kernel, rfl, by decide +kernel, by decide +kernel⟩
abbrev rInt1 : List V → Hp → VK → Prop := fun xs H Q => (∃ i, xs = [.int i] ∧ Q (.int i) H) ∨ ∃ k, xs = [.bl k] ∧ Q (.int (if k then 1 else 0)) H
theorem ev_int1 {σ : L2.St} {H : Hp} {te : TE} {i : Int} (h : Ev te σ H (.int i)) : Ev (tCB rInt1 (tCons te tNil)) σ H (.int i) := fun H1 e _ q => h H1 e _ fun H2 e2 => .inl ⟨i, rfl, q H2 e2⟩
theorem ev_ix {σ : L2.St} {H : Hp} {i j : Nat} {s : Addr} {xs : List V} {v : V} (hs : σ[i]? = some (some (.ref s))) (h : H s = some (.lst xs)) (hj : xs[j]? = some v) : Ev (tOp (rIxL K) (tVar i) (tC (.int (j : Int)))) σ H v :=
  ev_op (ev_var hs) ev_c (rv_ixL (sq_of h) (atI_nat hj))
theorem emod_in (a : Int) {b : Int} (h : 0 < b) : 0 ≤ a % b ∧ a % b < b := ⟨Int.emod_nonneg a (by omega), Int.emod_lt_of_pos a h⟩
theorem sq_bound {k : Int} (h0 : 0 ≤ k) (h1 : k ≤ 1000) : 0 ≤ (k + 1) * (k + 1) ∧ (k + 1) * (k + 1) ≤ 1002001 := by
  have a : (k + 1) * (k + 1) ≤ 1001 * 1001 := Int.mul_le_mul (by omega) (by omega) (by omega) (by omega)
  exact ⟨Int.mul_nonneg (by omega) (by omega), by omega⟩
theorem pow_small {b : Int} (h0 : 0 ≤ b) (h1 : b < 2 ^ 60) : b.natAbs < 2 ^ 64 := by omega
theorem ok_draw {f : Addr} {fd : FuncData} (F : FnP K "_law_draw" sDraw f fd) (T : Nm mg) : FnOk P w K mg base CX0 1 f fd ["_law_source_here", "_law_limit"] spDraw := by
  refine F.ok scDraw (fun vs H Q E h => ?_) (fun cdv A outer st H vs Q E hr h => ?_)
  · obtain ⟨s, c, d, k, L, rfl, _⟩ := h
    rfl
  · obtain ⟨s, c, d, k, L, rfl, hs, k0, k1, l0, l1, q⟩ := h
    refine ⟨_, PSs.nox (pss_cons (ps_asg (pe_op op_add (pe_ix ix_list (pv 0) pe_int (fun _ _ => rfl)) pe_int) (pg_sub (pv 0) pe_int set_list))
      (pss_cons (ps_if (pt_cmpR op_ge (pe_ix ix_list (pv 0) pe_int (fun _ _ => rfl)) (pe_op op_pow pe_int pe_int) (nomark _))
        (pss_cons (ps_set (i := 2) scDraw.nd rfl (Or.inl rfl) (pe_op op_mod (pe_callTy call_int1 rfl T.int PyProof.Rows.boot_int (pa_cons (pe_ix ix_list (pv 0) pe_int (fun _ _ => rfl)) pa_nil)) (pv 1)))
        (pss_cons (ps_asg (pe_op op_fdiv (pe_ix ix_list (pv 0) pe_int (fun _ _ => rfl)) (pv 1)) (pg_sub (pv 0) pe_int set_list))
        (pss_one (ps_ret (pv 2))))) pss_nil)
      (pss_cons (ps_set (i := 3) scDraw.nd rfl (Or.inl rfl) (pe_op op_mod (pe_callTy call_int1 rfl T.int PyProof.Rows.boot_int (pa_cons (pe_ix ix_list (pv 0) pe_int (fun _ _ => rfl)) pa_nil)) pe_int))
      (pss_cons (ps_set (i := 4) scDraw.nd rfl (Or.inl rfl) (pe_op op_mod (pe_callTy call_int1 rfl T.int PyProof.Rows.boot_int (pa_cons (pe_op op_pow (pe_callTy call_int1 rfl T.int PyProof.Rows.boot_int (pa_cons
          (pe_op op_add (pe_op op_add (pe_op op_mul (pv 3) pe_int) (pe_op op_mul (pe_ix ix_list (pv 0) pe_int (fun _ _ => rfl)) pe_int)) pe_int) pa_nil)) pe_int) pa_nil)) pe_int))
      (pss_cons (ps_set (i := 4) scDraw.nd rfl (Or.inl rfl) (pe_op op_mod (pe_callTy call_int1 rfl T.int PyProof.Rows.boot_int (pa_cons (pe_op op_pow (pe_callTy call_int1 rfl T.int PyProof.Rows.boot_int (pa_cons
          (pe_op op_add (pv 4) (pe_op op_mul (pe_op op_mul (pe_ix ix_list (pv 0) pe_int (fun _ _ => rfl)) (pe_ix ix_list (pv 0) pe_int (fun _ _ => rfl))) pe_int)) pa_nil)) pe_int) pa_nil)) pe_int))
      (pss_one (ps_ret (pe_op op_mod (pe_op op_fdiv (pv 4) pe_int) (pv 1))))))))), ?_⟩
    refine q_setL (l := s) (xs := [.int c, .int d, .int k]) (j := 2) (v := .int (k + 1)) hs (ev_op (ev_ix (s := s) (j := 2) rfl hs rfl) ev_c rv_I0) (ev_var rfl) ev_c (by simp) fun H1 e1 => ?_
    have hs1 : (L2.upd H1 s (.lst [.int c, .int d, .int (k + 1)])) s = some (.lst [.int c, .int d, .int (k + 1)]) := upd_same
    have b1 : Bt s H (L2.upd H1 s (.lst [.int c, .int d, .int (k + 1)])) := ((Bt.refl s H).ex e1).upd
    show tSeq _ _ _ _ (L2.upd H1 s (.lst [.int c, .int d, .int (k + 1)]))
    generalize L2.upd H1 s (.lst [.int c, .int d, .int (k + 1)]) = H2 at hs1 b1
    refine q_when (b := decide ((10 : Int) ^ (18 : Int).toNat ≤ c)) (et_test (ev_op (ev_ix (s := s) (j := 0) rfl hs1 rfl) (ev_op ev_c ev_c (rv_I ⟨by decide, by decide, by decide⟩)) rv_I0)) (fun _ H3 e3 => ?_) (fun _ H3 e3 => ?_)
    · have hs3 := e3 _ _ hs1
      refine q_asg (v := .int (d % L)) (ev_op (ev_int1 (ev_ix (s := s) (j := 1) rfl hs3 rfl)) (ev_var rfl) (rv_I (by omega))) fun H4 e4 => ?_
      have hs4 := e4 _ _ hs3
      refine q_setL (l := s) (xs := [.int c, .int d, .int (k + 1)]) (j := 1) (v := .int (d / L)) hs4 (ev_op (ev_ix (s := s) (j := 1) rfl hs4 rfl) (ev_var rfl) (rv_I ⟨by omega, by omega⟩)) (ev_var rfl) ev_c (by simp) fun H5 e5 => ?_
      refine s_ret (v := .int (d % L)) (ev_var rfl) fun H6 e6 => ?_
      have hm := emod_in d (b := L) (by omega)
      exact q _ _ H6 (((((b1.ex e3).ex e4).ex e5).upd).ex e6) (e6 _ _ upd_same) hm.1 hm.2
    · have hs3 := e3 _ _ hs1
      have b3 := b1.ex e3
      have m1 := emod_in c (b := 2147480351) (by decide)
      refine q_asg (v := .int (c % 2147480351)) (ev_op (ev_int1 (ev_ix (s := s) (j := 0) rfl hs3 rfl)) ev_c (rv_I (by decide))) fun H4 e4 => ?_
      have hs4 := e4 _ _ hs3
      generalize c % 2147480351 = z1 at m1
      refine q_asg (v := .int ((z1 * 7919 + (k + 1) * 104033 + 12011) ^ (5 : Int).toNat % 2147483647)) (ev_op (ev_int1 (ev_op (ev_int1 (ev_op (ev_op (ev_op (ev_var rfl) ev_c (rv_I (.inr ⟨by decide, by decide⟩)))
        (ev_op (ev_ix (s := s) (j := 2) rfl hs4 rfl) ev_c (rv_I (.inr ⟨by decide, by decide⟩))) rv_I0) ev_c rv_I0)) ev_c (rv_I ⟨by decide, by decide, pow_small (by omega) (by omega)⟩))) ev_c (rv_I (by decide))) fun H5 e5 => ?_
      have hs5 := e5 _ _ hs4
      have m2 := emod_in ((z1 * 7919 + (k + 1) * 104033 + 12011) ^ (5 : Int).toNat) (b := 2147483647) (by decide)
      generalize (z1 * 7919 + (k + 1) * 104033 + 12011) ^ (5 : Int).toNat % 2147483647 = z2 at m2
      have m3 := sq_bound k0 k1
      refine q_asg (v := .int ((z2 + (k + 1) * (k + 1) * 40559) ^ (3 : Int).toNat % 2147480161)) (ev_op (ev_int1 (ev_op (ev_int1 (ev_op (ev_var rfl) (ev_op (ev_op (ev_ix (s := s) (j := 2) rfl hs5 rfl) (ev_ix (s := s) (j := 2) rfl hs5 rfl)
        (rv_I (.inl ⟨by omega, by omega⟩))) ev_c (rv_I (.inr ⟨by decide, by decide⟩))) rv_I0)) ev_c (rv_I ⟨by decide, by decide, pow_small (by omega) (by omega)⟩))) ev_c (rv_I (by decide))) fun H6 e6 => ?_
      have m4 := emod_in ((z2 + (k + 1) * (k + 1) * 40559) ^ (3 : Int).toNat) (b := 2147480161) (by decide)
      generalize (z2 + (k + 1) * (k + 1) * 40559) ^ (3 : Int).toNat % 2147480161 = z3 at m4
      refine s_ret (v := .int (z3 / 16 % L)) (ev_op (ev_op (ev_var rfl) ev_c (rv_I ⟨by decide, by decide⟩)) (ev_var rfl) (rv_I (by omega))) fun H7 e7 => ?_
      have m5 := emod_in (z3 / 16) (b := L) (by omega)
      exact q _ _ H7 (((((b3.ex e4).ex e5).ex e6)).ex e7) (e7 _ _ (e6 _ _ hs5)) m5.1 m5.2
/-! ### _law_values -/
theorem q_lstX {σ : L2.St} {H : Hp} {D : Ends} {tz : TS} {ta : TA} {i n : Nat} (h : EAX ta σ H n) (hn : n ≤ 100000) (k : ∀ rs p H1, Ex H H1 → H1 p = none → rs.length = n → (∀ v ∈ rs, Safe v) → tz D (σ.set i (some (.ref p))) (L2.upd H1 p (.lst rs))) : tSeq (tAsg (tLst ta) (gName i)) tz D σ H :=
  h H (Ex.refl H) _ fun rs H1 e l s => ⟨sz_of (by omega), fun p hp => k rs p H1 e hp l s⟩
abbrev sVals : Stmt := top 33
def spVals : Sp := fun vs H Q _ => ∃ (s : Addr) (c d k : Int), vs = [.ref s] ∧ H s = some (.lst [.int c, .int d, .int k]) ∧ 0 ≤ k ∧ k ≤ 50 ∧
  ∀ (p : Addr) (H' : Hp) (v1 v2 v3 : V), Bt s H H' → H' p = some (.lst [v1, v2, v3]) → Safe v1 → Safe v2 → Safe v3 → Q (.ref p) H'
theorem scVals : FnScope ["_law_source_here", "_law_rows", "_law_k"] ["_law_source_here"] (defScope sVals) := ⟨rfl, rfl, rfl, by decide +kernel, rfl, by decide +kernel, by decide +kernel⟩
theorem ok_vals {f fD : Addr} {fd fdD : FuncData} (F : FnP K "_law_values" sVals f fd) (T : Nm mg) (FD : FnP K "_law_draw" sDraw fD fdD) (gD : mg "_law_draw" = some (.ref fD)) (bD : Binds K fdD ["_law_source_here", "_law_limit"] []) :
    FnOk P w K mg base CX0 2 f fd ["_law_source_here"] spVals := by
  have GD : FnOk P w K mg base CX0 1 fD fdD ["_law_source_here", "_law_limit"] spDraw := ok_draw FD T
  refine F.ok scVals (fun vs H Q E h => ?_) (fun cdv A outer st H vs Q E hr h => ?_)
  · obtain ⟨s, c, d, k, rfl, _⟩ := h
    rfl
  · obtain ⟨s, c, d, k, rfl, hs, k0, k1, q⟩ := h
    refine ⟨_, PSs.nox (pss_cons (ps_set (i := 1) scVals.nd rfl (Or.inr rfl) (pe_lst (pa_cons pe_non (pa_cons pe_bl (pa_cons pe_int (pa_cons (pe_un un_neg pe_int) (pa_cons (pe_op op_pow pe_int pe_int) (pa_cons pe_str (pa_cons pe_str
        (pa_cons (pe_lst pa_nil) (pa_cons (pe_lst (pa_cons pe_int (pa_cons (pe_lst (pa_cons pe_int pa_nil)) pa_nil))) (pa_cons (pe_tup (pa_cons pe_int (pa_cons pe_str pa_nil)))
        (pa_cons (pe_disp (pps_cons pe_str pe_int pps_nil) rfl rfl (fun z => nomatch z) (by decide)) (pa_cons (pe_tup (pa_cons pe_int (pa_cons pe_int (pa_cons pe_int pa_nil)))) (pa_cons pe_dnewK (pa_cons (pe_lst (pa_cons pe_non pa_nil)) pa_nil))))))))))))))))
      (pss_one (ps_ret (pe_lc (own := [("_law_k", 2)]) (g := gName 2) (tt := tYes) rfl scVals.nd (pi_range1 rfl T.range (pa_cons pe_int pa_nil)) (blkOk_by (N := ["_law_source_here", "_law_rows", "_law_k"]) (sc := defScope sVals) (by decide +kernel))
        (fun _ _ _ _ _ => pg_name (i := 2) scVals.nd rfl (Or.inl rfl)) (fun _ _ _ _ _ => pts_nil)
        (fun _ _ _ _ _ => pe_ix (ix_listK (K := K)) (pv 1) (pe_call GD hr rfl gD FD.kp bD .nil pass0 (pa_cons (pv 0) (pa_cons (pe_callB (call_lenS (K := K)) rfl T.len PySem.boot_len (pa_cons (pv 1) pa_nil)) pa_nil))) (fun _ _ => rfl)))))), ?_⟩
    refine q_lstX (n := 14) (eax_cons (evx_of ev_c safe_non) (eax_cons (evx_of ev_c (safe_bl _)) (eax_cons (evx_of ev_c (safe_int _)) (eax_cons (evx_of (ev_un ev_c ru_neg) (safe_int _)) (eax_cons (evx_of (ev_op ev_c ev_c (rv_I (C := CPow) ⟨by decide, by decide, by decide⟩)) (safe_int _))
        (eax_cons (evx_of ev_c (safe_str _)) (eax_cons (evx_of ev_c (safe_str _)) (eax_cons (evx_l (el_lst ea_nil (sm rfl)))
        (eax_cons (evx_lst (eax_cons (evx_of ev_c (safe_int _)) (eax_cons (evx_l (el_lst (ea_cons ev_c ea_nil) (sm rfl))) eax_nil)) (by decide))
        (eax_cons (evx_u (eu_tup (ea_cons ev_c (ea_cons ev_c ea_nil)) (sm rfl))) (eax_cons evx_disp1 (eax_cons (evx_u (eu_tup (ea_cons ev_c (ea_cons ev_c (ea_cons ev_c ea_nil))) (sm rfl))) (eax_cons evx_dnew
        (eax_cons (evx_l (el_lst (ea_cons ev_c ea_nil) (sm rfl))) eax_nil)))))))))))))) (by decide) fun rs p H1 e1 hp hl hsafe => ?_
    have hps : s ≠ p := ne_of_none (e1 _ _ hs) hp
    refine ⟨3, rfl, by decide, by decide, fun Dl hD => ?_⟩
    have hDs : s ≠ Dl := ne_of_none (by rw [upd_ne hps]; exact e1 _ _ hs) hD
    have hDp : p ≠ Dl := ne_of_none upd_same hD
    refine lc_range (lo := 0) (n := 3) (fun i H' => ∃ (d' k' : Int) (acc : List V), H' s = some (.lst [.int c, .int d', .int k']) ∧ 0 ≤ k' ∧ k' ≤ 50 + i ∧ H' p = some (.lst rs) ∧ H' Dl = some (.lst acc) ∧ acc.length = i ∧ (∀ v ∈ acc, Safe v) ∧ Bt s H H')
      ⟨d, k, [], (by rw [upd_ne hDs, upd_ne hps]; exact e1 _ _ hs), k0, by omega, (by rw [upd_ne hDp, upd_same]), upd_same, rfl, fun _ z => (by cases z), ?_⟩ ?_ ?_
    · exact (((Bt.refl s H).ex e1).mut (fresh_back e1 hp)).mut (by
        have z := hD
        rw [upd_ne hDp.symm] at z
        exact fresh_back e1 z)
    · rintro i H' hi ⟨d', k', acc, h1, h2, h3, h4, h5, h6, h7, h8⟩
      refine ⟨rfl, yes_ite ?_⟩
      refine ⟨_, rfl, _, rfl, _, rfl, p, rs, rfl, .inl (sq_of h4), ?_⟩
      refine ⟨s, c, d', k', _, rfl, h1, h2, by omega, by omega, by omega, fun x d2 H2 bt hx x0 x1 => ?_⟩
      have h4' := bt _ _ hps.symm h4
      have h5' := bt _ _ hDs.symm h5
      obtain ⟨j, rfl⟩ : ∃ j : Nat, x = (j : Int) := ⟨x.toNat, by omega⟩
      have hj : j < rs.length := by omega
      refine ⟨p, rs, (j : Int), rs[j], rfl, rfl, sq_of h4', atI_nat (List.getElem?_eq_getElem hj), acc, h5', sz_lt (by omega), ?_⟩
      refine ⟨d2, k' + 1, acc ++ [rs[j]], (by rw [upd_ne hDs]; exact hx), by omega, by omega, (by rw [upd_ne hDp]; exact h4'), upd_same, (by rw [List.length_append, h6]; rfl), fun v hv => ?_, (h8.trans bt).mut (fresh_back e1 (by
        have z := hD
        rw [upd_ne hDp.symm] at z
        exact z))⟩
      rcases List.mem_append.mp hv with hv | hv
      · exact h7 v hv
      · rw [List.mem_singleton.mp hv]
        exact hsafe _ (List.getElem_mem hj)
    · rintro H' ⟨d', k', acc, h1, h2, h3, h4, h5, h6, h7, h8⟩
      obtain ⟨v1, v2, v3, rfl⟩ := len3 h6
      exact q Dl H' v1 v2 v3 h8 h5 (h7 _ List.mem_cons_self) (h7 _ (List.mem_cons_of_mem _ List.mem_cons_self)) (h7 _ (List.mem_cons_of_mem _ (List.mem_cons_of_mem _ List.mem_cons_self)))
end

end K4


namespace K4
open PySem PySem.Spec PyProof.Rows L2 Evl Xo
/-! ### all classes -/
structure Cls27 (P : Program) (w : World) (K : PySem.W.Frag) (mg : Str → Option Value) (base : Heap) : Prop where
  k0 : Kl P w K mg base "BadSizes" ["value"]
  k1 : Kl P w K mg base "BadPeople" ["value"]
  k2 : Kl P w K mg base "BadGames" ["value"]
  k3 : Kl P w K mg base "TooMany" ["count"]
  k4 : Kl P w K mg base "BadPerson" ["value"]
  k5 : Kl P w K mg base "BadTeam" ["value"]
  k6 : Kl P w K mg base "BadKind" ["value"]
  k7 : Kl P w K mg base "BadRounds" ["value"]
  k8 : Kl P w K mg base "BadRound" ["value"]
  k9 : Kl P w K mg base "BadNumber" ["value"]
  k10 : Kl P w K mg base "BadIndex" ["value"]
  k11 : Kl P w K mg base "BadClasses" ["value"]
  k12 : Kl P w K mg base "BadText" ["line"]
  k13 : Kl P w K mg base "WrongTimes" ["team", "count"]
  k14 : Kl P w K mg base "NotAdding" ["kind", "told", "due"]
  k15 : Kl P w K mg base "BadShares" ["column"]
  k16 : Kl P w K mg base "Alone" ["index"]
  k17 : Kl P w K mg base "WrongSum" ["size", "told", "due"]
  k18 : Kl P w K mg base "NotFull" ["count", "team"]
  k19 : Kl P w K mg base "NoGrowth" ["wanted", "there"]
  k20 : Kl P w K mg base "BadPairs" ["at"]
  k21 : Kl P w K mg base "ShortRound" ["at", "told", "least"]
  k22 : Kl P w K mg base "Crowded" ["paper"]
  k23 : Kl P w K mg base "BadCost" ["value"]
  k24 : Kl P w K mg base "BadWish" ["line"]
  g25 : mg "UnlikePeople" = some (.ref (He.ga K "UnlikePeople"))
  x25 : PySem.W.excIn K (He.ga K "UnlikePeople") PySem.HandSPX.veTail "ValueError.__new__" = true
  c25 : PySem.W.keepIn K (.ref (He.ga K "UnlikePeople")) = true
  g26 : mg "NothingToUndo" = some (.ref (He.ga K "NothingToUndo"))
  x26 : PySem.W.excIn K (He.ga K "NothingToUndo") PySem.HandSPX.veTail "ValueError.__new__" = true
  c26 : PySem.W.keepIn K (.ref (He.ga K "NothingToUndo")) = true
  gs : ∀ j, j < 27 → mg (cn.getD j "") = some (.ref (cA K j))
  gT : mg "TeamError" = some (.ref (He.ga K "TeamError"))
  ec : ∀ j, j < 27 → ExcC K (cA K j)
  kit : ∀ i j, i < 27 → j < 27 → PySem.W.kitOne K (.ref (cA K j)) (.ref (cA K i)) = some (decide (i = j))
  kitT : ∀ j, j < 27 → PySem.W.kitOne K (.ref (cA K j)) (.ref (He.ga K "TeamError")) = some true
  kitV : ∀ j, j < 27 → PySem.W.kitOne K (.ref (cA K j)) (.type "ValueError") = some true
section
variable {P : Program} {w : World} {K : PySem.W.Frag} {mg : Str → Option Value} {base : Heap}
/-! ### _law_kept -/
abbrev sKept : Stmt := top 34
def spKept : Sp := fun vs H Q _ => ∃ v, vs = [v] ∧ RetL (List.replicate 19 v) H Q
theorem scKept : FnScope ["_law_given", "_law_rows"] ["_law_given"] (defScope sKept) := ⟨rfl, rfl, rfl, by decide +kernel, rfl, by decide +kernel, by decide +kernel⟩
theorem ok_kept {f : Addr} {fd : FuncData} (F : FnP K "_law_kept" sKept f fd) (T : Cls27 P w K mg base) : FnOk P w K mg base CX0 3 f fd ["_law_given"] spKept := by
  refine F.ok scKept (fun vs H Q E h => ?_) (fun cdv A outer st H vs Q E hr h => ?_)
  · obtain ⟨v, rfl, _⟩ := h
    rfl
  · obtain ⟨v, rfl, k⟩ := h
    refine ⟨_, PSs.nox (pss_cons (ps_set (i := 1) scKept.nd rfl (Or.inl rfl) (pe_lst pa_nil))
      (pss_cons (ps_set (i := 1) scKept.nd rfl (Or.inl rfl) (pe_op op_cat (pv 1) (pe_lst (pa_cons (pe_xo (pe_kl T.k0 hr rfl (pa_cons (pv 0) pa_nil))) (pa_cons (pe_xo (pe_kl T.k1 hr rfl (pa_cons (pv 0) pa_nil))) (pa_cons (pe_xo (pe_kl T.k2 hr rfl (pa_cons (pv 0) pa_nil))) pa_nil))))))
      (pss_cons (ps_set (i := 1) scKept.nd rfl (Or.inl rfl) (pe_op op_cat (pv 1) (pe_lst (pa_cons (pe_xo (pe_kl T.k4 hr rfl (pa_cons (pv 0) pa_nil))) (pa_cons (pe_xo (pe_kl T.k5 hr rfl (pa_cons (pv 0) pa_nil))) (pa_cons (pe_xo (pe_kl T.k6 hr rfl (pa_cons (pv 0) pa_nil))) pa_nil))))))
      (pss_cons (ps_set (i := 1) scKept.nd rfl (Or.inl rfl) (pe_op op_cat (pv 1) (pe_lst (pa_cons (pe_xo (pe_kl T.k7 hr rfl (pa_cons (pv 0) pa_nil))) (pa_cons (pe_xo (pe_kl T.k8 hr rfl (pa_cons (pv 0) pa_nil))) (pa_cons (pe_xo (pe_kl T.k9 hr rfl (pa_cons (pv 0) pa_nil))) pa_nil))))))
      (pss_cons (ps_set (i := 1) scKept.nd rfl (Or.inl rfl) (pe_op op_cat (pv 1) (pe_lst (pa_cons (pe_xo (pe_kl T.k10 hr rfl (pa_cons (pv 0) pa_nil))) (pa_cons (pe_xo (pe_kl T.k11 hr rfl (pa_cons (pv 0) pa_nil))) (pa_cons (pe_xo (pe_kl T.k23 hr rfl (pa_cons (pv 0) pa_nil))) pa_nil))))))
      (pss_cons (ps_set (i := 1) scKept.nd rfl (Or.inl rfl) (pe_op op_cat (pv 1) (pe_lst (pa_cons (pe_xo (pe_kl T.k3 hr rfl (pa_cons (pv 0) pa_nil))) pa_nil))))
      (pss_cons (ps_set (i := 1) scKept.nd rfl (Or.inl rfl) (pe_op op_cat (pv 1) (pe_lst (pa_cons (pe_xo (pe_kl T.k12 hr rfl (pa_cons (pv 0) pa_nil))) (pa_cons (pe_xo (pe_kl T.k24 hr rfl (pa_cons (pv 0) pa_nil))) pa_nil)))))
      (pss_cons (ps_set (i := 1) scKept.nd rfl (Or.inl rfl) (pe_op op_cat (pv 1) (pe_lst (pa_cons (pe_xo (pe_kl T.k15 hr rfl (pa_cons (pv 0) pa_nil))) pa_nil))))
      (pss_cons (ps_set (i := 1) scKept.nd rfl (Or.inl rfl) (pe_op op_cat (pv 1) (pe_lst (pa_cons (pe_xo (pe_kl T.k16 hr rfl (pa_cons (pv 0) pa_nil))) pa_nil))))
      (pss_cons (ps_set (i := 1) scKept.nd rfl (Or.inl rfl) (pe_op op_cat (pv 1) (pe_lst (pa_cons (pe_xo (pe_kl T.k20 hr rfl (pa_cons (pv 0) pa_nil))) pa_nil))))
      (pss_cons (ps_set (i := 1) scKept.nd rfl (Or.inl rfl) (pe_op op_cat (pv 1) (pe_lst (pa_cons (pe_xo (pe_kl T.k22 hr rfl (pa_cons (pv 0) pa_nil))) pa_nil))))
      (pss_one (ps_ret (pv 1)))))))))))))), ?_⟩
    refine q_asgL (el_lst ea_nil (sm rfl)) fun l0 H0 n0 e0 h0 => ?_
    refine q_asgL (el_cat (ev_var rfl) h0 (el_lst (ea_cons (kv1 T.k0.xf T.k0.no rfl) (ea_cons (kv1 T.k1.xf T.k1.no rfl) (ea_cons (kv1 T.k2.xf T.k2.no rfl) ea_nil))) (sm rfl)) (sm rfl)) fun l1 H1 n1 e1 h1 => ?_
    refine q_asgL (el_cat (ev_var rfl) h1 (el_lst (ea_cons (kv1 T.k4.xf T.k4.no rfl) (ea_cons (kv1 T.k5.xf T.k5.no rfl) (ea_cons (kv1 T.k6.xf T.k6.no rfl) ea_nil))) (sm rfl)) (sm rfl)) fun l2 H2 n2 e2 h2 => ?_
    refine q_asgL (el_cat (ev_var rfl) h2 (el_lst (ea_cons (kv1 T.k7.xf T.k7.no rfl) (ea_cons (kv1 T.k8.xf T.k8.no rfl) (ea_cons (kv1 T.k9.xf T.k9.no rfl) ea_nil))) (sm rfl)) (sm rfl)) fun l3 H3 n3 e3 h3 => ?_
    refine q_asgL (el_cat (ev_var rfl) h3 (el_lst (ea_cons (kv1 T.k10.xf T.k10.no rfl) (ea_cons (kv1 T.k11.xf T.k11.no rfl) (ea_cons (kv1 T.k23.xf T.k23.no rfl) ea_nil))) (sm rfl)) (sm rfl)) fun l4 H4 n4 e4 h4 => ?_
    refine q_asgL (el_cat (ev_var rfl) h4 (el_lst (ea_cons (kv1 T.k3.xf T.k3.no rfl) ea_nil) (sm rfl)) (sm rfl)) fun l5 H5 n5 e5 h5 => ?_
    refine q_asgL (el_cat (ev_var rfl) h5 (el_lst (ea_cons (kv1 T.k12.xf T.k12.no rfl) (ea_cons (kv1 T.k24.xf T.k24.no rfl) ea_nil)) (sm rfl)) (sm rfl)) fun l6 H6 n6 e6 h6 => ?_
    refine q_asgL (el_cat (ev_var rfl) h6 (el_lst (ea_cons (kv1 T.k15.xf T.k15.no rfl) ea_nil) (sm rfl)) (sm rfl)) fun l7 H7 n7 e7 h7 => ?_
    refine q_asgL (el_cat (ev_var rfl) h7 (el_lst (ea_cons (kv1 T.k16.xf T.k16.no rfl) ea_nil) (sm rfl)) (sm rfl)) fun l8 H8 n8 e8 h8 => ?_
    refine q_asgL (el_cat (ev_var rfl) h8 (el_lst (ea_cons (kv1 T.k20.xf T.k20.no rfl) ea_nil) (sm rfl)) (sm rfl)) fun l9 H9 n9 e9 h9 => ?_
    refine q_asgL (el_cat (ev_var rfl) h9 (el_lst (ea_cons (kv1 T.k22.xf T.k22.no rfl) ea_nil) (sm rfl)) (sm rfl)) fun l10 H10 n10 e10 h10 => ?_
    refine s_ret (v := .ref l10) (ev_var rfl) fun H' e' => ?_
    exact k l10 H' (fresh_back (((((((((e0.trans e1).trans e2).trans e3).trans e4).trans e5).trans e6).trans e7).trans e8).trans e9) n10) (((((((((((e0.trans e1).trans e2).trans e3).trans e4).trans e5).trans e6).trans e7).trans e8).trans e9).trans e10).trans e') (e' _ _ h10)
/-! ### _law_pairs_kept -/
/-- a call of a class, its value stored -/
theorem q_mk2 {σ : L2.St} {H : Hp} {D : Ends} {tz : TS} {x f g : Str} {i : Nat} {v v2 : V} (h : σ[0]? = some (some v)) (h2 : σ[1]? = some (some v2)) (k : ∀ a H1, Ex H H1 → Xc H1 a (He.ga K x) [f, g] [v, v2] → tz D (σ.set i (some (.ref a))) H1) :
    tSeq (tAsg (tKl K x [f, g] (tCons (tVar 0) (tCons (tVar 1) tNil))) (gName i)) tz D σ H := mk2 (Q := fun y H1 => gName i y σ H1 (tz D)) h h2 fun a H1 e hx => k a H1 e hx
theorem q_mk3 {σ : L2.St} {H : Hp} {D : Ends} {tz : TS} {x f g l : Str} {i : Nat} {v v2 v3 : V} (h : σ[0]? = some (some v)) (h2 : σ[1]? = some (some v2)) (h3 : σ[2]? = some (some v3)) (k : ∀ a H1, Ex H H1 → Xc H1 a (He.ga K x) [f, g, l] [v, v2, v3] → tz D (σ.set i (some (.ref a))) H1) :
    tSeq (tAsg (tKl K x [f, g, l] (tCons (tVar 0) (tCons (tVar 1) (tCons (tVar 2) tNil)))) (gName i)) tz D σ H := mk3 (Q := fun y H1 => gName i y σ H1 (tz D)) h h2 h3 fun a H1 e hx => k a H1 e hx
/-- items that are tuples of us -/
def Tups (us : List V) (n : Nat) (vs : List V) (H : Hp) : Prop := vs.length = n ∧ ∀ x ∈ vs, ∃ t, x = V.ref t ∧ H t = some (.tup us)
theorem Tups.ex {us : List V} {n : Nat} {vs : List V} {H H' : Hp} (e : Ex H H') (h : Tups us n vs H) : Tups us n vs H' := ⟨h.1, fun x hx => by
  obtain ⟨t, rfl, ht⟩ := h.2 x hx
  exact ⟨t, rfl, e _ _ ht⟩⟩
section
variable {σ : L2.St} {H : Hp} {te : TE} {ta : TA} {us : List V}
theorem eaq_nilT : EAQ tNil σ H (Tups us 0) := fun H1 _ _ q => q [] H1 (Ex.refl H1) ⟨rfl, fun _ h => by cases h⟩
theorem eaq_consT {n : Nat} (h : EvU te σ H us) (hr : EAQ ta σ H (Tups us n)) : EAQ (tCons te ta) σ H (Tups us (n + 1)) := fun H1 e Q q =>
  h H1 e _ fun p H2 _ e2 hp => hr H2 (e.trans e2) _ fun vs H3 e3 hv => q _ H3 (e2.trans e3) ⟨congrArg Nat.succ hv.1, fun x hx => by
    rcases List.mem_cons.mp hx with rfl | hx
    · exact ⟨p, rfl, e3 _ _ hp⟩
    · exact hv.2 x hx⟩
theorem q_lstT {D : Ends} {tz : TS} {i n : Nat} (h : EAQ ta σ H (Tups us n)) (hn : n ≤ 100) (k : ∀ xs p H1, Ex H H1 → Tups us n xs H1 → H1 p = some (.lst xs) → tz D (σ.set i (some (.ref p))) H1) : tSeq (tAsg (tLst ta) (gName i)) tz D σ H :=
  h H (Ex.refl H) _ fun xs H1 e hx => ⟨sz_of (by rw [hx.1]; omega), fun p hp => k xs p _ (e.trans (Ex.new hp)) (hx.ex (Ex.new hp)) upd_same⟩
theorem pair_tups {t : Addr} (ht : H t = some (.tup us)) (hs : ∀ u ∈ us, Safe u) : ∀ (n : Nat) (zs : List V), Tups us n zs H → Paired (E1 K H) zs (List.replicate n (V.ref t))
  | 0, [], _ => .nil
  | 0, z :: zs, hz => absurd hz.1 (by simp)
  | n + 1, [], hz => absurd hz.1 (by simp)
  | n + 1, z :: zs, hz => by
    rw [List.replicate_succ]
    obtain ⟨t2, rfl, ht2⟩ := hz.2 z List.mem_cons_self
    exact .cons (.inr ⟨t2, t, us, us, rfl, rfl, st_of ht2, st_of ht, paired_self fun v hv => ⟨rfl, hs v hv⟩⟩) (pair_tups ht hs n zs ⟨Nat.succ.inj hz.1, fun x hx => hz.2 x (List.mem_cons_of_mem _ hx)⟩)
theorem flat_rep (x : V) : ∀ n : Nat, (List.replicate n [x]).flatten = List.replicate n x
  | 0 => rfl
  | n + 1 => by rw [List.replicate_succ, List.flatten_cons, flat_rep x n]; rfl
/-- [(..)] * k -/
theorem rep_run {k : Int} (hk : 0 ≤ k ∧ k ≤ 100) (hu : EvU te σ H us) : ∀ H0, Ex H H0 → ∀ Q : VK, (∀ p t H1, Ex H0 H1 → H1 p = some (.lst (List.replicate k.toNat (V.ref t))) → H1 t = some (.tup us) → Q (.ref p) H1) → tOp rRep (tLst (tCons te tNil)) (tC (.int k)) σ H0 Q := fun H0 e0 Q q => by
  refine hu H0 e0 _ fun t H1 _ e1 ht => ⟨sz_of (sm rfl), fun p hp => ⟨p, k, [.ref t], rfl, rfl, upd_same, by omega, by omega, sz_of (by show 1 * k.toNat ≤ 100000; omega), fun p2 hp2 => ?_⟩⟩
  have e2 : Ex H1 (L2.upd (L2.upd H1 p (.lst [.ref t])) p2 (.lst (List.replicate k.toNat [V.ref t]).flatten)) := (Ex.new hp).trans (Ex.new hp2)
  exact q p2 t _ (e1.trans e2) (by rw [upd_same, flat_rep]) (e2 _ _ ht)
/-- rows == [(..)] * k, all tuples alike -/
theorem eq_tups {xs : List V} {l : Addr} {i : Nat} {k : Int} {D : Ends} (hi : σ[i]? = some (some (.ref l))) (hl : H l = some (.lst xs)) (hx : Tups us k.toNat xs H) (hk : 0 ≤ k ∧ k ≤ 100) (hs : ∀ u ∈ us, Safe u) (hu : EvU te σ H us) (kk : ∀ H1, Ex H H1 → D.rt (.bl true) H1) :
    tRet (tOp (rEqW K) (tVar i) (tOp rRep (tLst (tCons te tNil)) (tC (.int k)))) D σ H :=
  ⟨_, hi, rep_run hk hu H (Ex.refl H) _ fun p t H1 e1 hp ht => ⟨l, p, xs, _, rfl, rfl, sq_of (e1 _ _ hl), sq_of hp, pair_tups ht hs _ _ (hx.ex e1), kk _ e1⟩⟩
/-- rows + [t] == [u] * k -/
theorem eq_tups2 {tl : TE} {xs : List V} {l : Addr} {i : Nat} {k : Int} {D : Ends} (hi : σ[i]? = some (some (.ref l))) (hl : H l = some (.lst xs)) (hx : Tups us 2 xs H) (hk : k = 3) (hs : ∀ u ∈ us, Safe u) (ht : EvU tl σ H us) (hu : EvU te σ H us) (kk : ∀ H1, Ex H H1 → D.rt (.bl true) H1) :
    tRet (tOp (rEqW K) (tOp rCat (tVar i) (tLst (tCons tl tNil))) (tOp rRep (tLst (tCons te tNil)) (tC (.int k)))) D σ H := by
  refine ⟨_, hi, ht H (Ex.refl H) _ fun t H1 _ e1 ht => ⟨sz_of (sm rfl), fun p hp => ⟨l, p, xs, [.ref t], rfl, rfl, (by rw [upd_ne (ne_of_none (e1 _ _ hl) hp)]; exact e1 _ _ hl), upd_same, sz_of (by rw [hx.1]; exact sm rfl), fun p1 hp1 => ?_⟩⟩⟩
  have e2 : Ex H1 (L2.upd (L2.upd H1 p (.lst [.ref t])) p1 (.lst (xs ++ [.ref t]))) := (Ex.new hp).trans (Ex.new hp1)
  have hl1 : (L2.upd (L2.upd H1 p (.lst [.ref t])) p1 (.lst (xs ++ [.ref t]))) p1 = some (.lst (xs ++ [.ref t])) := upd_same
  generalize L2.upd (L2.upd H1 p (.lst [.ref t])) p1 (.lst (xs ++ [.ref t])) = H2 at e2 hl1
  have hx2 : Tups us 3 (xs ++ [.ref t]) H2 := ⟨by rw [List.length_append, hx.1]; rfl, fun x hm => by
    rcases List.mem_append.mp hm with hm | hm
    · exact (hx.ex (e1.trans e2)).2 x hm
    · rw [List.mem_singleton.mp hm]
      exact ⟨t, rfl, e2 _ _ ht⟩⟩
  subst hk
  exact rep_run (by decide) hu H2 (e1.trans e2) _ fun p2 t2 H3 e3 hp2 ht2 => ⟨p1, p2, _, _, rfl, rfl, sq_of (e3 _ _ hl1), sq_of hp2, pair_tups ht2 hs _ _ (hx2.ex e3), kk _ ((e1.trans e2).trans e3)⟩
end
abbrev sPairs : Stmt := top 35
def spPairs : Sp := fun vs H Q _ => ∃ v1 v2, vs = [v1, v2] ∧ Safe v1 ∧ Safe v2 ∧ RetV (.bl true) H Q
theorem scPairs : FnScope ["_law_one", "_law_two", "_law_first", "_law_second", "_law_third", "_law_rows"] ["_law_one", "_law_two"] (defScope sPairs) := ⟨rfl, rfl, rfl, by decide +kernel, rfl, by decide +kernel, by decide +kernel⟩
theorem ok_pairs {f : Addr} {fd : FuncData} (F : FnP K "_law_pairs_kept" sPairs f fd) (T : Cls27 P w K mg base) : FnOk P w K mg base CX0 3 f fd ["_law_one", "_law_two"] spPairs := by
  refine F.ok scPairs (fun vs H Q E h => ?_) (fun cdv A outer st H vs Q E hr h => ?_)
  · obtain ⟨v1, v2, rfl, _⟩ := h
    rfl
  · obtain ⟨v1, v2, rfl, s1, s2, k⟩ := h
    refine ⟨_, PSs.nox (pss_cons (ps_set (i := 2) scPairs.nd rfl (Or.inl rfl) (pe_kl T.k13 hr rfl (pa_cons (pv 0) (pa_cons (pv 1) pa_nil))))
      (pss_cons (ps_set (i := 3) scPairs.nd rfl (Or.inl rfl) (pe_kl T.k18 hr rfl (pa_cons (pv 0) (pa_cons (pv 1) pa_nil))))
      (pss_cons (ps_set (i := 4) scPairs.nd rfl (Or.inl rfl) (pe_kl T.k19 hr rfl (pa_cons (pv 0) (pa_cons (pv 1) pa_nil))))
      (pss_cons (ps_set (i := 5) scPairs.nd rfl (Or.inl rfl) (pe_lst (pa_cons (pe_tup (pa_cons (pe_xo (pv 2)) (pa_cons (pe_xo (pv 2)) pa_nil))) (pa_cons (pe_tup (pa_cons (pe_xo (pv 3)) (pa_cons (pe_xo (pv 3)) pa_nil))) (pa_cons (pe_tup (pa_cons (pe_xo (pv 4)) (pa_cons (pe_xo (pv 4)) pa_nil))) pa_nil)))))
      (pss_one (ps_ret (pe_cmpR (op_eqW (hu_of hr)) (pv 5) (pe_op op_rep (pe_lst (pa_cons (pe_tup (pa_cons (pv 0) (pa_cons (pv 1) pa_nil))) pa_nil)) pe_int) (nomark _)))))))), ?_⟩
    refine q_mk2 rfl rfl fun a1 H1 e1 x1 => ?_
    refine q_mk2 rfl rfl fun a2 H2 e2 x2 => ?_
    refine q_mk2 rfl rfl fun a3 H3 e3 x3 => ?_
    have y1 := x1.ex (e2.trans e3)
    have y2 := x2.ex e3
    refine q_lstT (us := [v1, v2]) (n := 3) (eaq_consT (eu_tup (ea_cons (xo_get (f := "team") (ev_var rfl) y1 T.k13.xf T.k13.no (by decide) rfl) (ea_cons (xo_get (f := "count") (ev_var rfl) y1 T.k13.xf T.k13.no (by decide) rfl) ea_nil)) (sm rfl))
      (eaq_consT (eu_tup (ea_cons (xo_get (f := "count") (ev_var rfl) y2 T.k18.xf T.k18.no (by decide) rfl) (ea_cons (xo_get (f := "team") (ev_var rfl) y2 T.k18.xf T.k18.no (by decide) rfl) ea_nil)) (sm rfl))
      (eaq_consT (eu_tup (ea_cons (xo_get (f := "wanted") (ev_var rfl) x3 T.k19.xf T.k19.no (by decide) rfl) (ea_cons (xo_get (f := "there") (ev_var rfl) x3 T.k19.xf T.k19.no (by decide) rfl) ea_nil)) (sm rfl)) eaq_nilT))) (by decide) fun xs p H4 e4 hx hl => ?_
    refine eq_tups (k := 3) (us := [v1, v2]) rfl hl hx (by decide) (fun u hu => ?_) (eu_tup (ea_cons (ev_var rfl) (ea_cons (ev_var rfl) ea_nil)) (sm rfl)) fun H5 e6 => k H5 ((((e1.trans e2).trans e3).trans e4).trans e6)
    rcases List.mem_cons.mp hu with rfl | hu
    · exact s1
    · rw [List.mem_singleton.mp hu]
      exact s2
/-! ### _law_threes_kept -/
abbrev sThrees : Stmt := top 36
def spThrees : Sp := fun vs H Q _ => ∃ v1 v2 v3, vs = [v1, v2, v3] ∧ Safe v1 ∧ Safe v2 ∧ Safe v3 ∧ RetV (.bl true) H Q
theorem scThrees : FnScope ["_law_one", "_law_two", "_law_three", "_law_first", "_law_second", "_law_third", "_law_rows"] ["_law_one", "_law_two", "_law_three"] (defScope sThrees) := ⟨rfl, rfl, rfl, by decide +kernel, rfl, by decide +kernel, by decide +kernel⟩
theorem ok_threes {f : Addr} {fd : FuncData} (F : FnP K "_law_threes_kept" sThrees f fd) (T : Cls27 P w K mg base) : FnOk P w K mg base CX0 3 f fd ["_law_one", "_law_two", "_law_three"] spThrees := by
  refine F.ok scThrees (fun vs H Q E h => ?_) (fun cdv A outer st H vs Q E hr h => ?_)
  · obtain ⟨v1, v2, v3, rfl, _⟩ := h
    rfl
  · obtain ⟨v1, v2, v3, rfl, s1, s2, s3, k⟩ := h
    refine ⟨_, PSs.nox (pss_cons (ps_set (i := 3) scThrees.nd rfl (Or.inl rfl) (pe_kl T.k14 hr rfl (pa_cons (pv 0) (pa_cons (pv 1) (pa_cons (pv 2) pa_nil)))))
      (pss_cons (ps_set (i := 4) scThrees.nd rfl (Or.inl rfl) (pe_kl T.k17 hr rfl (pa_cons (pv 0) (pa_cons (pv 1) (pa_cons (pv 2) pa_nil)))))
      (pss_cons (ps_set (i := 5) scThrees.nd rfl (Or.inl rfl) (pe_kl T.k21 hr rfl (pa_cons (pv 0) (pa_cons (pv 1) (pa_cons (pv 2) pa_nil)))))
      (pss_cons (ps_set (i := 6) scThrees.nd rfl (Or.inl rfl) (pe_lst (pa_cons (pe_tup (pa_cons (pe_xo (pv 3)) (pa_cons (pe_xo (pv 3)) (pa_cons (pe_xo (pv 3)) pa_nil)))) (pa_cons (pe_tup (pa_cons (pe_xo (pv 4)) (pa_cons (pe_xo (pv 4)) (pa_cons (pe_xo (pv 4)) pa_nil)))) pa_nil))))
      (pss_one (ps_ret (pe_cmpR (op_eqW (hu_of hr)) (pe_op op_cat (pv 6) (pe_lst (pa_cons (pe_tup (pa_cons (pe_xo (pv 5)) (pa_cons (pe_xo (pv 5)) (pa_cons (pe_xo (pv 5)) pa_nil)))) pa_nil))) (pe_op op_rep (pe_lst (pa_cons (pe_tup (pa_cons (pv 0) (pa_cons (pv 1) (pa_cons (pv 2) pa_nil)))) pa_nil)) pe_int) (nomark _)))))))), ?_⟩
    refine q_mk3 rfl rfl rfl fun a1 H1 e1 x1 => ?_
    refine q_mk3 rfl rfl rfl fun a2 H2 e2 x2 => ?_
    refine q_mk3 rfl rfl rfl fun a3 H3 e3 x3 => ?_
    have y1 := x1.ex (e2.trans e3)
    have y2 := x2.ex e3
    refine q_lstT (us := [v1, v2, v3]) (n := 2) (eaq_consT (eu_tup (ea_cons (xo_get (f := "kind") (ev_var rfl) y1 T.k14.xf T.k14.no (by decide) rfl) (ea_cons (xo_get (f := "told") (ev_var rfl) y1 T.k14.xf T.k14.no (by decide) rfl) (ea_cons (xo_get (f := "due") (ev_var rfl) y1 T.k14.xf T.k14.no (by decide) rfl) ea_nil))) (sm rfl))
      (eaq_consT (eu_tup (ea_cons (xo_get (f := "size") (ev_var rfl) y2 T.k17.xf T.k17.no (by decide) rfl) (ea_cons (xo_get (f := "told") (ev_var rfl) y2 T.k17.xf T.k17.no (by decide) rfl) (ea_cons (xo_get (f := "due") (ev_var rfl) y2 T.k17.xf T.k17.no (by decide) rfl) ea_nil))) (sm rfl)) eaq_nilT)) (by decide) fun xs p H4 e4 hx hl => ?_
    have x5 := x3.ex e4
    refine eq_tups2 (k := 3) (us := [v1, v2, v3]) rfl hl hx rfl (fun u hu => ?_)
      (eu_tup (ea_cons (xo_get (f := "at") (ev_var rfl) x5 T.k21.xf T.k21.no (by decide) rfl) (ea_cons (xo_get (f := "told") (ev_var rfl) x5 T.k21.xf T.k21.no (by decide) rfl) (ea_cons (xo_get (f := "least") (ev_var rfl) x5 T.k21.xf T.k21.no (by decide) rfl) ea_nil))) (sm rfl))
      (eu_tup (ea_cons (ev_var rfl) (ea_cons (ev_var rfl) (ea_cons (ev_var rfl) ea_nil))) (sm rfl)) fun H5 e6 => k H5 ((((e1.trans e2).trans e3).trans e4).trans e6)
    rcases List.mem_cons.mp hu with rfl | hu
    · exact s1
    · rcases List.mem_cons.mp hu with rfl | hu
      · exact s2
      · rw [List.mem_singleton.mp hu]
        exact s3

end
end K4


namespace K4
open PySem PySem.Spec PyProof.Rows L2 Evl Xo
section
variable {P : Program} {w : World} {K : PySem.W.Frag} {mg : Str → Option Value} {base : Heap}
/-! ### _law_made -/
def mo : List Nat := [0, 1, 2, 4, 5, 6, 7, 8, 9, 10, 11, 23, 3, 12, 24, 15, 16, 20, 22, 13, 18, 19, 14, 17, 21, 25, 26]
/-- errors of these classes, by their numbers -/
def Errs (K : PySem.W.Frag) (js : List Nat) (vs : List V) (H : Hp) : Prop := Paired (fun (j : Nat) (v : V) => ∃ a, v = V.ref a ∧ IsE H (cA K j) a) js vs
theorem Errs.ex {js : List Nat} {vs : List V} {H H' : Hp} (e : Ex H H') (h : Errs K js vs H) : Errs K js vs H' := Paired.mapP h fun j v ⟨a, x, y⟩ => ⟨a, x, y.ex e⟩
theorem paired_app {α β : Type} {F : α → β → Prop} : ∀ {a c : List α} {b d : List β}, Paired F a b → Paired F c d → Paired F (a ++ c) (b ++ d)
  | _, _, _, _, .nil, h => h
  | _, _, _, _, .cons x y, h => .cons x (paired_app y h)
section
variable {σ : L2.St} {H : Hp} {te : TE} {ta : TA} {js : List Nat}
/-- an error made -/
def EvE (K : PySem.W.Frag) (te : TE) (σ : L2.St) (H : Hp) (j : Nat) : Prop := ∀ H1, Ex H H1 → ∀ Q : VK, (∀ a H2, Ex H1 H2 → IsE H2 (cA K j) a → Q (.ref a) H2) → te σ H1 Q
theorem eaq_nilE : EAQ tNil σ H (Errs K []) := fun H1 _ _ q => q [] H1 (Ex.refl H1) .nil
theorem eaq_consE {j : Nat} (h : EvE K te σ H j) (hr : EAQ ta σ H (Errs K js)) : EAQ (tCons te ta) σ H (Errs K (j :: js)) := fun H1 e Q q =>
  h H1 e _ fun a H2 e2 he => hr H2 (e.trans e2) _ fun vs H3 e3 hv => q _ H3 (e2.trans e3) (.cons ⟨a, rfl, he.ex e3⟩ hv)
theorem ev_e1 {x f : Str} {i j : Nat} {v : V} (hx : He.ga K x = cA K j) (h : σ[i]? = some (some v)) : EvE K (tKl K x [f] (tCons (tVar i) tNil)) σ H j := fun H1 _ Q q => mk1 h fun a H2 e2 hc => q a H2 e2 (by rw [← hx]; exact hc.isE)
theorem ev_e2 {x f g : Str} {j : Nat} {v v2 : V} (hx : He.ga K x = cA K j) (h : σ[0]? = some (some v)) (h2 : σ[1]? = some (some v2)) : EvE K (tKl K x [f, g] (tCons (tVar 0) (tCons (tVar 1) tNil))) σ H j := fun H1 _ Q q => mk2 h h2 fun a H2 e2 hc => q a H2 e2 (by rw [← hx]; exact hc.isE)
theorem ev_e3 {x f g l : Str} {j : Nat} {v v2 v3 : V} (hx : He.ga K x = cA K j) (h : σ[0]? = some (some v)) (h2 : σ[1]? = some (some v2)) (h3 : σ[2]? = some (some v3)) : EvE K (tKl K x [f, g, l] (tCons (tVar 0) (tCons (tVar 1) (tCons (tVar 2) tNil)))) σ H j := fun H1 _ Q q => mk3 h h2 h3 fun a H2 e2 hc => q a H2 e2 (by rw [← hx]; exact hc.isE)
theorem ev_e0 {x : Str} {j : Nat} (hx : He.ga K x = cA K j) : EvE K (tExc0 (He.ga K x)) σ H j := fun H1 _ Q q a ha => q a _ (Ex.new ha) (by rw [← hx]; exact .inl upd_same)
/-- rows = rows + [..], the rest -/
theorem q_catE {D : Ends} {tz : TS} {l : Addr} {xs : List V} {js2 : List Nat} (hi : σ[3]? = some (some (.ref l))) (hl : H l = some (.lst xs)) (hx : Errs K js xs H) (hz : xs.length ≤ 100) (hn : js2.length ≤ 100) (h : EAQ ta σ H (Errs K js2))
    (k : ∀ l2 xs2 H1, H l2 = none → Ex H H1 → H1 l2 = some (.lst xs2) → Errs K (js ++ js2) xs2 H1 → xs2.length ≤ xs.length + js2.length → tz D (σ.set 3 (some (.ref l2))) H1) : tSeq (tAsg (tOp rCat (tVar 3) (tLst ta)) (gName 3)) tz D σ H := by
  refine ⟨_, hi, h H (Ex.refl H) _ fun ys H1 e1 hy => ⟨sz_of (by rw [← Paired.length hy]; omega), fun p hp => ⟨l, p, xs, ys, rfl, rfl, (by rw [upd_ne (ne_of_none (e1 _ _ hl) hp)]; exact e1 _ _ hl), upd_same, sz_of (by rw [← Paired.length hy]; omega), fun p2 hp2 => ?_⟩⟩⟩
  have e2 : Ex H1 (L2.upd (L2.upd H1 p (.lst ys)) p2 (.lst (xs ++ ys))) := (Ex.new hp).trans (Ex.new hp2)
  exact k p2 (xs ++ ys) _ (fresh_back (e1.trans (Ex.new hp)) hp2) (e1.trans e2) upd_same (paired_app (hx.ex (e1.trans e2)) (Errs.ex e2 hy)) (by rw [List.length_append, ← Paired.length hy]; omega)
end
abbrev sMade : Stmt := top 37
def spMade (K : PySem.W.Frag) : Sp := fun vs H Q _ => ∃ v1 v2 v3, vs = [v1, v2, v3] ∧ ∀ p xs H1, H p = none → Ex H H1 → H1 p = some (.lst xs) → Errs K mo xs H1 → Q (.ref p) H1
theorem scMade : FnScope ["_law_one", "_law_two", "_law_three", "_law_rows"] ["_law_one", "_law_two", "_law_three"] (defScope sMade) := ⟨rfl, rfl, rfl, by decide +kernel, rfl, by decide +kernel, by decide +kernel⟩
theorem ok_made {f : Addr} {fd : FuncData} (F : FnP K "_law_made" sMade f fd) (T : Cls27 P w K mg base) : FnOk P w K mg base CX0 3 f fd ["_law_one", "_law_two", "_law_three"] (spMade K) := by
  refine F.ok scMade (fun vs H Q E h => ?_) (fun cdv A outer st H vs Q E hr h => ?_)
  · obtain ⟨v1, v2, v3, rfl, _⟩ := h
    rfl
  · obtain ⟨v1, v2, v3, rfl, k⟩ := h
    refine ⟨_, PSs.nox (pss_cons (ps_set (i := 3) scMade.nd rfl (Or.inl rfl) (pe_lst pa_nil))
      (pss_cons (ps_set (i := 3) scMade.nd rfl (Or.inl rfl) (pe_op op_cat (pv 3) (pe_lst (pa_cons (pe_kl T.k0 hr rfl (pa_cons (pv 0) pa_nil)) (pa_cons (pe_kl T.k1 hr rfl (pa_cons (pv 0) pa_nil)) (pa_cons (pe_kl T.k2 hr rfl (pa_cons (pv 0) pa_nil)) (pa_cons (pe_kl T.k4 hr rfl (pa_cons (pv 0) pa_nil)) pa_nil)))))))
      (pss_cons (ps_set (i := 3) scMade.nd rfl (Or.inl rfl) (pe_op op_cat (pv 3) (pe_lst (pa_cons (pe_kl T.k5 hr rfl (pa_cons (pv 0) pa_nil)) (pa_cons (pe_kl T.k6 hr rfl (pa_cons (pv 0) pa_nil)) (pa_cons (pe_kl T.k7 hr rfl (pa_cons (pv 0) pa_nil)) (pa_cons (pe_kl T.k8 hr rfl (pa_cons (pv 0) pa_nil)) pa_nil)))))))
      (pss_cons (ps_set (i := 3) scMade.nd rfl (Or.inl rfl) (pe_op op_cat (pv 3) (pe_lst (pa_cons (pe_kl T.k9 hr rfl (pa_cons (pv 0) pa_nil)) (pa_cons (pe_kl T.k10 hr rfl (pa_cons (pv 0) pa_nil)) (pa_cons (pe_kl T.k11 hr rfl (pa_cons (pv 0) pa_nil)) (pa_cons (pe_kl T.k23 hr rfl (pa_cons (pv 0) pa_nil)) pa_nil)))))))
      (pss_cons (ps_set (i := 3) scMade.nd rfl (Or.inl rfl) (pe_op op_cat (pv 3) (pe_lst (pa_cons (pe_kl T.k3 hr rfl (pa_cons (pv 0) pa_nil)) (pa_cons (pe_kl T.k12 hr rfl (pa_cons (pv 0) pa_nil)) (pa_cons (pe_kl T.k24 hr rfl (pa_cons (pv 0) pa_nil)) (pa_cons (pe_kl T.k15 hr rfl (pa_cons (pv 0) pa_nil)) pa_nil)))))))
      (pss_cons (ps_set (i := 3) scMade.nd rfl (Or.inl rfl) (pe_op op_cat (pv 3) (pe_lst (pa_cons (pe_kl T.k16 hr rfl (pa_cons (pv 0) pa_nil)) (pa_cons (pe_kl T.k20 hr rfl (pa_cons (pv 0) pa_nil)) (pa_cons (pe_kl T.k22 hr rfl (pa_cons (pv 0) pa_nil)) pa_nil))))))
      (pss_cons (ps_set (i := 3) scMade.nd rfl (Or.inl rfl) (pe_op op_cat (pv 3) (pe_lst (pa_cons (pe_kl T.k13 hr rfl (pa_cons (pv 0) (pa_cons (pv 1) pa_nil))) (pa_cons (pe_kl T.k18 hr rfl (pa_cons (pv 0) (pa_cons (pv 1) pa_nil))) (pa_cons (pe_kl T.k19 hr rfl (pa_cons (pv 0) (pa_cons (pv 1) pa_nil))) (pa_cons (pe_kl T.k14 hr rfl (pa_cons (pv 0) (pa_cons (pv 1) (pa_cons (pv 2) pa_nil)))) pa_nil)))))))
      (pss_one (ps_ret (pe_op op_cat (pv 3) (pe_lst (pa_cons (pe_kl T.k17 hr rfl (pa_cons (pv 0) (pa_cons (pv 1) (pa_cons (pv 2) pa_nil)))) (pa_cons (pe_kl T.k21 hr rfl (pa_cons (pv 0) (pa_cons (pv 1) (pa_cons (pv 2) pa_nil)))) (pa_cons (pe_exc0 PySem.F.excBase_ValueError T.x25 T.g25 T.c25 rfl) (pa_cons (pe_exc0 PySem.F.excBase_ValueError T.x26 T.g26 T.c26 rfl) pa_nil))))))))))))))), ?_⟩
    refine q_asgL (el_lst ea_nil (sm rfl)) fun l0 H0 n0 e0 h0 => ?_
    refine q_catE (js := []) (js2 := [0, 1, 2, 4]) rfl h0 (.nil : Errs K [] [] H0) (by decide) (by decide) (eaq_consE (ev_e1 (x := "BadSizes") rfl rfl) (eaq_consE (ev_e1 (x := "BadPeople") rfl rfl) (eaq_consE (ev_e1 (x := "BadGames") rfl rfl) (eaq_consE (ev_e1 (x := "BadPerson") rfl rfl) eaq_nilE)))) fun l1 xs1 H1 n1 e1 h1 r1 z1 => ?_
    refine q_catE (js := [0, 1, 2, 4]) (js2 := [5, 6, 7, 8]) rfl h1 r1 (by simp at z1; omega) (by decide) (eaq_consE (ev_e1 (x := "BadTeam") rfl rfl) (eaq_consE (ev_e1 (x := "BadKind") rfl rfl) (eaq_consE (ev_e1 (x := "BadRounds") rfl rfl) (eaq_consE (ev_e1 (x := "BadRound") rfl rfl) eaq_nilE)))) fun l2 xs2 H2 n2 e2 h2 r2 z2 => ?_
    refine q_catE (js := [0, 1, 2, 4, 5, 6, 7, 8]) (js2 := [9, 10, 11, 23]) rfl h2 r2 (by simp at z1 z2; omega) (by decide) (eaq_consE (ev_e1 (x := "BadNumber") rfl rfl) (eaq_consE (ev_e1 (x := "BadIndex") rfl rfl) (eaq_consE (ev_e1 (x := "BadClasses") rfl rfl) (eaq_consE (ev_e1 (x := "BadCost") rfl rfl) eaq_nilE)))) fun l3 xs3 H3 n3 e3 h3 r3 z3 => ?_
    refine q_catE (js := [0, 1, 2, 4, 5, 6, 7, 8, 9, 10, 11, 23]) (js2 := [3, 12, 24, 15]) rfl h3 r3 (by simp at z1 z2 z3; omega) (by decide) (eaq_consE (ev_e1 (x := "TooMany") rfl rfl) (eaq_consE (ev_e1 (x := "BadText") rfl rfl) (eaq_consE (ev_e1 (x := "BadWish") rfl rfl) (eaq_consE (ev_e1 (x := "BadShares") rfl rfl) eaq_nilE)))) fun l4 xs4 H4 n4 e4 h4 r4 z4 => ?_
    refine q_catE (js := [0, 1, 2, 4, 5, 6, 7, 8, 9, 10, 11, 23, 3, 12, 24, 15]) (js2 := [16, 20, 22]) rfl h4 r4 (by simp at z1 z2 z3 z4; omega) (by decide) (eaq_consE (ev_e1 (x := "Alone") rfl rfl) (eaq_consE (ev_e1 (x := "BadPairs") rfl rfl) (eaq_consE (ev_e1 (x := "Crowded") rfl rfl) eaq_nilE))) fun l5 xs5 H5 n5 e5 h5 r5 z5 => ?_
    refine q_catE (js := [0, 1, 2, 4, 5, 6, 7, 8, 9, 10, 11, 23, 3, 12, 24, 15, 16, 20, 22]) (js2 := [13, 18, 19, 14]) rfl h5 r5 (by simp at z1 z2 z3 z4 z5; omega) (by decide) (eaq_consE (ev_e2 (x := "WrongTimes") rfl rfl rfl) (eaq_consE (ev_e2 (x := "NotFull") rfl rfl rfl) (eaq_consE (ev_e2 (x := "NoGrowth") rfl rfl rfl) (eaq_consE (ev_e3 (x := "NotAdding") rfl rfl rfl rfl) eaq_nilE)))) fun l6 xs6 H6 n6 e6 h6 r6 z6 => ?_
    refine ⟨_, rfl, (eaq_consE (ev_e3 (x := "WrongSum") rfl rfl rfl rfl) (eaq_consE (ev_e3 (x := "ShortRound") rfl rfl rfl rfl) (eaq_consE (ev_e0 (x := "UnlikePeople") rfl) (eaq_consE (ev_e0 (x := "NothingToUndo") rfl) eaq_nilE))) : EAQ _ _ H6 (Errs K [17, 21, 25, 26])) H6 (Ex.refl H6) _ fun ys H7 e7 hy => ⟨sz_of (by rw [← Paired.length hy]; decide), fun p hp => ⟨l6, p, xs6, ys, rfl, rfl, (by rw [upd_ne (ne_of_none (e7 _ _ h6) hp)]; exact e7 _ _ h6), upd_same, sz_of (by rw [← Paired.length hy]; simp at z1 z2 z3 z4 z5 z6; simp; omega), fun p2 hp2 => ?_⟩⟩⟩
    have e8 : Ex H7 (L2.upd (L2.upd H7 p (.lst ys)) p2 (.lst (xs6 ++ ys))) := (Ex.new hp).trans (Ex.new hp2)
    exact k p2 _ _ (fresh_back ((((((((e0.trans e1).trans e2).trans e3).trans e4).trans e5).trans e6).trans e7).trans (Ex.new hp)) hp2) ((((((((e0.trans e1).trans e2).trans e3).trans e4).trans e5).trans e6).trans e7).trans e8) upd_same (paired_app (r6.ex (e7.trans e8)) (Errs.ex e8 hy))
/-! ### _law_classes -/
abbrev sClss : Stmt := top 38
def spClss (K : PySem.W.Frag) : Sp := fun vs H Q _ => ∃ (a : Addr) (j : Nat), vs = [.ref a] ∧ IsE H (cA K j) a ∧ j < 27 ∧ RetL [.int (j : Int)] H Q
theorem scClss : FnScope ["_law_error", "_law_rows", "_law_k"] ["_law_error"] (defScope sClss) := ⟨rfl, rfl, rfl, by decide +kernel, rfl, by decide +kernel, by decide +kernel⟩
/-- isinstance(e, x) -/
theorem ev_isX {σ : L2.St} {H : Hp} {i : Nat} {a D : Addr} {c : V} {cv : Value} {b : Bool} (h : σ[i]? = some (some (.ref a))) (hE : IsE H D a) (C : ExcC K D) (hc : ∀ u, RelV c u → u = cv) (hk : PySem.W.kitOne K (.ref D) cv = some b) : Ev (tCB (rIsX K) (tCons (tVar i) (tCons (tC c) tNil))) σ H (.bl b) := fun H1 e Q q =>
  ⟨_, h, a, D, c, cv, b, rfl, hE.ex e, C, hc, hk, q H1 (Ex.refl H1)⟩
theorem ev_cls {σ : L2.St} {H : Hp} {a : Addr} {j : Nat} (T : Cls27 P w K mg base) (hj : j < 27) (h : σ[0]? = some (some (.ref a))) (hE : IsE H (cA K j) a) (i : Nat) (hi : i < 27) : Ev (tCB (rIsX K) (tCons (tVar 0) (tCons (tC (.ref (cA K i))) tNil))) σ H (.bl (decide (i = j))) :=
  ev_isX h hE (T.ec j hj) (fun u r => r) (T.kit i j hi hj)
def rows (j : Nat) : List V := (List.range 27).map fun i => V.bl (decide (i = j))
theorem rows_at {j i : Nat} (hi : i < 27) : (rows j)[i]? = some (.bl (decide (i = j))) := by
  unfold rows
  rw [List.getElem?_map, List.getElem?_range hi]
  rfl
theorem rows_len (j : Nat) : (rows j).length = 27 := by
  unfold rows
  rw [List.length_map, List.length_range]
theorem given_one : ∀ j : Nat, j < 27 → (List.range 27).filter (fun i => decide (i = j)) = [j] := by decide +kernel
theorem ok_clss {f : Addr} {fd : FuncData} (F : FnP K "_law_classes" sClss f fd) (T : Cls27 P w K mg base) (N : Nm mg) : FnOk P w K mg base CX0 1 f fd ["_law_error"] (spClss K) := by
  refine F.ok scClss (fun vs H Q E h => ?_) (fun cdv A outer st H vs Q E hr h => ?_)
  · obtain ⟨a, j, rfl, _⟩ := h
    rfl
  · obtain ⟨a, j, rfl, hE, hj, k⟩ := h
    refine ⟨_, PSs.nox (pss_cons (ps_set (i := 1) scClss.nd rfl (Or.inr rfl) (pe_lst pa_nil))
      (pss_cons (ps_set (i := 1) scClss.nd rfl (Or.inr rfl) (pe_op op_cat (pv 1) (pe_lst (pa_cons (pe_callB call_isX rfl N.isinstance PyProof.Rows.boot_isinstance (pa_cons (pv 0) (pa_cons (pe_glob (v := .ref (cA K 0)) rfl (T.gs 0 (by decide)) rfl) pa_nil))) (pa_cons (pe_callB call_isX rfl N.isinstance PyProof.Rows.boot_isinstance (pa_cons (pv 0) (pa_cons (pe_glob (v := .ref (cA K 1)) rfl (T.gs 1 (by decide)) rfl) pa_nil))) (pa_cons (pe_callB call_isX rfl N.isinstance PyProof.Rows.boot_isinstance (pa_cons (pv 0) (pa_cons (pe_glob (v := .ref (cA K 2)) rfl (T.gs 2 (by decide)) rfl) pa_nil))) pa_nil))))))
      (pss_cons (ps_set (i := 1) scClss.nd rfl (Or.inr rfl) (pe_op op_cat (pv 1) (pe_lst (pa_cons (pe_callB call_isX rfl N.isinstance PyProof.Rows.boot_isinstance (pa_cons (pv 0) (pa_cons (pe_glob (v := .ref (cA K 3)) rfl (T.gs 3 (by decide)) rfl) pa_nil))) (pa_cons (pe_callB call_isX rfl N.isinstance PyProof.Rows.boot_isinstance (pa_cons (pv 0) (pa_cons (pe_glob (v := .ref (cA K 4)) rfl (T.gs 4 (by decide)) rfl) pa_nil))) (pa_cons (pe_callB call_isX rfl N.isinstance PyProof.Rows.boot_isinstance (pa_cons (pv 0) (pa_cons (pe_glob (v := .ref (cA K 5)) rfl (T.gs 5 (by decide)) rfl) pa_nil))) pa_nil))))))
      (pss_cons (ps_set (i := 1) scClss.nd rfl (Or.inr rfl) (pe_op op_cat (pv 1) (pe_lst (pa_cons (pe_callB call_isX rfl N.isinstance PyProof.Rows.boot_isinstance (pa_cons (pv 0) (pa_cons (pe_glob (v := .ref (cA K 6)) rfl (T.gs 6 (by decide)) rfl) pa_nil))) (pa_cons (pe_callB call_isX rfl N.isinstance PyProof.Rows.boot_isinstance (pa_cons (pv 0) (pa_cons (pe_glob (v := .ref (cA K 7)) rfl (T.gs 7 (by decide)) rfl) pa_nil))) (pa_cons (pe_callB call_isX rfl N.isinstance PyProof.Rows.boot_isinstance (pa_cons (pv 0) (pa_cons (pe_glob (v := .ref (cA K 8)) rfl (T.gs 8 (by decide)) rfl) pa_nil))) pa_nil))))))
      (pss_cons (ps_set (i := 1) scClss.nd rfl (Or.inr rfl) (pe_op op_cat (pv 1) (pe_lst (pa_cons (pe_callB call_isX rfl N.isinstance PyProof.Rows.boot_isinstance (pa_cons (pv 0) (pa_cons (pe_glob (v := .ref (cA K 9)) rfl (T.gs 9 (by decide)) rfl) pa_nil))) (pa_cons (pe_callB call_isX rfl N.isinstance PyProof.Rows.boot_isinstance (pa_cons (pv 0) (pa_cons (pe_glob (v := .ref (cA K 10)) rfl (T.gs 10 (by decide)) rfl) pa_nil))) (pa_cons (pe_callB call_isX rfl N.isinstance PyProof.Rows.boot_isinstance (pa_cons (pv 0) (pa_cons (pe_glob (v := .ref (cA K 11)) rfl (T.gs 11 (by decide)) rfl) pa_nil))) pa_nil))))))
      (pss_cons (ps_set (i := 1) scClss.nd rfl (Or.inr rfl) (pe_op op_cat (pv 1) (pe_lst (pa_cons (pe_callB call_isX rfl N.isinstance PyProof.Rows.boot_isinstance (pa_cons (pv 0) (pa_cons (pe_glob (v := .ref (cA K 12)) rfl (T.gs 12 (by decide)) rfl) pa_nil))) (pa_cons (pe_callB call_isX rfl N.isinstance PyProof.Rows.boot_isinstance (pa_cons (pv 0) (pa_cons (pe_glob (v := .ref (cA K 13)) rfl (T.gs 13 (by decide)) rfl) pa_nil))) (pa_cons (pe_callB call_isX rfl N.isinstance PyProof.Rows.boot_isinstance (pa_cons (pv 0) (pa_cons (pe_glob (v := .ref (cA K 14)) rfl (T.gs 14 (by decide)) rfl) pa_nil))) pa_nil))))))
      (pss_cons (ps_set (i := 1) scClss.nd rfl (Or.inr rfl) (pe_op op_cat (pv 1) (pe_lst (pa_cons (pe_callB call_isX rfl N.isinstance PyProof.Rows.boot_isinstance (pa_cons (pv 0) (pa_cons (pe_glob (v := .ref (cA K 15)) rfl (T.gs 15 (by decide)) rfl) pa_nil))) (pa_cons (pe_callB call_isX rfl N.isinstance PyProof.Rows.boot_isinstance (pa_cons (pv 0) (pa_cons (pe_glob (v := .ref (cA K 16)) rfl (T.gs 16 (by decide)) rfl) pa_nil))) (pa_cons (pe_callB call_isX rfl N.isinstance PyProof.Rows.boot_isinstance (pa_cons (pv 0) (pa_cons (pe_glob (v := .ref (cA K 17)) rfl (T.gs 17 (by decide)) rfl) pa_nil))) pa_nil))))))
      (pss_cons (ps_set (i := 1) scClss.nd rfl (Or.inr rfl) (pe_op op_cat (pv 1) (pe_lst (pa_cons (pe_callB call_isX rfl N.isinstance PyProof.Rows.boot_isinstance (pa_cons (pv 0) (pa_cons (pe_glob (v := .ref (cA K 18)) rfl (T.gs 18 (by decide)) rfl) pa_nil))) (pa_cons (pe_callB call_isX rfl N.isinstance PyProof.Rows.boot_isinstance (pa_cons (pv 0) (pa_cons (pe_glob (v := .ref (cA K 19)) rfl (T.gs 19 (by decide)) rfl) pa_nil))) (pa_cons (pe_callB call_isX rfl N.isinstance PyProof.Rows.boot_isinstance (pa_cons (pv 0) (pa_cons (pe_glob (v := .ref (cA K 20)) rfl (T.gs 20 (by decide)) rfl) pa_nil))) pa_nil))))))
      (pss_cons (ps_set (i := 1) scClss.nd rfl (Or.inr rfl) (pe_op op_cat (pv 1) (pe_lst (pa_cons (pe_callB call_isX rfl N.isinstance PyProof.Rows.boot_isinstance (pa_cons (pv 0) (pa_cons (pe_glob (v := .ref (cA K 21)) rfl (T.gs 21 (by decide)) rfl) pa_nil))) (pa_cons (pe_callB call_isX rfl N.isinstance PyProof.Rows.boot_isinstance (pa_cons (pv 0) (pa_cons (pe_glob (v := .ref (cA K 22)) rfl (T.gs 22 (by decide)) rfl) pa_nil))) (pa_cons (pe_callB call_isX rfl N.isinstance PyProof.Rows.boot_isinstance (pa_cons (pv 0) (pa_cons (pe_glob (v := .ref (cA K 23)) rfl (T.gs 23 (by decide)) rfl) pa_nil))) pa_nil))))))
      (pss_cons (ps_set (i := 1) scClss.nd rfl (Or.inr rfl) (pe_op op_cat (pv 1) (pe_lst (pa_cons (pe_callB call_isX rfl N.isinstance PyProof.Rows.boot_isinstance (pa_cons (pv 0) (pa_cons (pe_glob (v := .ref (cA K 24)) rfl (T.gs 24 (by decide)) rfl) pa_nil))) (pa_cons (pe_callB call_isX rfl N.isinstance PyProof.Rows.boot_isinstance (pa_cons (pv 0) (pa_cons (pe_glob (v := .ref (cA K 25)) rfl (T.gs 25 (by decide)) rfl) pa_nil))) pa_nil)))))
      (pss_cons (ps_set (i := 1) scClss.nd rfl (Or.inr rfl) (pe_op op_cat (pv 1) (pe_lst (pa_cons (pe_callB call_isX rfl N.isinstance PyProof.Rows.boot_isinstance (pa_cons (pv 0) (pa_cons (pe_glob (v := .ref (cA K 26)) rfl (T.gs 26 (by decide)) rfl) pa_nil))) pa_nil))))
      (pss_one (ps_ret (pe_lc (own := [("_law_k", 2)]) (g := gName 2) (tt := tB (tOp (rIxL K) (tVar 1) (tVar 2))) rfl scClss.nd (pi_range1 rfl N.range (pa_cons (pe_callB (call_lenS (K := K)) rfl N.len PySem.boot_len (pa_cons (pv 1) pa_nil)) pa_nil)) (blkOk_by (N := ["_law_error", "_law_rows", "_law_k"]) (sc := defScope sClss) (by decide +kernel))
        (fun _ _ _ _ _ => pg_name (i := 2) scClss.nd rfl (Or.inl rfl)) (fun _ _ _ _ _ => pts_one (pt_val (pe_ix (ix_listK (K := K)) (pv 1) (pv 2) (fun _ _ => rfl)))) (fun _ _ _ _ _ => pv 2))))))))))))))), ?_⟩
    refine q_asgL (el_lst ea_nil (sm rfl)) fun l0 H0 n0 e0 h0 => ?_
    refine q_asgL (el_cat (ev_var rfl) h0 (el_lst (ea_cons (ev_cls T hj rfl (hE.ex e0) 0 (by decide)) (ea_cons (ev_cls T hj rfl (hE.ex e0) 1 (by decide)) (ea_cons (ev_cls T hj rfl (hE.ex e0) 2 (by decide)) ea_nil))) (sm rfl)) (sm rfl)) fun l1 H1 n1 e1 h1 => ?_
    refine q_asgL (el_cat (ev_var rfl) h1 (el_lst (ea_cons (ev_cls T hj rfl (hE.ex (e0.trans e1)) 3 (by decide)) (ea_cons (ev_cls T hj rfl (hE.ex (e0.trans e1)) 4 (by decide)) (ea_cons (ev_cls T hj rfl (hE.ex (e0.trans e1)) 5 (by decide)) ea_nil))) (sm rfl)) (sm rfl)) fun l2 H2 n2 e2 h2 => ?_
    refine q_asgL (el_cat (ev_var rfl) h2 (el_lst (ea_cons (ev_cls T hj rfl (hE.ex ((e0.trans e1).trans e2)) 6 (by decide)) (ea_cons (ev_cls T hj rfl (hE.ex ((e0.trans e1).trans e2)) 7 (by decide)) (ea_cons (ev_cls T hj rfl (hE.ex ((e0.trans e1).trans e2)) 8 (by decide)) ea_nil))) (sm rfl)) (sm rfl)) fun l3 H3 n3 e3 h3 => ?_
    refine q_asgL (el_cat (ev_var rfl) h3 (el_lst (ea_cons (ev_cls T hj rfl (hE.ex (((e0.trans e1).trans e2).trans e3)) 9 (by decide)) (ea_cons (ev_cls T hj rfl (hE.ex (((e0.trans e1).trans e2).trans e3)) 10 (by decide)) (ea_cons (ev_cls T hj rfl (hE.ex (((e0.trans e1).trans e2).trans e3)) 11 (by decide)) ea_nil))) (sm rfl)) (sm rfl)) fun l4 H4 n4 e4 h4 => ?_
    refine q_asgL (el_cat (ev_var rfl) h4 (el_lst (ea_cons (ev_cls T hj rfl (hE.ex ((((e0.trans e1).trans e2).trans e3).trans e4)) 12 (by decide)) (ea_cons (ev_cls T hj rfl (hE.ex ((((e0.trans e1).trans e2).trans e3).trans e4)) 13 (by decide)) (ea_cons (ev_cls T hj rfl (hE.ex ((((e0.trans e1).trans e2).trans e3).trans e4)) 14 (by decide)) ea_nil))) (sm rfl)) (sm rfl)) fun l5 H5 n5 e5 h5 => ?_
    refine q_asgL (el_cat (ev_var rfl) h5 (el_lst (ea_cons (ev_cls T hj rfl (hE.ex (((((e0.trans e1).trans e2).trans e3).trans e4).trans e5)) 15 (by decide)) (ea_cons (ev_cls T hj rfl (hE.ex (((((e0.trans e1).trans e2).trans e3).trans e4).trans e5)) 16 (by decide)) (ea_cons (ev_cls T hj rfl (hE.ex (((((e0.trans e1).trans e2).trans e3).trans e4).trans e5)) 17 (by decide)) ea_nil))) (sm rfl)) (sm rfl)) fun l6 H6 n6 e6 h6 => ?_
    refine q_asgL (el_cat (ev_var rfl) h6 (el_lst (ea_cons (ev_cls T hj rfl (hE.ex ((((((e0.trans e1).trans e2).trans e3).trans e4).trans e5).trans e6)) 18 (by decide)) (ea_cons (ev_cls T hj rfl (hE.ex ((((((e0.trans e1).trans e2).trans e3).trans e4).trans e5).trans e6)) 19 (by decide)) (ea_cons (ev_cls T hj rfl (hE.ex ((((((e0.trans e1).trans e2).trans e3).trans e4).trans e5).trans e6)) 20 (by decide)) ea_nil))) (sm rfl)) (sm rfl)) fun l7 H7 n7 e7 h7 => ?_
    refine q_asgL (el_cat (ev_var rfl) h7 (el_lst (ea_cons (ev_cls T hj rfl (hE.ex (((((((e0.trans e1).trans e2).trans e3).trans e4).trans e5).trans e6).trans e7)) 21 (by decide)) (ea_cons (ev_cls T hj rfl (hE.ex (((((((e0.trans e1).trans e2).trans e3).trans e4).trans e5).trans e6).trans e7)) 22 (by decide)) (ea_cons (ev_cls T hj rfl (hE.ex (((((((e0.trans e1).trans e2).trans e3).trans e4).trans e5).trans e6).trans e7)) 23 (by decide)) ea_nil))) (sm rfl)) (sm rfl)) fun l8 H8 n8 e8 h8 => ?_
    refine q_asgL (el_cat (ev_var rfl) h8 (el_lst (ea_cons (ev_cls T hj rfl (hE.ex ((((((((e0.trans e1).trans e2).trans e3).trans e4).trans e5).trans e6).trans e7).trans e8)) 24 (by decide)) (ea_cons (ev_cls T hj rfl (hE.ex ((((((((e0.trans e1).trans e2).trans e3).trans e4).trans e5).trans e6).trans e7).trans e8)) 25 (by decide)) ea_nil)) (sm rfl)) (sm rfl)) fun l9 H9 n9 e9 h9 => ?_
    refine q_asgL (el_cat (ev_var rfl) h9 (el_lst (ea_cons (ev_cls T hj rfl (hE.ex (((((((((e0.trans e1).trans e2).trans e3).trans e4).trans e5).trans e6).trans e7).trans e8).trans e9)) 26 (by decide)) ea_nil) (sm rfl)) (sm rfl)) fun l10 H10 n10 e10 h10 => ?_
    have hr : H10 l10 = some (.lst (rows j)) := h10
    have lc := el_lcR1 (σ := [some (V.ref a), some (V.ref l10), none]) (H := H10) (ta := tCons (tCB (Evl.rLenS K) (tCons (tVar 1) tNil)) tNil) (j := 2) (vs := [2]) (n := 27)
      (t := tB (tOp (rIxL K) (tVar 1) (tVar 2))) (te := tVar 2) (fun i => decide (i = j)) (fun i => V.int (i : Int))
      (ea_cons (ev_is (ev_len (ev_var rfl) (sq_of hr)) (by rw [rows_len]; rfl)) ea_nil) ⟨by decide, by decide⟩ (fun _ => rfl)
      (fun i H1 e hi => et_B (ev_op (ev_var rfl) (ev_var rfl) (rv_ixL (sq_of (e _ _ hr)) (atI_nat (rows_at (by omega)))))) (fun i H1 e hi _ => ev_var rfl)
    refine s_retL (xs := [V.int (j : Int)]) ?_ fun p H' hp e h => k p H' (fresh_back ((((((((((e0.trans e1).trans e2).trans e3).trans e4).trans e5).trans e6).trans e7).trans e8).trans e9).trans e10) hp) (((((((((((e0.trans e1).trans e2).trans e3).trans e4).trans e5).trans e6).trans e7).trans e8).trans e9).trans e10).trans e) h
    have eg : given (27 : Int).toNat (fun i => decide (i = j)) (fun i => V.int (i : Int)) = [V.int (j : Int)] := by
      unfold given
      rw [show (27 : Int).toNat = 27 from rfl, given_one j hj]
      rfl
    rw [eg] at lc
    exact lc
end
end K4


namespace K4
open PySem PySem.Spec PyProof.Rows L2 Evl Xo
/-! ### the law -/
section
variable {P : Program} {w : World} {K : PySem.W.Frag} {mg : Str → Option Value} {base : Heap}
section
variable {σ : L2.St} {H : Hp} {te tb : TE} {ta : TA} {v : V}
theorem el_cat2 {xs ys : List V} (ha : EvL te σ H xs) (hb : EvL tb σ H ys) (hz : xs.length + ys.length ≤ 100000) : EvL (tOp rCat te tb) σ H (xs ++ ys) := fun H1 e Q q =>
  ha H1 e _ fun l H2 _ e2 hl => hb H2 (e.trans e2) _ fun b H3 _ e3 h3 => ⟨l, b, xs, ys, rfl, rfl, e3 _ _ hl, h3, sz_of hz, fun p hp => q p _ (fresh_back (e2.trans e3) hp) ((e2.trans e3).trans (Ex.new hp)) upd_same⟩
theorem el_rep {k : Int} (hk : 0 ≤ k ∧ k ≤ 100) (ha : EvL te σ H [v]) : EvL (tOp rRep te (tC (.int k))) σ H (List.replicate k.toNat v) := fun H1 e Q q =>
  ha H1 e _ fun l H2 _ e2 hl => ⟨l, k, [v], rfl, rfl, hl, by omega, by omega, sz_of (by show 1 * k.toNat ≤ 100000; omega), fun p hp => q p _ (fresh_back e2 hp) (e2.trans (Ex.new hp)) (by rw [upd_same, flat_rep])⟩
/-- two lists of the same things are not unlike -/
theorem ev_neW {xs : List V} (ha : EvL te σ H xs) (hb : EvL tb σ H xs) (hs : ∀ x ∈ xs, Safe x) : Ev (tOp (rNeW K) te tb) σ H (.bl false) :=
  ev_opLL ha hb fun p q H1 hp hq _ H2 e2 Q k => ⟨p, q, xs, xs, rfl, rfl, sq_of (e2 _ _ hp), sq_of (e2 _ _ hq), paired_self fun x hx => .inl ⟨rfl, hs x hx⟩, k H2 (Ex.refl H2)⟩
theorem given_all (n : Nat) (g : Nat → V) : given n (fun _ => true) g = (List.range n).map g := by
  unfold given
  rw [List.filter_eq_self.mpr fun _ _ => rfl]
theorem ev_all {n : Nat} (h : EvL te σ H ((List.range n).map fun _ => V.bl true)) : Ev (tCB (rAll K) (tCons te tNil)) σ H (.bl true) := fun H1 e Q q =>
  h H1 e _ fun p H2 _ e2 hp => ⟨p, (List.range n).map fun _ => true, rfl, sq_of (by rw [hp, List.map_map]; rfl), by
    have z : ((List.range n).map fun _ => true).all id = true := List.all_eq_true.mpr fun b hb => by
      obtain ⟨_, _, rfl⟩ := List.mem_map.mp hb
      rfl
    rw [z]
    exact q H2 e2⟩
def ids : List Int := (List.range 27).map fun (i : Nat) => (i : Int)
theorem ids_perm : (mo.map fun (j : Nat) => (j : Int)).Perm ids := by decide +kernel
theorem ids_sorted : ids.Pairwise (· ≤ ·) := by decide +kernel
theorem ids_safe : ∀ x ∈ ids.map V.int, Safe x := fun x hx => by
  obtain ⟨c, _, rfl⟩ := List.mem_map.mp hx
  exact safe_int c
theorem mo_ints : ((List.range 27).map fun i => V.int ((mo.getD i 0 : Nat) : Int)) = (mo.map fun (j : Nat) => (j : Int)).map V.int := by decide +kernel
theorem el_sorted (h : EvL te σ H ((mo.map fun (j : Nat) => (j : Int)).map V.int)) : EvL (tCB (rSorted K) (tCons te tNil)) σ H (ids.map V.int) := fun H1 e Q q =>
  h H1 e _ fun p H2 _ e2 hp => ⟨p, _, rfl, sq_of hp, by decide, fun ns' p2 h1 h2 hp2 => by
    have en : ns' = ids := PySem.W.ksm_same (h1.trans ids_perm) h2 ids_sorted
    subst en
    exact q p2 _ (fresh_back e2 hp2) (e2.trans (Ex.new hp2)) upd_same⟩
theorem el_rg : EvL (tLstRg (tRg1 (tC (.int 27)))) σ H (ids.map V.int) := fun H1 _ Q q => ⟨27, rfl, RgOk.of_le (by decide) (by decide) (by decide) (by decide), fun p hp => q p _ hp (Ex.new hp) (by rw [upd_same, show rgV 0 27 = ids.map V.int by decide +kernel])⟩
end
theorem cut_ints {ns : List Int} {lo hi : Option Int} {x : V} (h : x ∈ cutV (ns.map V.int) lo hi) : ∃ c, x = V.int c := by
  unfold cutV at h
  obtain ⟨c, _, rfl⟩ := List.mem_map.mp (List.mem_of_mem_drop (List.mem_of_mem_take h))
  exact ⟨c, rfl⟩
theorem at_ints {ns : List Int} {lo hi : Option Int} {i : Nat} {x : V} (h : (cutV (ns.map V.int) lo hi ++ [V.int 0])[i]? = some x) : ∃ c, x = V.int c := by
  rcases List.mem_append.mp (List.mem_of_getElem? h) with h | h
  · exact cut_ints h
  · exact ⟨0, List.mem_singleton.mp h⟩
theorem errs_at {js : List Nat} {xs : List V} {H : Hp} (h : Errs K js xs H) : ∀ {i : Nat} {x : V}, xs[i]? = some x → ∃ a j, x = V.ref a ∧ js[i]? = some j ∧ IsE H (cA K j) a := by
  unfold Errs at h
  induction h with
  | nil =>
    intro i x e
    simp at e
  | @cons j v js vs h _ ih =>
    intro i x e
    cases i with
    | zero =>
      obtain ⟨a, rfl, ha⟩ := h
      have e' : V.ref a = x := by simpa using e
      exact ⟨a, j, e'.symm, rfl, ha⟩
    | succ i =>
      obtain ⟨a, j', h1, h2, h3⟩ := ih (i := i) (x := x) (by simpa using e)
      exact ⟨a, j', h1, by simpa using h2, h3⟩
theorem mo_lt : ∀ j ∈ mo, j < 27 := by decide +kernel
theorem mo_get {i j : Nat} (h : mo[i]? = some j) : j < 27 := mo_lt j (List.mem_of_getElem? h)
/-- lists of one number each -/
def Ones (d : Addr) (js : List Nat) (vs : List V) (H : Hp) : Prop := Paired (fun (j : Nat) (v : V) => ∃ t, v = V.ref t ∧ t ≠ d ∧ H t = some (.lst [V.int (j : Int)])) js vs
theorem ones_at {d : Addr} {js : List Nat} {xs : List V} {H : Hp} (h : Ones d js xs H) : ∀ {i : Nat} {x : V}, xs[i]? = some x → ∃ t j, x = V.ref t ∧ js[i]? = some j ∧ H t = some (.lst [V.int (j : Int)]) := by
  unfold Ones at h
  induction h with
  | nil =>
    intro i x e
    simp at e
  | @cons j v js vs h _ ih =>
    intro i x e
    cases i with
    | zero =>
      obtain ⟨a, rfl, _, ha⟩ := h
      have e' : V.ref a = x := by simpa using e
      exact ⟨a, j, e'.symm, rfl, ha⟩
    | succ i =>
      obtain ⟨a, j', h1, h2, h3⟩ := ih (i := i) (x := x) (by simpa using e)
      exact ⟨a, j', h1, by simpa using h2, h3⟩
theorem nm {i : Nat} {v : V} {σ : L2.St} {H : Hp} {Q : L2.St → Hp → Prop} (h : Q (σ.set i (some v)) H) : gName i v σ H Q := h
theorem take_more {α : Type} : ∀ {l : List α} {i : Nat} {x : α}, l[i]? = some x → l.take (i + 1) = l.take i ++ [x]
  | [], i, x, h => by simp at h
  | a :: l, 0, x, h => by
    have e : a = x := Option.some.inj h
    subst e
    rfl
  | a :: l, i + 1, x, h => by
    have ih := take_more (l := l) (i := i) (x := x) h
    show a :: l.take (i + 1) = a :: l.take i ++ [x]
    rw [ih]
    rfl
theorem call_isXK {X : Cx} {K : PySem.W.Frag} (h : X.K = K := by rfl) : CallR X (.builtin "isinstance") (rIsX K) := by
  subst h
  exact call_isX
abbrev sLaw : Stmt := top 39
abbrev nLaw : List Str := ["_law_script", "_law_cell_here", "_law_one", "_law_two", "_law_three", "_law_made_here", "_law_found", "_law_e", "_law_row"]
def spLaw (K : PySem.W.Frag) : Sp := fun vs H Q _ => ∃ (a : Addr) (ns : List Int), vs = [.ref a] ∧ SqL K H a (ns.map V.int) ∧ ns.length ≤ 63 ∧ ∀ H', Q (.bl true) H'
theorem scLaw : FnScope nLaw ["_law_script"] (defScope sLaw) := ⟨rfl, rfl, rfl, by decide +kernel, rfl, by decide +kernel, by decide +kernel⟩
/-- where the law's defs stand -/
structure Fs (P : Program) (w : World) (K : PySem.W.Frag) (mg : Str → Option Value) (base : Heap) (fS fV fK fP fT fM fC : Addr) (dS dV dK dP dT dM dC : FuncData) : Prop where
  gS : mg "_law_source" = some (.ref fS)
  kS : PySem.W.keepIn K (.ref fS) = true
  bS : Binds K dS ["_law_cell_here"] []
  oS : FnOk P w K mg base CX0 1 fS dS ["_law_cell_here"] spSrc
  gV : mg "_law_values" = some (.ref fV)
  kV : PySem.W.keepIn K (.ref fV) = true
  bV : Binds K dV ["_law_source_here"] []
  oV : FnOk P w K mg base CX0 2 fV dV ["_law_source_here"] spVals
  gK : mg "_law_kept" = some (.ref fK)
  kK : PySem.W.keepIn K (.ref fK) = true
  bK : Binds K dK ["_law_given"] []
  oK : FnOk P w K mg base CX0 3 fK dK ["_law_given"] spKept
  gP : mg "_law_pairs_kept" = some (.ref fP)
  kP : PySem.W.keepIn K (.ref fP) = true
  bP : Binds K dP ["_law_one", "_law_two"] []
  oP : FnOk P w K mg base CX0 3 fP dP ["_law_one", "_law_two"] spPairs
  gT : mg "_law_threes_kept" = some (.ref fT)
  kT : PySem.W.keepIn K (.ref fT) = true
  bT : Binds K dT ["_law_one", "_law_two", "_law_three"] []
  oT : FnOk P w K mg base CX0 3 fT dT ["_law_one", "_law_two", "_law_three"] spThrees
  gM : mg "_law_made" = some (.ref fM)
  kM : PySem.W.keepIn K (.ref fM) = true
  bM : Binds K dM ["_law_one", "_law_two", "_law_three"] []
  oM : FnOk P w K mg base CX0 3 fM dM ["_law_one", "_law_two", "_law_three"] (spMade K)
  gC : mg "_law_classes" = some (.ref fC)
  kC : PySem.W.keepIn K (.ref fC) = true
  bC : Binds K dC ["_law_error"] []
  oC : FnOk P w K mg base CX0 1 fC dC ["_law_error"] (spClss K)
abbrev rLenQ (K : PySem.W.Frag) : List V → Hp → VK → Prop := fun xs H Q => ∃ p ys, xs = [V.ref p] ∧ (SqL K H p ys ∨ SqT K H p ys) ∧ Q (V.int ys.length) H
theorem ok_law {f fS fV fK fP fT fM fC : Addr} {fd dS dV dK dP dT dM dC : FuncData} (F : FnP K "law" sLaw f fd) (T : Cls27 P w K mg base) (N : Nm mg) (G : Fs P w K mg base fS fV fK fP fT fM fC dS dV dK dP dT dM dC) : FnOk P w K mg base CX0 4 f fd ["_law_script"] (spLaw K) := by
  refine F.ok scLaw (fun vs H Q E h => ?_) (fun cdv A outer st H vs Q E hr h => ?_)
  · obtain ⟨a, ns, rfl, _⟩ := h
    rfl
  · obtain ⟨a, ns, rfl, hS, hlen, k⟩ := h
    have hr1 : Room 1 _ := hr.mono (by decide)
    have hr2 : Room 2 _ := hr.mono (by decide)
    refine ⟨_, PSs.nox (pss_cons (ps_for PassesOwn.never rfl (pi_list (pe_op op_cat (pe_slice sl_list (pv 0) po_none (po_some pe_int)) (pe_lst (pa_cons pe_int pa_nil)))) (pg_name (i := 1) scLaw.nd rfl (Or.inl rfl))
      (pss_cons (ps_asg (pe_call G.oV hr2 rfl G.gV G.kV G.bV .nil pass0 (pa_cons (pe_call G.oS hr1 rfl G.gS G.kS G.bS .nil pass0 (pa_cons (pv 1) pa_nil)) pa_nil)) (pg_unl rfl (pgs_cons (pg_name (i := 2) scLaw.nd rfl (Or.inl rfl)) (pgs_cons (pg_name (i := 3) scLaw.nd rfl (Or.inl rfl)) (pgs_cons (pg_name (i := 4) scLaw.nd rfl (Or.inl rfl)) pgs_nil)))))
      (pss_cons (ps_if (pt_cmpR (op_neW (hu_of hr)) (pe_call G.oK hr rfl G.gK G.kK G.bK .nil pass0 (pa_cons (pv 2) pa_nil)) (pe_op op_rep (pe_lst (pa_cons (pv 2) pa_nil)) pe_int) (nomark _)) (pss_one (ps_ret pe_bl)) pss_nil)
      (pss_cons (ps_if (PW.pt (pw_or (pt_not (pt_val (pe_call G.oP hr rfl G.gP G.kP G.bP .nil pass0 (pa_cons (pv 2) (pa_cons (pv 3) pa_nil))))) (pw_or1 (pt_not (pt_val (pe_call G.oT hr rfl G.gT G.kT G.bT .nil pass0 (pa_cons (pv 2) (pa_cons (pv 3) (pa_cons (pv 4) pa_nil))))))))) (pss_one (ps_ret pe_bl)) pss_nil)
      (pss_cons (ps_set (i := 5) scLaw.nd rfl (Or.inl rfl) (pe_call G.oM hr rfl G.gM G.kM G.bM .nil pass0 (pa_cons (pv 2) (pa_cons (pv 3) (pa_cons (pv 4) pa_nil)))))
      (pss_cons (ps_if (pt_not (pt_val (pe_callB (cr_all rfl) rfl N.all PyProof.Rows.boot_all (pa_cons (pe_lc (own := [("_law_e", 7)]) (g := gName 7) (tt := tYes) rfl scLaw.nd (pi_list (pv 5)) (blkOk_by (N := nLaw) (sc := defScope sLaw) (by decide +kernel))
            (fun _ _ _ _ _ => pg_name (i := 7) scLaw.nd rfl (Or.inl rfl)) (fun _ _ _ _ _ => pts_nil)
            (fun _ _ _ _ _ => pe_and (pe_callB (call_isXK (K := K)) rfl N.isinstance PyProof.Rows.boot_isinstance (pa_cons (pv 7) (pa_cons (pe_glob (v := .ref (He.ga K "TeamError")) rfl T.gT rfl) pa_nil)))
              (pe_one (pe_callB (call_isXK (K := K)) rfl N.isinstance PyProof.Rows.boot_isinstance (pa_cons (pv 7) (pa_cons (pe_bltn (v := .ty "ValueError") rfl N.ve (u := .type "ValueError") (by decide +kernel) rfl) pa_nil)))))) pa_nil)))) (pss_one (ps_ret pe_bl)) pss_nil)
      (pss_cons (ps_setLc (i := 6) (own := [("_law_e", 7)]) (g := gName 7) (tt := tYes) rfl scLaw.nd rfl rfl (sw_true rfl rfl rfl (by decide +kernel)) (pi_list (pv 5)) (blkOk_by (N := nLaw) (sc := defScope sLaw) (by decide +kernel))
            (fun _ _ _ _ _ => pg_name (i := 7) scLaw.nd rfl (Or.inl rfl)) (fun _ _ _ _ _ => pts_nil) (fun _ _ _ _ _ => pe_call G.oC hr1 rfl G.gC G.kC G.bC .nil pass0 (pa_cons (pv 7) pa_nil)))
      (pss_one (ps_if (PW.pt (pw_or (pt_not (pt_val (pe_callB (cr_all rfl) rfl N.all PyProof.Rows.boot_all (pa_cons (pe_lc (own := [("_law_row", 8)]) (g := gName 8) (tt := tYes) rfl scLaw.nd (pi_list (pv 6)) (blkOk_by (N := nLaw) (sc := defScope sLaw) (by decide +kernel))
            (fun _ _ _ _ _ => pg_name (i := 8) scLaw.nd rfl (Or.inl rfl)) (fun _ _ _ _ _ => pts_nil) (fun _ _ _ _ _ => pe_cmpR op_eq (pe_callB (call_lenS (K := K)) rfl N.len PySem.boot_len (pa_cons (pv 8) pa_nil)) pe_int (nomark _))) pa_nil))))
          (pw_or1 (pt_cmpR (op_neW (hu_of hr)) (pe_callB cr_sorted rfl N.sorted PyProof.Rows.boot_sorted (pa_cons (pe_lc (own := [("_law_row", 8)]) (g := gName 8) (tt := tYes) rfl scLaw.nd (pi_list (pv 6)) (blkOk_by (N := nLaw) (sc := defScope sLaw) (by decide +kernel))
            (fun _ _ _ _ _ => pg_name (i := 8) scLaw.nd rfl (Or.inl rfl)) (fun _ _ _ _ _ => pts_nil) (fun _ _ _ _ _ => pe_ix (ix_listK (K := K)) (pv 8) pe_int (fun _ _ => rfl))) pa_nil)) (pe_listRg rfl rfl N.list (prg_1 rfl N.range pe_int)) (nomark _))))) (pss_one (ps_ret pe_bl)) pss_nil)))))))))
      (pss_one (ps_ret pe_bl))), ?_⟩
    refine q_forNLn (xs := cutV (ns.map V.int) none (some 6) ++ [V.int 0]) (el_cat2 (el_sl (ev_var rfl) eo_none (eo_some ev_c) hS) (el_lst (ea_cons ev_c ea_nil) (sm rfl)) (by have := cutV_length (ns.map V.int) none (some 6); rw [List.length_map] at this; simp; omega))
      (fun p i σ' H' => H' p = some (.lst (cutV (ns.map V.int) none (some 6) ++ [V.int 0])) ∧ ∃ o1 o2 o3 o4 o5 o6 o7 o8, σ' = [some (V.ref a), o1, o2, o3, o4, o5, o6, o7, o8])
      (fun p H1 _ _ h1 => ⟨h1, none, none, none, none, none, none, none, none, rfl⟩) (fun p i σ' H' _ h => sq_of h.1) (fun p i x σ' H' hx h => ?_) (fun p σ' H' _ => k _)
    obtain ⟨hp, o1, o2, o3, o4, o5, o6, o7, o8, rfl⟩ := h
    obtain ⟨c, rfl⟩ := at_ints hx
    refine ⟨_, rfl, c, rfl, fun s H1 ns1 e1 hs => ?_⟩
    refine ⟨s, c, c, 0, rfl, hs, by decide, by decide, fun p2 H2 v1 v2 v3 bt hp2 s1 s2 s3 => ?_⟩
    have e2 : Ex H' H2 := fun b o q => bt b o (ne_of_none q ns1) (e1 b o q)
    refine ⟨p2, _, rfl, sq_of hp2, rfl, v1, _, rfl, v2, _, rfl, v3, _, rfl, rfl, ?_⟩
    -- kept
    refine q_when (b := false) (et_test (ev_neW (xs := List.replicate 19 v1) (el_call (vs := [v1]) (ea_cons (ev_var rfl) ea_nil) fun H1 e Q q E => ⟨v1, rfl, fun p H2 hp e2 h => q p H2 hp e2 h⟩) (el_rep (k := 19) (by decide) (el_lst (ea_cons (ev_var rfl) ea_nil) (sm rfl))) (fun x hx => by rw [List.eq_of_mem_replicate hx]; exact s1))) (fun hb => nomatch hb) (fun _ H3 e3 => ?_)
    refine q_when (b := false) (et_is (et_or (et_not (et_B (ev_call (vs := [v1, v2]) (z := .bl true) (ea_cons (ev_var rfl) (ea_cons (ev_var rfl) ea_nil)) fun H1 e Q q E => ⟨v1, v2, rfl, s1, s2, fun H2 e2 => q H2 e2⟩)))
      (fun _ => et_not (et_B (ev_call (vs := [v1, v2, v3]) (z := .bl true) (ea_cons (ev_var rfl) (ea_cons (ev_var rfl) (ea_cons (ev_var rfl) ea_nil))) fun H1 e Q q E => ⟨v1, v2, v3, rfl, s1, s2, s3, fun H2 e2 => q H2 e2⟩)))) rfl) (fun hb => nomatch hb) (fun _ H4 e4 => ?_)
    refine ⟨_, rfl, _, rfl, _, rfl, v1, v2, v3, rfl, fun m es H5 _ e5 hm he => ?_⟩
    have hlen27 : es.length = 27 := (Paired.length he).symm
    -- all are TeamErrors and ValueErrors
    refine q_when (b := false) (et_is (et_not (et_B (ev_all (n := 27) (by
      have q := el_lcL (K := K) (σ := [some (V.ref a), some (V.int c), some v1, some v2, some v3, some (V.ref m), o6, o7, o8]) (H := H5) (tl := tVar 5) (j := 7) (vs := [7]) (t := tYes)
        (te := tAndV (tCB (rIsX K) (tCons (tVar 7) (tCons (tC (.ref (He.ga K "TeamError"))) tNil))) (tCB (rIsX K) (tCons (tVar 7) (tCons (tC (.ty "ValueError")) tNil))))
        (fun _ => true) (fun _ => V.bl true) (ev_var rfl) (sq_of hm) (by omega) (fun _ => rfl) (fun _ _ _ _ _ => fun H1 _ _ q => q H1 (Ex.refl H1)) (fun i x H6 e6 hx _ => by
          obtain ⟨b, j, rfl, hj, hE⟩ := errs_at he hx
          have hj27 := mo_get hj
          exact ev_andV (ev_isX (c := .ref (He.ga K "TeamError")) (cv := .ref (He.ga K "TeamError")) rfl (hE.ex e6) (T.ec j hj27) (fun u r => r) (T.kitT j hj27)) fun _ => ev_isX (c := .ty "ValueError") (cv := .type "ValueError") rfl (hE.ex e6) (T.ec j hj27) (fun u r => r) (T.kitV j hj27))
      rw [given_all, hlen27] at q
      exact q)))) rfl) (fun hb => nomatch hb) (fun _ H6 e6 => ?_)
    -- found
    have hm6 := e6 _ _ hm
    have he6 := Errs.ex e6 he
    refine ⟨_, rfl, m, rfl, ⟨_, sq_of hm6⟩, fun Dl hD => lc_list (K := K) (a := m) (xs := es) (fun i H7 => Ex H6 H7 ∧ ∃ acc, H7 Dl = some (.lst acc) ∧ Ones Dl (mo.take i) acc H7 ∧ acc.length = i)
      ⟨Ex.new hD, [], upd_same, .nil, rfl⟩ (fun i H7 _ h => sq_of (h.1 _ _ hm6)) (fun i x H7 hx h => ?_) (fun H7 h => ?_)⟩
    · obtain ⟨e7, acc, hacc, hon, hal⟩ := h
      obtain ⟨b, j, rfl, hj, hE⟩ := errs_at he6 hx
      have hi : i < 27 := by
        have z := (List.getElem?_eq_some_iff.mp hx).1
        omega
      refine ⟨rfl, yes_ite ?_⟩
      refine ⟨_, rfl, b, j, rfl, hE.ex e7, mo_get hj, fun p3 H8 n8 e8 h8 => ?_⟩
      have hDp : p3 ≠ Dl := fun z => by
        rw [z, hacc] at n8
        cases n8
      refine ⟨acc, e8 _ _ hacc, sz_lt (by omega), (e7.trans e8).mut hD, acc ++ [V.ref p3], upd_same, ?_, by rw [List.length_append, hal]; rfl⟩
      rw [take_more hj]
      refine paired_app (Paired.mapP hon fun j' v' hv => ?_) (.cons ⟨p3, rfl, hDp, by rw [upd_ne hDp]; exact h8⟩ .nil)
      obtain ⟨t, rfl, nt, ht⟩ := hv
      exact ⟨t, rfl, nt, by rw [upd_ne nt]; exact e8 _ _ ht⟩
    · obtain ⟨e7, acc, hacc, hon, hal⟩ := h
      have ho : Ones Dl mo acc H7 := by
        rw [hlen27] at hon
        exact hon
      have q1 := el_lcL (K := K) (σ := [some (V.ref a), some (V.int c), some v1, some v2, some v3, some (V.ref m), some (V.ref Dl), o7, o8]) (H := H7) (tl := tVar 6) (j := 8) (vs := [8]) (t := tYes)
        (te := tOp rEq (tCB (rLenQ K) (tCons (tVar 8) tNil)) (tC (.int 1))) (fun _ => true) (fun _ => V.bl true) (ev_var rfl) (sq_of hacc) (by omega) (fun _ => rfl) (fun _ _ _ _ _ => fun H1 _ _ q => q H1 (Ex.refl H1)) (fun i x H8 e8 hx _ => by
          obtain ⟨t, j, rfl, hj, ht⟩ := ones_at ho hx
          exact ev_is (ev_op (ev_len (ev_var rfl) (sq_of (e8 _ _ ht))) ev_c (rv_eq rfl)) (congrArg V.bl (decide_eq_true rfl)))
      have q2 := el_lcL (K := K) (σ := [some (V.ref a), some (V.int c), some v1, some v2, some v3, some (V.ref m), some (V.ref Dl), o7, o8]) (H := H7) (tl := tVar 6) (j := 8) (vs := [8]) (t := tYes)
        (te := tOp (rIxL K) (tVar 8) (tC (.int 0))) (fun _ => true) (fun i => V.int ((mo.getD i 0 : Nat) : Int)) (ev_var rfl) (sq_of hacc) (by omega) (fun _ => rfl) (fun _ _ _ _ _ => fun H1 _ _ q => q H1 (Ex.refl H1)) (fun i x H8 e8 hx _ => by
          obtain ⟨t, j, rfl, hj, ht⟩ := ones_at ho hx
          have ej : mo.getD i 0 = j := by
            rw [List.getD_eq_getElem?_getD, hj]
            rfl
          rw [ej]
          exact ev_op (ev_var rfl) ev_c (rv_ixL (sq_of (e8 _ _ ht)) (atI_nat (j := 0) rfl)))
      rw [given_all, hal, hlen27] at q1 q2
      rw [mo_ints] at q2
      refine nm ?_
      dsimp only [List.set]
      refine s_when (b := false) (et_is (et_or (et_not (et_B (ev_all (n := 27) q1))) (fun _ => et_test (ev_neW (xs := ids.map V.int) (el_sorted q2) el_rg ids_safe))) rfl) (fun hb => nomatch hb) (fun _ H8 e8 => ?_)
      exact ⟨e8 _ _ (e7 _ _ (e6 _ _ (e5 _ _ (e4 _ _ (e3 _ _ (e2 _ _ hp)))))), _, _, _, _, _, _, _, _, rfl⟩
end

end K4


namespace K4
open PySem PySem.Spec PyProof.Rows L2 Evl Xo
/-! ### the inits -/
section
variable {P : Program} {w : World} {K : PySem.W.Frag} {mg : Str → Option Value} {base : Heap} {f C : Addr} {fd : FuncData}
abbrev i0 : Stmt := inClass (top 2) 0
theorem sc0 : FnScope ["self", "value"] ["self", "value"] (defScope i0) := ⟨rfl, rfl, rfl, by decide +kernel, rfl, by decide +kernel, by decide +kernel⟩
theorem ok0 (F : FunD K "__init__" "BadSizes.__init__" (defArgs i0) (defBody i0) (defScope i0) [] [] f fd) (O : OexC K C) (n0 : PySem.W.findIn K (.ref C) "value" = some none) : FnOk P w K mg base CX0 1 f fd ["self", "value"] (spInit C ["value"]) := by
  refine F.ok sc0 (fun vs H Q E h => ?_) (fun cdv A outer st H vs Q E hr h => ?_)
  · obtain ⟨a, ws, rfl, hl, _⟩ := h
    exact congrArg Nat.succ hl
  · exact ⟨_, PSs.nox (pss_one (ps_ost (pv 0) (pv 1))), init1 O n0 h rfl⟩
abbrev i1 : Stmt := inClass (top 3) 0
theorem sc1 : FnScope ["self", "value"] ["self", "value"] (defScope i1) := ⟨rfl, rfl, rfl, by decide +kernel, rfl, by decide +kernel, by decide +kernel⟩
theorem ok1 (F : FunD K "__init__" "BadPeople.__init__" (defArgs i1) (defBody i1) (defScope i1) [] [] f fd) (O : OexC K C) (n0 : PySem.W.findIn K (.ref C) "value" = some none) : FnOk P w K mg base CX0 1 f fd ["self", "value"] (spInit C ["value"]) := by
  refine F.ok sc1 (fun vs H Q E h => ?_) (fun cdv A outer st H vs Q E hr h => ?_)
  · obtain ⟨a, ws, rfl, hl, _⟩ := h
    exact congrArg Nat.succ hl
  · exact ⟨_, PSs.nox (pss_one (ps_ost (pv 0) (pv 1))), init1 O n0 h rfl⟩
abbrev i2 : Stmt := inClass (top 4) 0
theorem sc2 : FnScope ["self", "value"] ["self", "value"] (defScope i2) := ⟨rfl, rfl, rfl, by decide +kernel, rfl, by decide +kernel, by decide +kernel⟩
theorem ok2 (F : FunD K "__init__" "BadGames.__init__" (defArgs i2) (defBody i2) (defScope i2) [] [] f fd) (O : OexC K C) (n0 : PySem.W.findIn K (.ref C) "value" = some none) : FnOk P w K mg base CX0 1 f fd ["self", "value"] (spInit C ["value"]) := by
  refine F.ok sc2 (fun vs H Q E h => ?_) (fun cdv A outer st H vs Q E hr h => ?_)
  · obtain ⟨a, ws, rfl, hl, _⟩ := h
    exact congrArg Nat.succ hl
  · exact ⟨_, PSs.nox (pss_one (ps_ost (pv 0) (pv 1))), init1 O n0 h rfl⟩
abbrev i3 : Stmt := inClass (top 5) 0
theorem sc3 : FnScope ["self", "count"] ["self", "count"] (defScope i3) := ⟨rfl, rfl, rfl, by decide +kernel, rfl, by decide +kernel, by decide +kernel⟩
theorem ok3 (F : FunD K "__init__" "TooMany.__init__" (defArgs i3) (defBody i3) (defScope i3) [] [] f fd) (O : OexC K C) (n0 : PySem.W.findIn K (.ref C) "count" = some none) : FnOk P w K mg base CX0 1 f fd ["self", "count"] (spInit C ["count"]) := by
  refine F.ok sc3 (fun vs H Q E h => ?_) (fun cdv A outer st H vs Q E hr h => ?_)
  · obtain ⟨a, ws, rfl, hl, _⟩ := h
    exact congrArg Nat.succ hl
  · exact ⟨_, PSs.nox (pss_one (ps_ost (pv 0) (pv 1))), init1 O n0 h rfl⟩
abbrev i4 : Stmt := inClass (top 6) 0
theorem sc4 : FnScope ["self", "value"] ["self", "value"] (defScope i4) := ⟨rfl, rfl, rfl, by decide +kernel, rfl, by decide +kernel, by decide +kernel⟩
theorem ok4 (F : FunD K "__init__" "BadPerson.__init__" (defArgs i4) (defBody i4) (defScope i4) [] [] f fd) (O : OexC K C) (n0 : PySem.W.findIn K (.ref C) "value" = some none) : FnOk P w K mg base CX0 1 f fd ["self", "value"] (spInit C ["value"]) := by
  refine F.ok sc4 (fun vs H Q E h => ?_) (fun cdv A outer st H vs Q E hr h => ?_)
  · obtain ⟨a, ws, rfl, hl, _⟩ := h
    exact congrArg Nat.succ hl
  · exact ⟨_, PSs.nox (pss_one (ps_ost (pv 0) (pv 1))), init1 O n0 h rfl⟩
abbrev i5 : Stmt := inClass (top 7) 0
theorem sc5 : FnScope ["self", "value"] ["self", "value"] (defScope i5) := ⟨rfl, rfl, rfl, by decide +kernel, rfl, by decide +kernel, by decide +kernel⟩
theorem ok5 (F : FunD K "__init__" "BadTeam.__init__" (defArgs i5) (defBody i5) (defScope i5) [] [] f fd) (O : OexC K C) (n0 : PySem.W.findIn K (.ref C) "value" = some none) : FnOk P w K mg base CX0 1 f fd ["self", "value"] (spInit C ["value"]) := by
  refine F.ok sc5 (fun vs H Q E h => ?_) (fun cdv A outer st H vs Q E hr h => ?_)
  · obtain ⟨a, ws, rfl, hl, _⟩ := h
    exact congrArg Nat.succ hl
  · exact ⟨_, PSs.nox (pss_one (ps_ost (pv 0) (pv 1))), init1 O n0 h rfl⟩
abbrev i6 : Stmt := inClass (top 8) 0
theorem sc6 : FnScope ["self", "value"] ["self", "value"] (defScope i6) := ⟨rfl, rfl, rfl, by decide +kernel, rfl, by decide +kernel, by decide +kernel⟩
theorem ok6 (F : FunD K "__init__" "BadKind.__init__" (defArgs i6) (defBody i6) (defScope i6) [] [] f fd) (O : OexC K C) (n0 : PySem.W.findIn K (.ref C) "value" = some none) : FnOk P w K mg base CX0 1 f fd ["self", "value"] (spInit C ["value"]) := by
  refine F.ok sc6 (fun vs H Q E h => ?_) (fun cdv A outer st H vs Q E hr h => ?_)
  · obtain ⟨a, ws, rfl, hl, _⟩ := h
    exact congrArg Nat.succ hl
  · exact ⟨_, PSs.nox (pss_one (ps_ost (pv 0) (pv 1))), init1 O n0 h rfl⟩
abbrev i7 : Stmt := inClass (top 9) 0
theorem sc7 : FnScope ["self", "value"] ["self", "value"] (defScope i7) := ⟨rfl, rfl, rfl, by decide +kernel, rfl, by decide +kernel, by decide +kernel⟩
theorem ok7 (F : FunD K "__init__" "BadRounds.__init__" (defArgs i7) (defBody i7) (defScope i7) [] [] f fd) (O : OexC K C) (n0 : PySem.W.findIn K (.ref C) "value" = some none) : FnOk P w K mg base CX0 1 f fd ["self", "value"] (spInit C ["value"]) := by
  refine F.ok sc7 (fun vs H Q E h => ?_) (fun cdv A outer st H vs Q E hr h => ?_)
  · obtain ⟨a, ws, rfl, hl, _⟩ := h
    exact congrArg Nat.succ hl
  · exact ⟨_, PSs.nox (pss_one (ps_ost (pv 0) (pv 1))), init1 O n0 h rfl⟩
abbrev i8 : Stmt := inClass (top 10) 0
theorem sc8 : FnScope ["self", "value"] ["self", "value"] (defScope i8) := ⟨rfl, rfl, rfl, by decide +kernel, rfl, by decide +kernel, by decide +kernel⟩
theorem ok8 (F : FunD K "__init__" "BadRound.__init__" (defArgs i8) (defBody i8) (defScope i8) [] [] f fd) (O : OexC K C) (n0 : PySem.W.findIn K (.ref C) "value" = some none) : FnOk P w K mg base CX0 1 f fd ["self", "value"] (spInit C ["value"]) := by
  refine F.ok sc8 (fun vs H Q E h => ?_) (fun cdv A outer st H vs Q E hr h => ?_)
  · obtain ⟨a, ws, rfl, hl, _⟩ := h
    exact congrArg Nat.succ hl
  · exact ⟨_, PSs.nox (pss_one (ps_ost (pv 0) (pv 1))), init1 O n0 h rfl⟩
abbrev i9 : Stmt := inClass (top 11) 0
theorem sc9 : FnScope ["self", "value"] ["self", "value"] (defScope i9) := ⟨rfl, rfl, rfl, by decide +kernel, rfl, by decide +kernel, by decide +kernel⟩
theorem ok9 (F : FunD K "__init__" "BadNumber.__init__" (defArgs i9) (defBody i9) (defScope i9) [] [] f fd) (O : OexC K C) (n0 : PySem.W.findIn K (.ref C) "value" = some none) : FnOk P w K mg base CX0 1 f fd ["self", "value"] (spInit C ["value"]) := by
  refine F.ok sc9 (fun vs H Q E h => ?_) (fun cdv A outer st H vs Q E hr h => ?_)
  · obtain ⟨a, ws, rfl, hl, _⟩ := h
    exact congrArg Nat.succ hl
  · exact ⟨_, PSs.nox (pss_one (ps_ost (pv 0) (pv 1))), init1 O n0 h rfl⟩
abbrev i10 : Stmt := inClass (top 12) 0
theorem sc10 : FnScope ["self", "value"] ["self", "value"] (defScope i10) := ⟨rfl, rfl, rfl, by decide +kernel, rfl, by decide +kernel, by decide +kernel⟩
theorem ok10 (F : FunD K "__init__" "BadIndex.__init__" (defArgs i10) (defBody i10) (defScope i10) [] [] f fd) (O : OexC K C) (n0 : PySem.W.findIn K (.ref C) "value" = some none) : FnOk P w K mg base CX0 1 f fd ["self", "value"] (spInit C ["value"]) := by
  refine F.ok sc10 (fun vs H Q E h => ?_) (fun cdv A outer st H vs Q E hr h => ?_)
  · obtain ⟨a, ws, rfl, hl, _⟩ := h
    exact congrArg Nat.succ hl
  · exact ⟨_, PSs.nox (pss_one (ps_ost (pv 0) (pv 1))), init1 O n0 h rfl⟩
abbrev i11 : Stmt := inClass (top 13) 0
theorem sc11 : FnScope ["self", "value"] ["self", "value"] (defScope i11) := ⟨rfl, rfl, rfl, by decide +kernel, rfl, by decide +kernel, by decide +kernel⟩
theorem ok11 (F : FunD K "__init__" "BadClasses.__init__" (defArgs i11) (defBody i11) (defScope i11) [] [] f fd) (O : OexC K C) (n0 : PySem.W.findIn K (.ref C) "value" = some none) : FnOk P w K mg base CX0 1 f fd ["self", "value"] (spInit C ["value"]) := by
  refine F.ok sc11 (fun vs H Q E h => ?_) (fun cdv A outer st H vs Q E hr h => ?_)
  · obtain ⟨a, ws, rfl, hl, _⟩ := h
    exact congrArg Nat.succ hl
  · exact ⟨_, PSs.nox (pss_one (ps_ost (pv 0) (pv 1))), init1 O n0 h rfl⟩
abbrev i12 : Stmt := inClass (top 14) 0
theorem sc12 : FnScope ["self", "line"] ["self", "line"] (defScope i12) := ⟨rfl, rfl, rfl, by decide +kernel, rfl, by decide +kernel, by decide +kernel⟩
theorem ok12 (F : FunD K "__init__" "BadText.__init__" (defArgs i12) (defBody i12) (defScope i12) [] [] f fd) (O : OexC K C) (n0 : PySem.W.findIn K (.ref C) "line" = some none) : FnOk P w K mg base CX0 1 f fd ["self", "line"] (spInit C ["line"]) := by
  refine F.ok sc12 (fun vs H Q E h => ?_) (fun cdv A outer st H vs Q E hr h => ?_)
  · obtain ⟨a, ws, rfl, hl, _⟩ := h
    exact congrArg Nat.succ hl
  · exact ⟨_, PSs.nox (pss_one (ps_ost (pv 0) (pv 1))), init1 O n0 h rfl⟩
abbrev i13 : Stmt := inClass (top 15) 0
theorem sc13 : FnScope ["self", "team", "count"] ["self", "team", "count"] (defScope i13) := ⟨rfl, rfl, rfl, by decide +kernel, rfl, by decide +kernel, by decide +kernel⟩
theorem ok13 (F : FunD K "__init__" "WrongTimes.__init__" (defArgs i13) (defBody i13) (defScope i13) [] [] f fd) (O : OexC K C) (n0 : PySem.W.findIn K (.ref C) "team" = some none) (n1 : PySem.W.findIn K (.ref C) "count" = some none) : FnOk P w K mg base CX0 1 f fd ["self", "team", "count"] (spInit C ["team", "count"]) := by
  refine F.ok sc13 (fun vs H Q E h => ?_) (fun cdv A outer st H vs Q E hr h => ?_)
  · obtain ⟨a, ws, rfl, hl, _⟩ := h
    exact congrArg Nat.succ hl
  · exact ⟨_, PSs.nox (pss_cons (ps_ost (pv 0) (pv 1)) (pss_one (ps_ost (pv 0) (pv 2)))), init2 O n0 n1 h rfl⟩
abbrev i14 : Stmt := inClass (top 16) 0
theorem sc14 : FnScope ["self", "kind", "told", "due"] ["self", "kind", "told", "due"] (defScope i14) := ⟨rfl, rfl, rfl, by decide +kernel, rfl, by decide +kernel, by decide +kernel⟩
theorem ok14 (F : FunD K "__init__" "NotAdding.__init__" (defArgs i14) (defBody i14) (defScope i14) [] [] f fd) (O : OexC K C) (n0 : PySem.W.findIn K (.ref C) "kind" = some none) (n1 : PySem.W.findIn K (.ref C) "told" = some none) (n2 : PySem.W.findIn K (.ref C) "due" = some none) : FnOk P w K mg base CX0 1 f fd ["self", "kind", "told", "due"] (spInit C ["kind", "told", "due"]) := by
  refine F.ok sc14 (fun vs H Q E h => ?_) (fun cdv A outer st H vs Q E hr h => ?_)
  · obtain ⟨a, ws, rfl, hl, _⟩ := h
    exact congrArg Nat.succ hl
  · exact ⟨_, PSs.nox (pss_cons (ps_ost (pv 0) (pv 1)) (pss_cons (ps_ost (pv 0) (pv 2)) (pss_one (ps_ost (pv 0) (pv 3))))), init3 O n0 n1 n2 h rfl⟩
abbrev i15 : Stmt := inClass (top 17) 0
theorem sc15 : FnScope ["self", "column"] ["self", "column"] (defScope i15) := ⟨rfl, rfl, rfl, by decide +kernel, rfl, by decide +kernel, by decide +kernel⟩
theorem ok15 (F : FunD K "__init__" "BadShares.__init__" (defArgs i15) (defBody i15) (defScope i15) [] [] f fd) (O : OexC K C) (n0 : PySem.W.findIn K (.ref C) "column" = some none) : FnOk P w K mg base CX0 1 f fd ["self", "column"] (spInit C ["column"]) := by
  refine F.ok sc15 (fun vs H Q E h => ?_) (fun cdv A outer st H vs Q E hr h => ?_)
  · obtain ⟨a, ws, rfl, hl, _⟩ := h
    exact congrArg Nat.succ hl
  · exact ⟨_, PSs.nox (pss_one (ps_ost (pv 0) (pv 1))), init1 O n0 h rfl⟩
abbrev i16 : Stmt := inClass (top 18) 0
theorem sc16 : FnScope ["self", "index"] ["self", "index"] (defScope i16) := ⟨rfl, rfl, rfl, by decide +kernel, rfl, by decide +kernel, by decide +kernel⟩
theorem ok16 (F : FunD K "__init__" "Alone.__init__" (defArgs i16) (defBody i16) (defScope i16) [] [] f fd) (O : OexC K C) (n0 : PySem.W.findIn K (.ref C) "index" = some none) : FnOk P w K mg base CX0 1 f fd ["self", "index"] (spInit C ["index"]) := by
  refine F.ok sc16 (fun vs H Q E h => ?_) (fun cdv A outer st H vs Q E hr h => ?_)
  · obtain ⟨a, ws, rfl, hl, _⟩ := h
    exact congrArg Nat.succ hl
  · exact ⟨_, PSs.nox (pss_one (ps_ost (pv 0) (pv 1))), init1 O n0 h rfl⟩
abbrev i17 : Stmt := inClass (top 19) 0
theorem sc17 : FnScope ["self", "size", "told", "due"] ["self", "size", "told", "due"] (defScope i17) := ⟨rfl, rfl, rfl, by decide +kernel, rfl, by decide +kernel, by decide +kernel⟩
theorem ok17 (F : FunD K "__init__" "WrongSum.__init__" (defArgs i17) (defBody i17) (defScope i17) [] [] f fd) (O : OexC K C) (n0 : PySem.W.findIn K (.ref C) "size" = some none) (n1 : PySem.W.findIn K (.ref C) "told" = some none) (n2 : PySem.W.findIn K (.ref C) "due" = some none) : FnOk P w K mg base CX0 1 f fd ["self", "size", "told", "due"] (spInit C ["size", "told", "due"]) := by
  refine F.ok sc17 (fun vs H Q E h => ?_) (fun cdv A outer st H vs Q E hr h => ?_)
  · obtain ⟨a, ws, rfl, hl, _⟩ := h
    exact congrArg Nat.succ hl
  · exact ⟨_, PSs.nox (pss_cons (ps_ost (pv 0) (pv 1)) (pss_cons (ps_ost (pv 0) (pv 2)) (pss_one (ps_ost (pv 0) (pv 3))))), init3 O n0 n1 n2 h rfl⟩
abbrev i18 : Stmt := inClass (top 20) 0
theorem sc18 : FnScope ["self", "count", "team"] ["self", "count", "team"] (defScope i18) := ⟨rfl, rfl, rfl, by decide +kernel, rfl, by decide +kernel, by decide +kernel⟩
theorem ok18 (F : FunD K "__init__" "NotFull.__init__" (defArgs i18) (defBody i18) (defScope i18) [] [] f fd) (O : OexC K C) (n0 : PySem.W.findIn K (.ref C) "count" = some none) (n1 : PySem.W.findIn K (.ref C) "team" = some none) : FnOk P w K mg base CX0 1 f fd ["self", "count", "team"] (spInit C ["count", "team"]) := by
  refine F.ok sc18 (fun vs H Q E h => ?_) (fun cdv A outer st H vs Q E hr h => ?_)
  · obtain ⟨a, ws, rfl, hl, _⟩ := h
    exact congrArg Nat.succ hl
  · exact ⟨_, PSs.nox (pss_cons (ps_ost (pv 0) (pv 1)) (pss_one (ps_ost (pv 0) (pv 2)))), init2 O n0 n1 h rfl⟩
abbrev i19 : Stmt := inClass (top 21) 0
theorem sc19 : FnScope ["self", "wanted", "there"] ["self", "wanted", "there"] (defScope i19) := ⟨rfl, rfl, rfl, by decide +kernel, rfl, by decide +kernel, by decide +kernel⟩
theorem ok19 (F : FunD K "__init__" "NoGrowth.__init__" (defArgs i19) (defBody i19) (defScope i19) [] [] f fd) (O : OexC K C) (n0 : PySem.W.findIn K (.ref C) "wanted" = some none) (n1 : PySem.W.findIn K (.ref C) "there" = some none) : FnOk P w K mg base CX0 1 f fd ["self", "wanted", "there"] (spInit C ["wanted", "there"]) := by
  refine F.ok sc19 (fun vs H Q E h => ?_) (fun cdv A outer st H vs Q E hr h => ?_)
  · obtain ⟨a, ws, rfl, hl, _⟩ := h
    exact congrArg Nat.succ hl
  · exact ⟨_, PSs.nox (pss_cons (ps_ost (pv 0) (pv 1)) (pss_one (ps_ost (pv 0) (pv 2)))), init2 O n0 n1 h rfl⟩
abbrev i20 : Stmt := inClass (top 22) 0
theorem sc20 : FnScope ["self", "at"] ["self", "at"] (defScope i20) := ⟨rfl, rfl, rfl, by decide +kernel, rfl, by decide +kernel, by decide +kernel⟩
theorem ok20 (F : FunD K "__init__" "BadPairs.__init__" (defArgs i20) (defBody i20) (defScope i20) [] [] f fd) (O : OexC K C) (n0 : PySem.W.findIn K (.ref C) "at" = some none) : FnOk P w K mg base CX0 1 f fd ["self", "at"] (spInit C ["at"]) := by
  refine F.ok sc20 (fun vs H Q E h => ?_) (fun cdv A outer st H vs Q E hr h => ?_)
  · obtain ⟨a, ws, rfl, hl, _⟩ := h
    exact congrArg Nat.succ hl
  · exact ⟨_, PSs.nox (pss_one (ps_ost (pv 0) (pv 1))), init1 O n0 h rfl⟩
abbrev i21 : Stmt := inClass (top 23) 0
theorem sc21 : FnScope ["self", "at", "told", "least"] ["self", "at", "told", "least"] (defScope i21) := ⟨rfl, rfl, rfl, by decide +kernel, rfl, by decide +kernel, by decide +kernel⟩
theorem ok21 (F : FunD K "__init__" "ShortRound.__init__" (defArgs i21) (defBody i21) (defScope i21) [] [] f fd) (O : OexC K C) (n0 : PySem.W.findIn K (.ref C) "at" = some none) (n1 : PySem.W.findIn K (.ref C) "told" = some none) (n2 : PySem.W.findIn K (.ref C) "least" = some none) : FnOk P w K mg base CX0 1 f fd ["self", "at", "told", "least"] (spInit C ["at", "told", "least"]) := by
  refine F.ok sc21 (fun vs H Q E h => ?_) (fun cdv A outer st H vs Q E hr h => ?_)
  · obtain ⟨a, ws, rfl, hl, _⟩ := h
    exact congrArg Nat.succ hl
  · exact ⟨_, PSs.nox (pss_cons (ps_ost (pv 0) (pv 1)) (pss_cons (ps_ost (pv 0) (pv 2)) (pss_one (ps_ost (pv 0) (pv 3))))), init3 O n0 n1 n2 h rfl⟩
abbrev i22 : Stmt := inClass (top 24) 0
theorem sc22 : FnScope ["self", "paper"] ["self", "paper"] (defScope i22) := ⟨rfl, rfl, rfl, by decide +kernel, rfl, by decide +kernel, by decide +kernel⟩
theorem ok22 (F : FunD K "__init__" "Crowded.__init__" (defArgs i22) (defBody i22) (defScope i22) [] [] f fd) (O : OexC K C) (n0 : PySem.W.findIn K (.ref C) "paper" = some none) : FnOk P w K mg base CX0 1 f fd ["self", "paper"] (spInit C ["paper"]) := by
  refine F.ok sc22 (fun vs H Q E h => ?_) (fun cdv A outer st H vs Q E hr h => ?_)
  · obtain ⟨a, ws, rfl, hl, _⟩ := h
    exact congrArg Nat.succ hl
  · exact ⟨_, PSs.nox (pss_one (ps_ost (pv 0) (pv 1))), init1 O n0 h rfl⟩
abbrev i23 : Stmt := inClass (top 25) 0
theorem sc23 : FnScope ["self", "value"] ["self", "value"] (defScope i23) := ⟨rfl, rfl, rfl, by decide +kernel, rfl, by decide +kernel, by decide +kernel⟩
theorem ok23 (F : FunD K "__init__" "BadCost.__init__" (defArgs i23) (defBody i23) (defScope i23) [] [] f fd) (O : OexC K C) (n0 : PySem.W.findIn K (.ref C) "value" = some none) : FnOk P w K mg base CX0 1 f fd ["self", "value"] (spInit C ["value"]) := by
  refine F.ok sc23 (fun vs H Q E h => ?_) (fun cdv A outer st H vs Q E hr h => ?_)
  · obtain ⟨a, ws, rfl, hl, _⟩ := h
    exact congrArg Nat.succ hl
  · exact ⟨_, PSs.nox (pss_one (ps_ost (pv 0) (pv 1))), init1 O n0 h rfl⟩
abbrev i24 : Stmt := inClass (top 26) 0
theorem sc24 : FnScope ["self", "line"] ["self", "line"] (defScope i24) := ⟨rfl, rfl, rfl, by decide +kernel, rfl, by decide +kernel, by decide +kernel⟩
theorem ok24 (F : FunD K "__init__" "BadWish.__init__" (defArgs i24) (defBody i24) (defScope i24) [] [] f fd) (O : OexC K C) (n0 : PySem.W.findIn K (.ref C) "line" = some none) : FnOk P w K mg base CX0 1 f fd ["self", "line"] (spInit C ["line"]) := by
  refine F.ok sc24 (fun vs H Q E h => ?_) (fun cdv A outer st H vs Q E hr h => ?_)
  · obtain ⟨a, ws, rfl, hl, _⟩ := h
    exact congrArg Nat.succ hl
  · exact ⟨_, PSs.nox (pss_one (ps_ost (pv 0) (pv 1))), init1 O n0 h rfl⟩
end
/-! ### what the top has written -/
open PySem.W (Frag) in
def clsB (K : Frag) (x : Str) (fs : List Str) : Bool := xoB K (He.ga K x) (He.ga K "TeamError") && (He.eqO (PySem.W.findIn K (.ref (He.ga K x)) "__setattr__") (some (some (.builtin "object.__setattr__"))) &&
  (He.eqO (PySem.W.findIn K (.ref (He.ga K x)) "__getattribute__") (some (some (.builtin "BaseException.__getattribute__"))) && (He.eqO (PySem.W.findIn K (.ref (He.ga K x)) "__getattr__") (some none) &&
  (He.eqO (PySem.W.findIn K (.ref (He.ga K x)) "__class__") (some (some (.builtin "object.__class__"))) && (PySem.W.keepIn K (.ref (He.ga K x)) && fs.all fun f => He.eqO (PySem.W.findIn K (.ref (He.ga K x)) f) (some none))))))
open PySem.W (Frag) in
def iniB (K : Frag) (x : Str) : Bool := He.eqO (PySem.W.findIn K (.ref (He.ga K x)) "__init__") (some (some (.ref (He.ma K (He.ga K x) "__init__")))) && decide (PySem.W.typeIn K (.ref (He.ma K (He.ga K x) "__init__")) = some (.type "function"))
def ndB : List Nat → Bool
  | [] => true
  | a :: r => r.all (fun b => !(Nat.beq a b)) && ndB r
open PySem.W (Frag) in
def genB (K : Frag) : Bool := decide (PySem.W.specialIn K (.builtin "object.__class__") "__get__" = some (some (.builtin "getset_descriptor.__get__"))) && (decide (PySem.W.takesIn K (.builtin "object.__class__") = some true) &&
  (ndB (He.ga K "TeamError" :: cn.map (He.ga K)) && cn.all fun x => decide (PySem.W.kitOne K (.ref (He.ga K x)) (.ref (He.ga K "TeamError")) = some true) && decide (PySem.W.kitOne K (.ref (He.ga K x)) (.type "ValueError") = some true)))
def ffs : List (Str × List Str) := [("BadSizes", ["value"]), ("BadPeople", ["value"]), ("BadGames", ["value"]), ("TooMany", ["count"]), ("BadPerson", ["value"]), ("BadTeam", ["value"]), ("BadKind", ["value"]), ("BadRounds", ["value"]), ("BadRound", ["value"]), ("BadNumber", ["value"]), ("BadIndex", ["value"]), ("BadClasses", ["value"]), ("BadText", ["line"]), ("WrongTimes", ["team", "count"]), ("NotAdding", ["kind", "told", "due"]), ("BadShares", ["column"]), ("Alone", ["index"]), ("WrongSum", ["size", "told", "due"]), ("NotFull", ["count", "team"]), ("NoGrowth", ["wanted", "there"]), ("BadPairs", ["at"]), ("ShortRound", ["at", "told", "least"]), ("Crowded", ["paper"]), ("BadCost", ["value"]), ("BadWish", ["line"]), ("UnlikePeople", []), ("NothingToUndo", [])]
open PySem.W (Frag) in
def myB (K : Frag) : Bool := genB K && (ffs.all (fun q => clsB K q.1 q.2) && (ffs.take 25).all (fun q => iniB K q.1))
theorem ndB_at : ∀ {l : List Nat} {i j x y : Nat}, ndB l = true → i < j → l[i]? = some x → l[j]? = some y → x ≠ y
  | [], i, j, x, y, _, _, h, _ => by simp at h
  | a :: r, 0, 0, x, y, _, hij, _, _ => absurd hij (Nat.lt_irrefl _)
  | a :: r, 0, j + 1, x, y, h, _, hx, hy => by
    obtain ⟨h1, _⟩ := He.ba (show (r.all (fun b => !(Nat.beq a b)) && ndB r) = true from h)
    have e : a = x := Option.some.inj hx
    subst e
    have hy' : r[j]? = some y := by simpa using hy
    have z := List.all_eq_true.mp h1 y (List.mem_of_getElem? hy')
    intro e
    subst e
    have z2 : (!(Nat.beq a a)) = true := z
    rw [Nat.beq_refl] at z2
    cases z2
  | a :: r, i + 1, 0, x, y, _, hij, _, _ => absurd hij (Nat.not_lt_zero _)
  | a :: r, i + 1, j + 1, x, y, h, hij, hx, hy => by
    obtain ⟨_, h2⟩ := He.ba (show (r.all (fun b => !(Nat.beq a b)) && ndB r) = true from h)
    exact ndB_at h2 (Nat.lt_of_succ_lt_succ hij) (by simpa using hx) (by simpa using hy)
section
variable {K : PySem.W.Frag}
theorem cn_at {j : Nat} (h : j < 27) : (cn.map (He.ga K))[j]? = some (cA K j) := by
  have hl : j < cn.length := h
  rw [List.getElem?_map, List.getElem?_eq_getElem hl]
  show some (He.ga K cn[j]) = some (He.ga K (cn.getD j ""))
  rw [List.getD_eq_getElem?_getD, List.getElem?_eq_getElem hl]
  rfl
theorem cA_ne (h : ndB (He.ga K "TeamError" :: cn.map (He.ga K)) = true) {i j : Nat} (hi : i < 27) (hj : j < 27) (n : i ≠ j) : cA K i ≠ cA K j := by
  obtain ⟨_, h2⟩ := He.ba (show ((cn.map (He.ga K)).all (fun b => !(Nat.beq (He.ga K "TeamError") b)) && ndB (cn.map (He.ga K))) = true from h)
  rcases Nat.lt_or_gt_of_ne n with q | q
  · exact ndB_at h2 q (cn_at hi) (cn_at hj)
  · exact (ndB_at h2 q (cn_at hj) (cn_at hi)).symm
theorem cA_neT (h : ndB (He.ga K "TeamError" :: cn.map (He.ga K)) = true) {i : Nat} (hi : i < 27) : He.ga K "TeamError" ≠ cA K i :=
  ndB_at (i := 0) (j := i + 1) h (Nat.succ_pos _) rfl (by
    show (cn.map (He.ga K))[i]? = _
    exact cn_at hi)
/-- a class's object, and what follows from it -/
theorem xo_cls {C CT : Addr} (q : xoB K C CT = true) : ∃ cd, PySem.W.clsIn K C = some cd ∧ cd.mro = .ref C :: .ref CT :: PySem.HandSPX.veTail ∧ cd.hasDict = true ∧ PySem.W.typeIn K (.ref C) = some (.type "type") := by
  obtain ⟨nm, qn, N, bs, sn, sub, ab, col, dd, k0, k1, k2, k3, k5, h⟩ := xoB_ok q
  refine ⟨{ name := nm, bases := bs, mro := .ref C :: .ref CT :: PySem.HandSPX.veTail, ns := N, qualname := qn, hasDict := true, slotNames := sn, subclasses := sub, abstract := ab, collection := col, hasDel := false }, ?_, rfl, rfl, ?_⟩
  · unfold PySem.W.clsIn
    rw [h] <;> rfl
  · show (K.lookup C).map (·.cls) = _
    rw [h] <;> rfl
theorem xo_mro {C CT : Addr} (q : xoB K C CT = true) (b : Value) : PySem.W.mroIn K C b = some ((.ref C :: .ref CT :: PySem.HandSPX.veTail : List Value).contains b) := by
  obtain ⟨cd, h1, h2, _⟩ := xo_cls q
  unfold PySem.W.mroIn
  rw [h1, Option.bind_some, h2]
  rfl
theorem xo_dict {C CT : Addr} (q : xoB K C CT = true) : PySem.W.hasDictIn K C = true := by
  obtain ⟨cd, h1, _, h3, _⟩ := xo_cls q
  unfold PySem.W.hasDictIn
  rw [h1]
  show cd.hasDict = true
  exact h3
theorem xo_type {C CT : Addr} (q : xoB K C CT = true) : PySem.W.typeIn K (.ref C) = some (.type "type") := by
  obtain ⟨cd, _, _, _, h⟩ := xo_cls q
  exact h
theorem xo_exc {C CT : Addr} (q : xoB K C CT = true) : PySem.W.subIn K (.ref C) (.type "BaseException") = some true := (xo_mro q _).trans (by
  rw [List.contains_cons, List.contains_cons, show PySem.HandSPX.veTail.contains (Value.type "BaseException") = true by decide +kernel]
  rw [Bool.or_true, Bool.or_true])
theorem xo_obj {C CT : Addr} (q : xoB K C CT = true) : PySem.W.mroIn K C (.type "object") = some true := (xo_mro q _).trans (by
  rw [List.contains_cons, List.contains_cons, show PySem.HandSPX.veTail.contains (Value.type "object") = true by decide +kernel]
  rw [Bool.or_true, Bool.or_true])
theorem ve_noref (C : Addr) : PySem.HandSPX.veTail.contains (Value.ref C) = false := rfl
theorem kit_self {C CT : Addr} : PySem.W.kitOne K (.ref C) (.ref C) = some true := by
  unfold PySem.W.kitOne
  rw [if_pos (beq_self_eq_true _)]
theorem kit_not {C C2 CT : Addr} (q : xoB K C CT = true) (q2 : xoB K C2 CT = true) (n : C ≠ C2) (nT : CT ≠ C2) : PySem.W.kitOne K (.ref C) (.ref C2) = some false := by
  have nb : ((Value.ref C : Value) == .ref C2) = false := by
    rw [beq_eq_false_iff_ne]
    exact fun z => n (Value.ref.inj z)
  unfold PySem.W.kitOne
  rw [nb, if_neg Bool.false_ne_true]
  obtain ⟨cd, h1, _⟩ := xo_cls q2
  show (if ((PySem.W.clsIn K C2).isSome && PySem.W.typeIn K (.ref C2) == some (.type "type")) = true then PySem.W.subIn K (.ref C) (.ref C2) else none) = some false
  rw [h1, xo_type q2, if_pos (by simp)]
  refine (xo_mro q _).trans ?_
  have n1 : ((Value.ref C2 : Value) == .ref C) = false := by
    rw [beq_eq_false_iff_ne]
    exact fun z => n (Value.ref.inj z).symm
  have n2 : ((Value.ref C2 : Value) == .ref CT) = false := by
    rw [beq_eq_false_iff_ne]
    exact fun z => nT (Value.ref.inj z).symm
  rw [List.contains_cons, List.contains_cons, n1, n2, ve_noref]
  rfl
/-- clsB's parts -/
structure ClsF (K : PySem.W.Frag) (x : Str) (fs : List Str) : Prop where
  q : xoB K (He.ga K x) (He.ga K "TeamError") = true
  sa : PySem.W.findIn K (.ref (He.ga K x)) "__setattr__" = some (some (.builtin "object.__setattr__"))
  ga : PySem.W.findIn K (.ref (He.ga K x)) "__getattribute__" = some (some (.builtin "BaseException.__getattribute__"))
  gg : PySem.W.findIn K (.ref (He.ga K x)) "__getattr__" = some none
  cl : PySem.W.findIn K (.ref (He.ga K x)) "__class__" = some (some (.builtin "object.__class__"))
  kp : PySem.W.keepIn K (.ref (He.ga K x)) = true
  no : ∀ f ∈ fs, PySem.W.findIn K (.ref (He.ga K x)) f = some none
theorem clsF_of {x : Str} {fs : List Str} (h : clsB K x fs = true) : ClsF K x fs := by
  obtain ⟨h1, h⟩ := He.ba h
  obtain ⟨h2, h⟩ := He.ba h
  obtain ⟨h3, h⟩ := He.ba h
  obtain ⟨h4, h⟩ := He.ba h
  obtain ⟨h5, h⟩ := He.ba h
  obtain ⟨h6, h7⟩ := He.ba h
  exact ⟨h1, He.eqO_ok h2, He.eqO_ok h3, He.eqO_ok h4, He.eqO_ok h5, h6, fun f hf => He.eqO_ok (List.all_eq_true.mp h7 f hf)⟩
theorem ClsF.oex {x : Str} {fs : List Str} (h : ClsF K x fs) : OexC K (He.ga K x) := by
  obtain ⟨nm, qn, N, bs, sn, sub, ab, col, dd, k0, k1, k2, k3, k5, hq⟩ := xoB_ok h.q
  exact ⟨⟨nm, qn, N, bs, _, sn, sub, ab, col, dd, k0, k1, k2, k3, k5, hq, by show PySem.HandSPX.refsVE PySem.HandSPX.veTail = true; decide +kernel⟩, h.sa, xo_exc h.q, xo_type h.q, h.kp⟩
theorem ClsF.xf {x : Str} {fs : List Str} (h : ClsF K x fs) : XfC K (He.ga K x) := ⟨h.ga, h.gg, xo_exc h.q, xo_dict h.q⟩
theorem ClsF.exc {x : Str} {fs : List Str} (h : ClsF K x fs) (hn : PySem.W.specialIn K (.builtin "object.__class__") "__get__" = some (some (.builtin "getset_descriptor.__get__"))) (ht : PySem.W.takesIn K (.builtin "object.__class__") = some true) : ExcC K (He.ga K x) :=
  ⟨h.ga, h.gg, xo_exc h.q, xo_dict h.q, h.cl, hn, ht, xo_obj h.q⟩
theorem ffs_at {j : Nat} (h : j < 27) : ∃ fs, ffs[j]? = some (cn.getD j "", fs) := by
  have z : ∀ j, j < 27 → (ffs[j]?).map (·.1) = some (cn.getD j "") := by decide +kernel
  have q := z j h
  cases e : ffs[j]? with
  | none =>
    rw [e] at q
    cases q
  | some p =>
    rw [e] at q
    obtain ⟨a, b⟩ := p
    have q2 : a = cn.getD j "" := Option.some.inj q
    exact ⟨b, by rw [← q2]⟩
end

end K4


namespace K4
open PySem PySem.Spec PyProof.Rows L2 Evl Xo
/-! ### the head -/
def fa : List He.Fa := [.free "len", .free "int", .free "range", .free "isinstance", .free "all", .free "sorted", .free "list", .free "ValueError", .glo "_law_draw", .glo "_law_source", .glo "_law_values", .glo "_law_kept", .glo "_law_pairs_kept", .glo "_law_threes_kept", .glo "_law_made", .glo "_law_classes", .glo "law", .glo "TeamError", .exc "UnlikePeople", .exc "NothingToUndo"] ++ cn.map .glo
def dF (x : Str) (i : Nat) : He.DefD := ⟨(x, none), x, x, defArgs (top i), defBody (top i), defScope (top i), [], []⟩
def dI (x q : Str) (i : Nat) : He.DefD := ⟨(x, some "__init__"), "__init__", q, defArgs (inClass (top i) 0), defBody (inClass (top i) 0), defScope (inClass (top i) 0), [], []⟩
def fn : List He.DefD := [dF "_law_source" 31, dF "_law_draw" 32, dF "_law_values" 33, dF "_law_kept" 34, dF "_law_pairs_kept" 35, dF "_law_threes_kept" 36, dF "_law_made" 37, dF "_law_classes" 38, dF "law" 39,
  dI "BadSizes" "BadSizes.__init__" 2, dI "BadPeople" "BadPeople.__init__" 3, dI "BadGames" "BadGames.__init__" 4, dI "TooMany" "TooMany.__init__" 5, dI "BadPerson" "BadPerson.__init__" 6, dI "BadTeam" "BadTeam.__init__" 7, dI "BadKind" "BadKind.__init__" 8, dI "BadRounds" "BadRounds.__init__" 9, dI "BadRound" "BadRound.__init__" 10, dI "BadNumber" "BadNumber.__init__" 11, dI "BadIndex" "BadIndex.__init__" 12, dI "BadClasses" "BadClasses.__init__" 13, dI "BadText" "BadText.__init__" 14, dI "WrongTimes" "WrongTimes.__init__" 15, dI "NotAdding" "NotAdding.__init__" 16, dI "BadShares" "BadShares.__init__" 17, dI "Alone" "Alone.__init__" 18, dI "WrongSum" "WrongSum.__init__" 19, dI "NotFull" "NotFull.__init__" 20, dI "NoGrowth" "NoGrowth.__init__" 21, dI "BadPairs" "BadPairs.__init__" 22, dI "ShortRound" "ShortRound.__init__" 23, dI "Crowded" "Crowded.__init__" 24, dI "BadCost" "BadCost.__init__" 25, dI "BadWish" "BadWish.__init__" 26]
abbrev R : PySem.W.OpenRow := PySem.W.OpenLaw.row PySem.Challenge.rw_allteams_k04_errors_by_hand
/-! the Hook: He's, and one Bool more -/
def obsM (fa : List He.Fa) (fn : List He.DefD) (K : PySem.W.Frag) : He.AlD := ((He.obsD fa fn K).1 && myB K, (He.obsD fa fn K).2)
def SaysM (fa : List He.Fa) (fn : List He.DefD) (K : PySem.W.Frag) : Prop := obsM fa fn K = He.valD fn
/-- the addresses that the module's names reach, as the run lays them -/
def as0 : List Addr := [3, 6, 4, 24, 44, 63, 82, 101, 120, 139, 158, 177, 196, 215, 234, 253, 272, 291, 310, 329, 348, 367, 386, 405, 424, 443, 462, 481, 500, 512, 524, 533, 540, 547, 552, 559, 566, 573, 580, 585]
def as1 : List Addr := [590, 0, 23, 43, 62, 81, 100, 119, 138, 157, 176, 195, 214, 233, 252, 271, 290, 309, 328, 347, 366, 385, 404, 423, 442, 461, 480, 499, 511, 523, 532, 539, 546, 551, 558, 565, 572, 579, 584, 589]
def as2 : List Addr := [22, 25, 41, 42, 60, 61, 79, 80, 98, 99, 117, 118, 136, 137, 155, 156, 174, 175, 193, 194, 212, 213, 231, 232, 250, 251, 269, 270, 288, 289, 307, 308, 326, 327, 345, 346, 364, 365, 383, 384]
def as3 : List Addr := [402, 403, 421, 422, 440, 441, 459, 460, 478, 479, 497, 498, 510, 522, 527, 528, 529, 530, 531, 534, 535, 536, 537, 538, 541, 542, 543, 544, 545, 548, 549, 550, 553, 554, 555, 556, 557, 560, 561, 562]
def as4 : List Addr := [563, 564, 567, 568, 569, 570, 571, 574, 575, 576, 577, 578, 581, 582, 583, 586, 587, 588, 40, 59, 78, 97, 116, 135, 154, 173, 192, 211, 230, 249, 268, 287, 306, 325, 344, 363, 382, 401, 420, 439]
def as5 : List Addr := [458, 477, 496]
def asL : List Addr := as0 ++ as1 ++ as2 ++ as3 ++ as4 ++ as5
def obsMG (fa : List He.Fa) (fn : List He.DefD) (g : Addr → Option Obj) : He.AlD := obsM fa fn (He.frG g asL)
def hookM (fa : List He.Fa) (fn : List He.DefD) : PySem.W.Hook where
  α := He.AlD
  obs := fun s => obsMG fa fn s.heap.get?
  val := fun _ => He.valD fn
  says := fun _ h => ∃ K : PySem.W.Frag, K.In h ∧ SaysM fa fn K
  of := fun _ _ e => ⟨_, He.frG_in, e⟩
  keeps := fun _ _ _ ⟨K, hK, c⟩ k => ⟨K, PySem.W.Frag.In.keeps hK k, c⟩
theorem obsMG_eq {fa : List He.Fa} {fn : List He.DefD} {g : Addr → Option Obj} {s : Shared} (h : ∀ a, g a = s.heap.get? a) : obsMG fa fn g = (hookM fa fn).obs s := by
  have e : g = s.heap.get? := funext h
  rw [e] <;> rfl
theorem SaysM.d {fa : List He.Fa} {fn : List He.DefD} {K : PySem.W.Frag} (c : SaysM fa fn K) : He.SaysD fa fn K ∧ myB K = true := by
  have c' : obsM fa fn K = He.valD fn := c
  have c1 : (obsM fa fn K).1 = (He.valD fn).1 := congrArg Prod.fst c'
  have c2 : (obsM fa fn K).2 = (He.valD fn).2 := congrArg Prod.snd c'
  have c1 : ((He.obsD fa fn K).1 && myB K) = true := c1
  obtain ⟨a, b⟩ := He.ba c1
  exact ⟨Prod.ext a c2, b⟩
abbrev hk : PySem.W.Hook := hookM fa fn
def ob (s : PySem.W.SharedT) : He.AlD := obsMG fa fn (HandSHeadRun.getT s)
theorem ob_eq (s : PySem.W.SharedT) : ob s = hk.obs s.abs := obsMG_eq (HandSHeadRun.getT_eq s)
def loose : List Str := (["TeamError"] : List Str) ++ cn ++ (["_law_cell", "_law_source", "_law_draw", "_law_values", "_law_kept", "_law_pairs_kept", "_law_threes_kept", "_law_made", "_law_classes"] : List Str)


end K4


namespace K4
open PySem PySem.Spec PyProof.Rows L2 Evl Xo
theorem run (w : World) : HandSHeadRun.RunEq R (PySem.W.view R.prog [39]) hk ob 20000 loose w := by
  intro os
  kernel_rfl

end K4


namespace K4
open PySem PySem.Spec PyProof.Rows L2 Evl Xo
theorem facts {P : Program} {w : World} {K : PySem.W.Frag} {h : Heap} {mg : Str → Option Value} {f : Addr} (X : K.In h) (G : h.Ns mainGlobals mg) (hfa : mg ("law" : Str) = some (.ref f)) (c0 : SaysM fa fn K) :
    ∃ fd : FuncData, (∀ (s : Shared) (v : Value), BindsTo s fd ⟨[v], []⟩ [("_law_script", v)]) ∧ ∀ base : Heap, K.In base → base.Ns mainGlobals mg → FnOk P w K mg base CX0 4 f fd ["_law_script"] (spLaw K) := by
  obtain ⟨c, my⟩ := c0.d
  obtain ⟨g1, my⟩ := He.ba my
  obtain ⟨my1, my2⟩ := He.ba my
  obtain ⟨g1, g2⟩ := He.ba g1
  obtain ⟨g2, g3⟩ := He.ba g2
  obtain ⟨g3, g4⟩ := He.ba g3
  have sp := of_decide_eq_true g1
  have tk := of_decide_eq_true g2
  have cf : ∀ j, j < 27 → ∃ fs, ClsF K (cn.getD j "") fs := fun j hj => by
    obtain ⟨fs, e⟩ := ffs_at hj
    exact ⟨fs, clsF_of (List.all_eq_true.mp my1 _ (List.mem_of_getElem? e))⟩
  have kt : ∀ j, j < 27 → PySem.W.kitOne K (.ref (cA K j)) (.ref (He.ga K "TeamError")) = some true ∧ PySem.W.kitOne K (.ref (cA K j)) (.type "ValueError") = some true := fun j hj => by
    have hl : j < cn.length := hj
    have z := List.all_eq_true.mp g4 (cn.getD j "") (by
      rw [List.getD_eq_getElem?_getD, List.getElem?_eq_getElem hl]
      exact List.getElem_mem hl)
    obtain ⟨z1, z2⟩ := He.ba z
    exact ⟨of_decide_eq_true z1, of_decide_eq_true z2⟩
  have gl : ∀ j, j < 27 → mg (cn.getD j "") = some (.ref (cA K j)) := fun j hj => by
    have e : fa[20 + j]? = some (.glo (cn.getD j "")) := by
      have z : ∀ j, j < 27 → (fa[20 + j]? = (cn[j]?).map He.Fa.glo) ∧ cn[j]? = some (cn.getD j "") := fun j hj => ⟨by
        unfold fa
        rw [List.getElem?_append_right (by show 20 ≤ 20 + j; omega)]
        show (cn.map He.Fa.glo)[20 + j - 20]? = _
        rw [show 20 + j - 20 = j by omega, List.getElem?_map], by
        have hl : j < cn.length := hj
        rw [List.getD_eq_getElem?_getD, List.getElem?_eq_getElem hl]
        rfl⟩
      obtain ⟨z1, z2⟩ := z j hj
      rw [z1, z2]
      rfl
    exact He.glo_ok X G (c.fact (20 + j) e)
  have N : Nm mg := ⟨He.free_ok X G (c.fact 0 (f := .free "len") rfl), He.free_ok X G (c.fact 1 (f := .free "int") rfl), He.free_ok X G (c.fact 2 (f := .free "range") rfl), He.free_ok X G (c.fact 3 (f := .free "isinstance") rfl), He.free_ok X G (c.fact 4 (f := .free "all") rfl),
    He.free_ok X G (c.fact 5 (f := .free "sorted") rfl), He.free_ok X G (c.fact 6 (f := .free "list") rfl), He.free_ok X G (c.fact 7 (f := .free "ValueError") rfl)⟩
  obtain ⟨dS, FS⟩ := c.def_ 0 (d := dF "_law_source" 31) rfl
  obtain ⟨dD, FD⟩ := c.def_ 1 (d := dF "_law_draw" 32) rfl
  obtain ⟨dV, FV⟩ := c.def_ 2 (d := dF "_law_values" 33) rfl
  obtain ⟨dK, FK⟩ := c.def_ 3 (d := dF "_law_kept" 34) rfl
  obtain ⟨dP, FP⟩ := c.def_ 4 (d := dF "_law_pairs_kept" 35) rfl
  obtain ⟨dT, FT⟩ := c.def_ 5 (d := dF "_law_threes_kept" 36) rfl
  obtain ⟨dM, FM⟩ := c.def_ 6 (d := dF "_law_made" 37) rfl
  obtain ⟨dC, FC⟩ := c.def_ 7 (d := dF "_law_classes" 38) rfl
  obtain ⟨fd, FL⟩ := c.def_ 8 (d := dF "law" 39) rfl
  obtain ⟨e0, F0⟩ := c.def_ 9 (d := dI "BadSizes" "BadSizes.__init__" 2) rfl
  obtain ⟨e1, F1⟩ := c.def_ 10 (d := dI "BadPeople" "BadPeople.__init__" 3) rfl
  obtain ⟨e2, F2⟩ := c.def_ 11 (d := dI "BadGames" "BadGames.__init__" 4) rfl
  obtain ⟨e3, F3⟩ := c.def_ 12 (d := dI "TooMany" "TooMany.__init__" 5) rfl
  obtain ⟨e4, F4⟩ := c.def_ 13 (d := dI "BadPerson" "BadPerson.__init__" 6) rfl
  obtain ⟨e5, F5⟩ := c.def_ 14 (d := dI "BadTeam" "BadTeam.__init__" 7) rfl
  obtain ⟨e6, F6⟩ := c.def_ 15 (d := dI "BadKind" "BadKind.__init__" 8) rfl
  obtain ⟨e7, F7⟩ := c.def_ 16 (d := dI "BadRounds" "BadRounds.__init__" 9) rfl
  obtain ⟨e8, F8⟩ := c.def_ 17 (d := dI "BadRound" "BadRound.__init__" 10) rfl
  obtain ⟨e9, F9⟩ := c.def_ 18 (d := dI "BadNumber" "BadNumber.__init__" 11) rfl
  obtain ⟨e10, F10⟩ := c.def_ 19 (d := dI "BadIndex" "BadIndex.__init__" 12) rfl
  obtain ⟨e11, F11⟩ := c.def_ 20 (d := dI "BadClasses" "BadClasses.__init__" 13) rfl
  obtain ⟨e12, F12⟩ := c.def_ 21 (d := dI "BadText" "BadText.__init__" 14) rfl
  obtain ⟨e13, F13⟩ := c.def_ 22 (d := dI "WrongTimes" "WrongTimes.__init__" 15) rfl
  obtain ⟨e14, F14⟩ := c.def_ 23 (d := dI "NotAdding" "NotAdding.__init__" 16) rfl
  obtain ⟨e15, F15⟩ := c.def_ 24 (d := dI "BadShares" "BadShares.__init__" 17) rfl
  obtain ⟨e16, F16⟩ := c.def_ 25 (d := dI "Alone" "Alone.__init__" 18) rfl
  obtain ⟨e17, F17⟩ := c.def_ 26 (d := dI "WrongSum" "WrongSum.__init__" 19) rfl
  obtain ⟨e18, F18⟩ := c.def_ 27 (d := dI "NotFull" "NotFull.__init__" 20) rfl
  obtain ⟨e19, F19⟩ := c.def_ 28 (d := dI "NoGrowth" "NoGrowth.__init__" 21) rfl
  obtain ⟨e20, F20⟩ := c.def_ 29 (d := dI "BadPairs" "BadPairs.__init__" 22) rfl
  obtain ⟨e21, F21⟩ := c.def_ 30 (d := dI "ShortRound" "ShortRound.__init__" 23) rfl
  obtain ⟨e22, F22⟩ := c.def_ 31 (d := dI "Crowded" "Crowded.__init__" 24) rfl
  obtain ⟨e23, F23⟩ := c.def_ 32 (d := dI "BadCost" "BadCost.__init__" 25) rfl
  obtain ⟨e24, F24⟩ := c.def_ 33 (d := dI "BadWish" "BadWish.__init__" 26) rfl
  have e := hfa.symm.trans (He.glo_ok X G (c.fact 16 (f := .glo "law") rfl))
  cases e
  have b := FunD.bindsA (ps := ["_law_script"]) FL fun _ _ _ _ _ _ us hl => match us, hl with | [_], _ => rfl
  refine ⟨fd, fun s v => b s [v] rfl, fun base _ _ => ?_⟩
  have ci : ∀ (x : Str) (fs : List Str), (x, fs) ∈ ffs.take 25 → PySem.W.findIn K (.ref (He.ga K x)) "__init__" = some (some (.ref (He.ma K (He.ga K x) "__init__"))) ∧ PySem.W.typeIn K (.ref (He.ma K (He.ga K x) "__init__")) = some (.type "function") := fun x fs hm => by
    obtain ⟨z1, z2⟩ := He.ba (show (_ && _) = true from List.all_eq_true.mp my2 _ hm)
    exact ⟨He.eqO_ok z1, of_decide_eq_true z2⟩
  have ce : ∀ (x : Str) (fs : List Str), (x, fs) ∈ ffs → ClsF K x fs := fun x fs hm => clsF_of (List.all_eq_true.mp my1 _ hm)
  have K0 : Kl P w K mg base "BadSizes" ["value"] := by
    have q := ce "BadSizes" ["value"] (by decide +kernel)
    have r := ci "BadSizes" ["value"] (by decide +kernel)
    exact ⟨q.oex, q.xf, gl 0 (by decide), r.1, r.2, q.no, e0, ok0 F0 q.oex (q.no "value" (by decide +kernel)), F0.bindsN fun _ _ _ _ _ _ us hl => match us, hl with | [_, _], _ => rfl⟩
  have K1 : Kl P w K mg base "BadPeople" ["value"] := by
    have q := ce "BadPeople" ["value"] (by decide +kernel)
    have r := ci "BadPeople" ["value"] (by decide +kernel)
    exact ⟨q.oex, q.xf, gl 1 (by decide), r.1, r.2, q.no, e1, ok1 F1 q.oex (q.no "value" (by decide +kernel)), F1.bindsN fun _ _ _ _ _ _ us hl => match us, hl with | [_, _], _ => rfl⟩
  have K2 : Kl P w K mg base "BadGames" ["value"] := by
    have q := ce "BadGames" ["value"] (by decide +kernel)
    have r := ci "BadGames" ["value"] (by decide +kernel)
    exact ⟨q.oex, q.xf, gl 2 (by decide), r.1, r.2, q.no, e2, ok2 F2 q.oex (q.no "value" (by decide +kernel)), F2.bindsN fun _ _ _ _ _ _ us hl => match us, hl with | [_, _], _ => rfl⟩
  have K3 : Kl P w K mg base "TooMany" ["count"] := by
    have q := ce "TooMany" ["count"] (by decide +kernel)
    have r := ci "TooMany" ["count"] (by decide +kernel)
    exact ⟨q.oex, q.xf, gl 3 (by decide), r.1, r.2, q.no, e3, ok3 F3 q.oex (q.no "count" (by decide +kernel)), F3.bindsN fun _ _ _ _ _ _ us hl => match us, hl with | [_, _], _ => rfl⟩
  have K4 : Kl P w K mg base "BadPerson" ["value"] := by
    have q := ce "BadPerson" ["value"] (by decide +kernel)
    have r := ci "BadPerson" ["value"] (by decide +kernel)
    exact ⟨q.oex, q.xf, gl 4 (by decide), r.1, r.2, q.no, e4, ok4 F4 q.oex (q.no "value" (by decide +kernel)), F4.bindsN fun _ _ _ _ _ _ us hl => match us, hl with | [_, _], _ => rfl⟩
  have K5 : Kl P w K mg base "BadTeam" ["value"] := by
    have q := ce "BadTeam" ["value"] (by decide +kernel)
    have r := ci "BadTeam" ["value"] (by decide +kernel)
    exact ⟨q.oex, q.xf, gl 5 (by decide), r.1, r.2, q.no, e5, ok5 F5 q.oex (q.no "value" (by decide +kernel)), F5.bindsN fun _ _ _ _ _ _ us hl => match us, hl with | [_, _], _ => rfl⟩
  have K6 : Kl P w K mg base "BadKind" ["value"] := by
    have q := ce "BadKind" ["value"] (by decide +kernel)
    have r := ci "BadKind" ["value"] (by decide +kernel)
    exact ⟨q.oex, q.xf, gl 6 (by decide), r.1, r.2, q.no, e6, ok6 F6 q.oex (q.no "value" (by decide +kernel)), F6.bindsN fun _ _ _ _ _ _ us hl => match us, hl with | [_, _], _ => rfl⟩
  have K7 : Kl P w K mg base "BadRounds" ["value"] := by
    have q := ce "BadRounds" ["value"] (by decide +kernel)
    have r := ci "BadRounds" ["value"] (by decide +kernel)
    exact ⟨q.oex, q.xf, gl 7 (by decide), r.1, r.2, q.no, e7, ok7 F7 q.oex (q.no "value" (by decide +kernel)), F7.bindsN fun _ _ _ _ _ _ us hl => match us, hl with | [_, _], _ => rfl⟩
  have K8 : Kl P w K mg base "BadRound" ["value"] := by
    have q := ce "BadRound" ["value"] (by decide +kernel)
    have r := ci "BadRound" ["value"] (by decide +kernel)
    exact ⟨q.oex, q.xf, gl 8 (by decide), r.1, r.2, q.no, e8, ok8 F8 q.oex (q.no "value" (by decide +kernel)), F8.bindsN fun _ _ _ _ _ _ us hl => match us, hl with | [_, _], _ => rfl⟩
  have K9 : Kl P w K mg base "BadNumber" ["value"] := by
    have q := ce "BadNumber" ["value"] (by decide +kernel)
    have r := ci "BadNumber" ["value"] (by decide +kernel)
    exact ⟨q.oex, q.xf, gl 9 (by decide), r.1, r.2, q.no, e9, ok9 F9 q.oex (q.no "value" (by decide +kernel)), F9.bindsN fun _ _ _ _ _ _ us hl => match us, hl with | [_, _], _ => rfl⟩
  have K10 : Kl P w K mg base "BadIndex" ["value"] := by
    have q := ce "BadIndex" ["value"] (by decide +kernel)
    have r := ci "BadIndex" ["value"] (by decide +kernel)
    exact ⟨q.oex, q.xf, gl 10 (by decide), r.1, r.2, q.no, e10, ok10 F10 q.oex (q.no "value" (by decide +kernel)), F10.bindsN fun _ _ _ _ _ _ us hl => match us, hl with | [_, _], _ => rfl⟩
  have K11 : Kl P w K mg base "BadClasses" ["value"] := by
    have q := ce "BadClasses" ["value"] (by decide +kernel)
    have r := ci "BadClasses" ["value"] (by decide +kernel)
    exact ⟨q.oex, q.xf, gl 11 (by decide), r.1, r.2, q.no, e11, ok11 F11 q.oex (q.no "value" (by decide +kernel)), F11.bindsN fun _ _ _ _ _ _ us hl => match us, hl with | [_, _], _ => rfl⟩
  have K12 : Kl P w K mg base "BadText" ["line"] := by
    have q := ce "BadText" ["line"] (by decide +kernel)
    have r := ci "BadText" ["line"] (by decide +kernel)
    exact ⟨q.oex, q.xf, gl 12 (by decide), r.1, r.2, q.no, e12, ok12 F12 q.oex (q.no "line" (by decide +kernel)), F12.bindsN fun _ _ _ _ _ _ us hl => match us, hl with | [_, _], _ => rfl⟩
  have K13 : Kl P w K mg base "WrongTimes" ["team", "count"] := by
    have q := ce "WrongTimes" ["team", "count"] (by decide +kernel)
    have r := ci "WrongTimes" ["team", "count"] (by decide +kernel)
    exact ⟨q.oex, q.xf, gl 13 (by decide), r.1, r.2, q.no, e13, ok13 F13 q.oex (q.no "team" (by decide +kernel)) (q.no "count" (by decide +kernel)), F13.bindsN fun _ _ _ _ _ _ us hl => match us, hl with | [_, _, _], _ => rfl⟩
  have K14 : Kl P w K mg base "NotAdding" ["kind", "told", "due"] := by
    have q := ce "NotAdding" ["kind", "told", "due"] (by decide +kernel)
    have r := ci "NotAdding" ["kind", "told", "due"] (by decide +kernel)
    exact ⟨q.oex, q.xf, gl 14 (by decide), r.1, r.2, q.no, e14, ok14 F14 q.oex (q.no "kind" (by decide +kernel)) (q.no "told" (by decide +kernel)) (q.no "due" (by decide +kernel)), F14.bindsN fun _ _ _ _ _ _ us hl => match us, hl with | [_, _, _, _], _ => rfl⟩
  have K15 : Kl P w K mg base "BadShares" ["column"] := by
    have q := ce "BadShares" ["column"] (by decide +kernel)
    have r := ci "BadShares" ["column"] (by decide +kernel)
    exact ⟨q.oex, q.xf, gl 15 (by decide), r.1, r.2, q.no, e15, ok15 F15 q.oex (q.no "column" (by decide +kernel)), F15.bindsN fun _ _ _ _ _ _ us hl => match us, hl with | [_, _], _ => rfl⟩
  have K16 : Kl P w K mg base "Alone" ["index"] := by
    have q := ce "Alone" ["index"] (by decide +kernel)
    have r := ci "Alone" ["index"] (by decide +kernel)
    exact ⟨q.oex, q.xf, gl 16 (by decide), r.1, r.2, q.no, e16, ok16 F16 q.oex (q.no "index" (by decide +kernel)), F16.bindsN fun _ _ _ _ _ _ us hl => match us, hl with | [_, _], _ => rfl⟩
  have K17 : Kl P w K mg base "WrongSum" ["size", "told", "due"] := by
    have q := ce "WrongSum" ["size", "told", "due"] (by decide +kernel)
    have r := ci "WrongSum" ["size", "told", "due"] (by decide +kernel)
    exact ⟨q.oex, q.xf, gl 17 (by decide), r.1, r.2, q.no, e17, ok17 F17 q.oex (q.no "size" (by decide +kernel)) (q.no "told" (by decide +kernel)) (q.no "due" (by decide +kernel)), F17.bindsN fun _ _ _ _ _ _ us hl => match us, hl with | [_, _, _, _], _ => rfl⟩
  have K18 : Kl P w K mg base "NotFull" ["count", "team"] := by
    have q := ce "NotFull" ["count", "team"] (by decide +kernel)
    have r := ci "NotFull" ["count", "team"] (by decide +kernel)
    exact ⟨q.oex, q.xf, gl 18 (by decide), r.1, r.2, q.no, e18, ok18 F18 q.oex (q.no "count" (by decide +kernel)) (q.no "team" (by decide +kernel)), F18.bindsN fun _ _ _ _ _ _ us hl => match us, hl with | [_, _, _], _ => rfl⟩
  have K19 : Kl P w K mg base "NoGrowth" ["wanted", "there"] := by
    have q := ce "NoGrowth" ["wanted", "there"] (by decide +kernel)
    have r := ci "NoGrowth" ["wanted", "there"] (by decide +kernel)
    exact ⟨q.oex, q.xf, gl 19 (by decide), r.1, r.2, q.no, e19, ok19 F19 q.oex (q.no "wanted" (by decide +kernel)) (q.no "there" (by decide +kernel)), F19.bindsN fun _ _ _ _ _ _ us hl => match us, hl with | [_, _, _], _ => rfl⟩
  have K20 : Kl P w K mg base "BadPairs" ["at"] := by
    have q := ce "BadPairs" ["at"] (by decide +kernel)
    have r := ci "BadPairs" ["at"] (by decide +kernel)
    exact ⟨q.oex, q.xf, gl 20 (by decide), r.1, r.2, q.no, e20, ok20 F20 q.oex (q.no "at" (by decide +kernel)), F20.bindsN fun _ _ _ _ _ _ us hl => match us, hl with | [_, _], _ => rfl⟩
  have K21 : Kl P w K mg base "ShortRound" ["at", "told", "least"] := by
    have q := ce "ShortRound" ["at", "told", "least"] (by decide +kernel)
    have r := ci "ShortRound" ["at", "told", "least"] (by decide +kernel)
    exact ⟨q.oex, q.xf, gl 21 (by decide), r.1, r.2, q.no, e21, ok21 F21 q.oex (q.no "at" (by decide +kernel)) (q.no "told" (by decide +kernel)) (q.no "least" (by decide +kernel)), F21.bindsN fun _ _ _ _ _ _ us hl => match us, hl with | [_, _, _, _], _ => rfl⟩
  have K22 : Kl P w K mg base "Crowded" ["paper"] := by
    have q := ce "Crowded" ["paper"] (by decide +kernel)
    have r := ci "Crowded" ["paper"] (by decide +kernel)
    exact ⟨q.oex, q.xf, gl 22 (by decide), r.1, r.2, q.no, e22, ok22 F22 q.oex (q.no "paper" (by decide +kernel)), F22.bindsN fun _ _ _ _ _ _ us hl => match us, hl with | [_, _], _ => rfl⟩
  have K23 : Kl P w K mg base "BadCost" ["value"] := by
    have q := ce "BadCost" ["value"] (by decide +kernel)
    have r := ci "BadCost" ["value"] (by decide +kernel)
    exact ⟨q.oex, q.xf, gl 23 (by decide), r.1, r.2, q.no, e23, ok23 F23 q.oex (q.no "value" (by decide +kernel)), F23.bindsN fun _ _ _ _ _ _ us hl => match us, hl with | [_, _], _ => rfl⟩
  have K24 : Kl P w K mg base "BadWish" ["line"] := by
    have q := ce "BadWish" ["line"] (by decide +kernel)
    have r := ci "BadWish" ["line"] (by decide +kernel)
    exact ⟨q.oex, q.xf, gl 24 (by decide), r.1, r.2, q.no, e24, ok24 F24 q.oex (q.no "line" (by decide +kernel)), F24.bindsN fun _ _ _ _ _ _ us hl => match us, hl with | [_, _], _ => rfl⟩
  have x25 := He.exc_ok (c.fact 18 (f := .exc "UnlikePeople") rfl)
  have x26 := He.exc_ok (c.fact 19 (f := .exc "NothingToUndo") rfl)
  have T : Cls27 P w K mg base := {
    k0 := K0
    k1 := K1
    k2 := K2
    k3 := K3
    k4 := K4
    k5 := K5
    k6 := K6
    k7 := K7
    k8 := K8
    k9 := K9
    k10 := K10
    k11 := K11
    k12 := K12
    k13 := K13
    k14 := K14
    k15 := K15
    k16 := K16
    k17 := K17
    k18 := K18
    k19 := K19
    k20 := K20
    k21 := K21
    k22 := K22
    k23 := K23
    k24 := K24
    g25 := gl 25 (by decide)
    x25 := x25.1
    c25 := x25.2.1
    g26 := gl 26 (by decide)
    x26 := x26.1
    c26 := x26.2.1
    gs := gl
    gT := He.glo_ok X G (c.fact 17 (f := .glo "TeamError") rfl)
    ec := fun j hj => by
      obtain ⟨fs, q⟩ := cf j hj
      exact q.exc sp tk
    kit := fun i j hi hj => by
      obtain ⟨fs, q⟩ := cf i hi
      obtain ⟨fs2, q2⟩ := cf j hj
      by_cases z : i = j
      · subst z
        rw [decide_eq_true rfl]
        exact kit_self (CT := 0)
      · rw [decide_eq_false z]
        exact kit_not q2.q q.q (cA_ne g3 hj hi (Ne.symm z)) (cA_neT g3 hi)
    kitT := fun j hj => (kt j hj).1
    kitV := fun j hj => (kt j hj).2 }
  have bS : Binds K dS ["_law_cell_here"] [] := FS.bindsN fun _ _ _ _ _ _ us hl => match us, hl with | [_], _ => rfl
  have bD : Binds K dD ["_law_source_here", "_law_limit"] [] := FD.bindsN fun _ _ _ _ _ _ us hl => match us, hl with | [_, _], _ => rfl
  have bV : Binds K dV ["_law_source_here"] [] := FV.bindsN fun _ _ _ _ _ _ us hl => match us, hl with | [_], _ => rfl
  have bK : Binds K dK ["_law_given"] [] := FK.bindsN fun _ _ _ _ _ _ us hl => match us, hl with | [_], _ => rfl
  have bP : Binds K dP ["_law_one", "_law_two"] [] := FP.bindsN fun _ _ _ _ _ _ us hl => match us, hl with | [_, _], _ => rfl
  have bT : Binds K dT ["_law_one", "_law_two", "_law_three"] [] := FT.bindsN fun _ _ _ _ _ _ us hl => match us, hl with | [_, _, _], _ => rfl
  have bM : Binds K dM ["_law_one", "_law_two", "_law_three"] [] := FM.bindsN fun _ _ _ _ _ _ us hl => match us, hl with | [_, _, _], _ => rfl
  have bC : Binds K dC ["_law_error"] [] := FC.bindsN fun _ _ _ _ _ _ us hl => match us, hl with | [_], _ => rfl
  have G7 : Fs P w K mg base (He.ga K "_law_source") (He.ga K "_law_values") (He.ga K "_law_kept") (He.ga K "_law_pairs_kept") (He.ga K "_law_threes_kept") (He.ga K "_law_made") (He.ga K "_law_classes") dS dV dK dP dT dM dC := {
    gS := He.glo_ok X G (c.fact 9 (f := .glo "_law_source") rfl)
    kS := FS.kp
    bS := bS
    oS := ok_src FS
    gV := He.glo_ok X G (c.fact 10 (f := .glo "_law_values") rfl)
    kV := FV.kp
    bV := bV
    oV := ok_vals FV N FD (He.glo_ok X G (c.fact 8 (f := .glo "_law_draw") rfl)) bD
    gK := He.glo_ok X G (c.fact 11 (f := .glo "_law_kept") rfl)
    kK := FK.kp
    bK := bK
    oK := ok_kept FK T
    gP := He.glo_ok X G (c.fact 12 (f := .glo "_law_pairs_kept") rfl)
    kP := FP.kp
    bP := bP
    oP := ok_pairs FP T
    gT := He.glo_ok X G (c.fact 13 (f := .glo "_law_threes_kept") rfl)
    kT := FT.kp
    bT := bT
    oT := ok_threes FT T
    gM := He.glo_ok X G (c.fact 14 (f := .glo "_law_made") rfl)
    kM := FM.kp
    bM := bM
    oM := ok_made FM T
    gC := He.glo_ok X G (c.fact 15 (f := .glo "_law_classes") rfl)
    kC := FC.kp
    bC := bC
    oC := ok_clss FC T N }
  exact ok_law FL T N G7
end K4


open PySem PySem.W PySem.Calls PyProof.Rows
set_option maxRecDepth 100000 in
set_option maxHeartbeats 0 in
theorem PySem.Challenge.cw_allteams_k04_errors_by_hand_holds : PySem.Challenge.rw_allteams_k04_errors_by_hand.Holds := by
  w_on; o_law
  refine HandSHeadRun.head_any (r := OpenLaw.row PySem.Challenge.rw_allteams_k04_errors_by_hand) (q := view (OpenLaw.row PySem.Challenge.rw_allteams_k04_errors_by_hand).prog [39]) (H := K4.hk) (ob := K4.ob) (M := 20000) (loose := K4.loose) (d := HandSHeadRun.topDef (OpenLaw.row PySem.Challenge.rw_allteams_k04_errors_by_hand).prog 39) (kwd := []) K4.ob_eq
    (by kernel_rfl) (fun s => by kernel_rfl) K4.run (by kernel_rfl) (by kernel_rfl) (by kernel_rfl) (by rfl) (by first | assumption | decide +kernel) (by decide +kernel) ⟨rfl, rfl, rfl, rfl, rfl, by decide +kernel⟩ ?hw ?hc
  case hw => w_witness2
  case hc =>
    refine L2.walk_ofE (l := PySem.Challenge.rw_allteams_k04_errors_by_hand) (n := 63) (k := 4) (x := "_law_script") (CX := L2.CX0) rfl (by decide) (by kernel_rfl) ⟨rfl, by decide, by decide⟩ ?F (fun _ _ _ _ z => z)
    intro w mg fa h Y G hmg0
    obtain ⟨K, KX, c⟩ := Y
    have hmg : mg ("law" : PySem.Str) = some (.ref fa) := by
      have e : (HandSHeadRun.topDef (OpenLaw.row PySem.Challenge.rw_allteams_k04_errors_by_hand).prog 39).name = ("law" : PySem.Str) := by kernel_rfl
      rw [← e]
      exact hmg0
    obtain ⟨fd, hb, hF⟩ := K4.facts (P := (PySem.Challenge.rw_allteams_k04_errors_by_hand).prog) (w := w) KX G hmg c
    exact ⟨K, fd, K4.spLaw K, KX, hb, fun H a ns hl _ hS => ⟨a, ns, rfl, hS, hl, fun _ => rfl⟩, hF⟩
