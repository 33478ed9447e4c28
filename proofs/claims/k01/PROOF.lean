import PyProof.Rows.All
import Wide.All
import OpenK.AllK
import Wide.FinOn
import HandS.Base
import HandS.Call
import HandS.List
import HandS.Comp
import HandS.Dict
import HandS.Iter
import HandS.Ends
import HandS.Words
import HandS.Exc
import HandS.Evl
import HandS.HeadHook1
import HandS.Lambda
import HandS.TupAny
import HandS.TupMul
import HandS.More
import HandS.IsInst
import KE.KTupSum
import HandS.WordsDict
import HandS.Defaults
import HandS.ExcOwn
import HandS.ExcInit
import HandS.ExcField
import HandS.SuiteRaise
import HandS.Deep
import HandS.TupSets
import HandS.Zip
import KE.GoesZip
import KE.GoesMore
import KE.SortKeyHeap
import HandS.SortKw
import HandS.Head0
import HandS.Head1
import HandS.Head2
import HandS.HeadEnd
import HandS.HeadHook2
import HandS.HeadHook4
import HandS.HeadWalk
import HandS.EndTab
import PySem.Challenge.RW_allteams_k01_choices_kinds_and_dues
set_option Elab.async false
set_option linter.all false
set_option maxRecDepth 100000
set_option maxHeartbeats 4000000
section

/-! TD1: values as data, what the slots hold, what an expression and a statement do to them -/
namespace TD
open PySem PySem.Spec PyProof.Rows L2 Evl
/-- the tables of code objects, each with the name of its lambdas -/
class HasT where
  T : List (Addr × Str)
variable [HasT]
/-- values as data: what a list that nobody may change (the script), an object of a class holds, besides -/
inductive T where
  | none
  | bool (b : Bool)
  | int (i : Int)
  | str (s : Str)
  | list (xs : List T)
  | tuple (xs : List T)
  | dict (kvs : List (T × T))
  | scr (ns : List Int)
  | obj (c : Str) (fs : List (Str × T))
mutual
/-- data without objects; what is none becomes a dict -/
def toP : T → PyData
  | .none => .none
  | .bool b => .bool b
  | .int i => .int i
  | .str s => .str s
  | .list xs => .list (toPs xs)
  | .tuple xs => .tuple (toPs xs)
  | _ => .dict []
def toPs : List T → List PyData
  | [] => []
  | x :: xs => toP x :: toPs xs
end
abbrev Sg := L2.St
/-- a key of a dict as data -/
def kD : Key → T
  | .inl i => .int i
  | .inr x => .str x
theorem SqL.mono {K : PySem.W.Frag} {H H' : Hp} (e : Ex H H') {a : Addr} {xs : List V} (h : SqL K H a xs) : SqL K H' a xs := by
  rcases h with (h | ⟨o, h⟩) | h
  · exact .inl (.inl (e _ _ h))
  · exact .inl (.inr ⟨o, e _ _ h⟩)
  · exact .inr h
mutual
/-- the value v is the data d in H; a dict that is a value is locked for good, so nobody changes it -/
inductive Rp (K : PySem.W.Frag) (H : Hp) : V → T → Prop
  | non : Rp K H .non .none
  | bl (b : Bool) : Rp K H (.bl b) (.bool b)
  | int (i : Int) : Rp K H (.int i) (.int i)
  | str (x : Str) : Rp K H (.str x) (.str x)
  | lst {a : Addr} {xs : List V} {ds : List T} : H a = some (.lst xs) → RpA K H xs ds → Rp K H (.ref a) (.list ds)
  | tup {a : Addr} {xs : List V} {ds : List T} : H a = some (.tup xs) → RpA K H xs ds → Rp K H (.ref a) (.tuple ds)
  | dK {a : Addr} {o : Obj} {ks : List Key} {vs : List V} {ds : List T} : H a = some (.frz o (.dK (ks.zip vs))) → ks.length = vs.length → RpA K H vs ds → Rp K H (.ref a) (.dict ((ks.map kD).zip ds))
  | dT {a : Addr} {o : Obj} {ks : List (List Key)} {vs : List V} {ds : List T} : ks ≠ [] → H a = some (.frz o (.dT (ks.zip vs))) → ks.length = vs.length → RpA K H vs ds → Rp K H (.ref a) (.dict ((ks.map fun k => T.tuple (k.map kD)).zip ds))
  | scr {a : Addr} {ns : List Int} : SqL K H a (ns.map V.int) → Rp K H (.ref a) (.scr ns)
  | obj {a dx : Addr} {c : Str} {fs : List Str} {vs : List V} {ds : List T} : H a = some (.ins (He.ga K c) dx (fs.zip vs)) → fs.length = vs.length → RpA K H vs ds → Rp K H (.ref a) (.obj c (fs.zip ds))
inductive RpA (K : PySem.W.Frag) (H : Hp) : List V → List T → Prop
  | nil : RpA K H [] []
  | cons {v : V} {vs : List V} {d : T} {ds : List T} : Rp K H v d → RpA K H vs ds → RpA K H (v :: vs) (d :: ds)
end
section
variable {K : PySem.W.Frag} {H H' : Hp}
mutual
theorem Rp.mono (e : Ex H H') : ∀ {v : V} {d : T}, Rp K H v d → Rp K H' v d
  | _, _, .non => .non
  | _, _, .bl b => .bl b
  | _, _, .int i => .int i
  | _, _, .str x => .str x
  | _, _, .lst h a => .lst (e _ _ h) (RpA.mono e a)
  | _, _, .tup h a => .tup (e _ _ h) (RpA.mono e a)
  | _, _, .dK h l a => .dK (e _ _ h) l (RpA.mono e a)
  | _, _, .dT n h l a => .dT n (e _ _ h) l (RpA.mono e a)
  | _, _, .scr h => .scr (SqL.mono e h)
  | _, _, .obj h l a => .obj (e _ _ h) l (RpA.mono e a)
theorem RpA.mono (e : Ex H H') : ∀ {vs : List V} {ds : List T}, RpA K H vs ds → RpA K H' vs ds
  | _, _, .nil => .nil
  | _, _, .cons h t => .cons (Rp.mono e h) (RpA.mono e t)
end
theorem RpA.length : ∀ {vs : List V} {ds : List T}, RpA K H vs ds → vs.length = ds.length
  | _, _, .nil => rfl
  | _, _, .cons _ t => congrArg Nat.succ (RpA.length t)
theorem RpA.at : ∀ {vs : List V} {ds : List T} {i : Nat} {d : T}, RpA K H vs ds → ds[i]? = some d → ∃ v, vs[i]? = some v ∧ Rp K H v d
  | _, _, _, _, .nil, e => by simp at e
  | _, _, 0, _, .cons h _, e => by simp at e; subst e; exact ⟨_, rfl, h⟩
  | _, _, i + 1, d, .cons _ t, e => by
    obtain ⟨v, h1, h2⟩ := RpA.at (i := i) (d := d) t (by simpa using e)
    exact ⟨v, by simpa using h1, h2⟩
theorem RpA.at' : ∀ {vs : List V} {ds : List T} {i : Nat} {v : V}, RpA K H vs ds → vs[i]? = some v → ∃ d, ds[i]? = some d ∧ Rp K H v d
  | _, _, _, _, .nil, e => by simp at e
  | _, _, 0, _, .cons h _, e => by simp at e; subst e; exact ⟨_, rfl, h⟩
  | _, _, i + 1, d, .cons _ t, e => by
    obtain ⟨v, h1, h2⟩ := RpA.at' (i := i) (v := d) t (by simpa using e)
    exact ⟨v, by simpa using h1, h2⟩
theorem RpA.append : ∀ {vs ws : List V} {ds es : List T}, RpA K H vs ds → RpA K H ws es → RpA K H (vs ++ ws) (ds ++ es)
  | _, _, _, _, .nil, s => s
  | _, _, _, _, .cons r t, s => .cons r (RpA.append t s)
theorem RpA.set {v : V} {d : T} (r : Rp K H v d) : ∀ {vs : List V} {ds : List T} (i : Nat), RpA K H vs ds → RpA K H (vs.set i v) (ds.set i d)
  | _, _, _, .nil => .nil
  | _, _, 0, .cons _ t => .cons r t
  | _, _, i + 1, .cons q t => .cons q (RpA.set r i t)
theorem RpA.take : ∀ {vs : List V} {ds : List T} (n : Nat), RpA K H vs ds → RpA K H (vs.take n) (ds.take n)
  | _, _, 0, _ => .nil
  | _, _, _ + 1, .nil => .nil
  | _, _, n + 1, .cons r t => .cons r (RpA.take n t)
theorem RpA.drop : ∀ {vs : List V} {ds : List T} (n : Nat), RpA K H vs ds → RpA K H (vs.drop n) (ds.drop n)
  | _, _, 0, r => r
  | _, _, _ + 1, .nil => .nil
  | _, _, n + 1, .cons _ t => RpA.drop n t
end

/-! ### slots: nothing, data that nobody changes, a list or dict that this def alone changes -/
inductive Sl where
  | un
  | val (t : T)
  | own (t : T)
abbrev Env := List Sl
/-- all objects but the tables of code objects -/
def hT (H : Hp) : Hp := fun a => match H a with
  | some (.tbl _) => none
  | o => o
theorem hT_of {H : Hp} {a : Addr} {o : HO} (h : hT H a = some o) : H a = some o ∧ ∀ ps, o ≠ .tbl ps := by
  unfold hT at h
  cases q : H a with
  | none => rw [q] at h; cases h
  | some u =>
    cases u <;> (rw [q] at h; first | (cases h; done) | (cases h; exact ⟨rfl, fun ps z => by cases z⟩))
theorem hT_at {H : Hp} {a : Addr} {o : HO} (h : H a = some o) (n : ∀ ps, o ≠ .tbl ps) : hT H a = some o := by
  unfold hT
  rw [h]
  cases o <;> first | rfl | exact absurd rfl (n _)
theorem hT_none {H : Hp} {a : Addr} (h : H a = none) : hT H a = none := by
  unfold hT
  rw [h]
theorem hT_upd {H : Hp} {a b : Addr} {o : HO} (h : b ≠ a) : hT (upd H a o) b = hT H b := by
  unfold hT
  rw [upd_ne h]
theorem hT_eq {H H' : Hp} {b : Addr} (h : H' b = H b) : hT H' b = hT H b := by
  unfold hT
  rw [h]
/-- the objects at S put aside -/
def hide (S : List Addr) (H : Hp) : Hp := fun a => if a ∈ S then none else hT H a
theorem hide_ex (S : List Addr) (H : Hp) : Ex (hide S H) H := fun a o e => by
  unfold hide at e
  split at e
  · cases e
  · exact (hT_of e).1
theorem hide_at {S : List Addr} {H : Hp} {a : Addr} {o : HO} (h : H a = some o) (n : a ∉ S) (t : ∀ ps, o ≠ .tbl ps := by intro _ z; cases z) : hide S H a = some o := by
  unfold hide
  rw [if_neg n]
  exact hT_at h t
/-- all that is no table stays -/
def ExN (H H' : Hp) : Prop := ∀ b o, H b = some o → (∀ ps, o ≠ .tbl ps) → H' b = some o
theorem hide_monoN {S : List Addr} {H H' : Hp} (e : ExN H H') : Ex (hide S H) (hide S H') := fun a o h => by
  unfold hide at h ⊢
  split at h
  · cases h
  · rename_i n
    rw [if_neg n]
    exact hT_at (e a o (hT_of h).1 (hT_of h).2) (hT_of h).2
theorem hide_mono {S : List Addr} {H H' : Hp} (e : Ex H H') : Ex (hide S H) (hide S H') := hide_monoN fun b o h _ => e b o h
theorem hide_sub {S S' : List Addr} {H : Hp} (h : ∀ a ∈ S', a ∈ S) : Ex (hide S H) (hide S' H) := fun a o e => by
  unfold hide at e ⊢
  split at e
  · cases e
  · rename_i n
    rw [if_neg fun z => n (h a z)]
    exact e
theorem hide_upd {S : List Addr} {H : Hp} {a : Addr} {o : HO} (h : a ∈ S) : hide S (upd H a o) = hide S H := by
  funext b
  unfold hide
  by_cases hb : b ∈ S
  · rw [if_pos hb, if_pos hb]
  · rw [if_neg hb, if_neg hb, hT_upd fun z => hb (by rw [z]; exact h)]
theorem hide_none {S : List Addr} {H : Hp} {a : Addr} (h : H a = none) : hide S H a = none := by
  unfold hide
  split
  · rfl
  · exact hT_none h
/-- a new address put aside besides -/
theorem hide_add {S : List Addr} {H H' : Hp} {a : Addr} (n : H a = none) (e : Ex (hide S H) (hide S H')) : Ex (hide S H) (hide (a :: S) H') := fun b o h => by
  have h1 := e b o h
  have hb : b ≠ a := fun z => by
    rw [z, hide_none n] at h
    cases h
  unfold hide at h1 ⊢
  split at h1
  · cases h1
  · rename_i q
    rw [if_neg (by simp only [List.mem_cons, not_or]; exact ⟨hb, q⟩)]
    exact h1
/-- the addresses that the own slots name -/
def own1 : Sl → Option V → List Addr
  | .own _, some (.ref a) => [a]
  | _, _ => []
def owns : Env → Sg → List Addr
  | e :: es, v :: vs => own1 e v ++ owns es vs
  | _, _ => []
/-- what stands at an own slot's address -/
inductive Own (K : PySem.W.Frag) (H0 H : Hp) (a : Addr) : T → Prop
  | lst {vs : List V} {ds : List T} : H a = some (.lst vs) → RpA K H0 vs ds → Own K H0 H a (.list ds)
  | dK {ks : List Key} {vs : List V} {ds : List T} : H a = some (.dK (ks.zip vs)) → ks.length = vs.length → RpA K H0 vs ds → Own K H0 H a (.dict ((ks.map kD).zip ds))
  | dT {ks : List (List Key)} {vs : List V} {ds : List T} : ks ≠ [] → H a = some (.dT (ks.zip vs)) → ks.length = vs.length → RpA K H0 vs ds → Own K H0 H a (.dict ((ks.map fun k => T.tuple (k.map kD)).zip ds))
theorem Own.mono {K : PySem.W.Frag} {H0 H0' H H' : Hp} {a : Addr} {t : T} (h : Own K H0 H a t) (e : Ex H0 H0') (k : ∀ o, H a = some o → H' a = some o) : Own K H0' H' a t := by
  cases h with
  | lst h r => exact .lst (k _ h) (r.mono e)
  | dK h l r => exact .dK (k _ h) l (r.mono e)
  | dT n h l r => exact .dT n (k _ h) l (r.mono e)
/-- one slot -/
inductive S1 (K : PySem.W.Frag) (H0 H : Hp) : Sl → Option V → Prop
  | un {o : Option V} : S1 K H0 H .un o
  | val {t : T} {v : V} : Rp K H0 v t → S1 K H0 H (.val t) (some v)
  | own {t : T} {a : Addr} : Own K H0 H a t → S1 K H0 H (.own t) (some (.ref a))
theorem S1.mono {K : PySem.W.Frag} {H0 H0' H H' : Hp} {e : Sl} {o : Option V} (h : S1 K H0 H e o) (x : Ex H0 H0') (k : ∀ a ∈ own1 e o, ∀ u, H a = some u → H' a = some u) : S1 K H0' H' e o := by
  cases h with
  | un => exact .un
  | val r => exact .val (r.mono x)
  | own r => exact .own (r.mono x (k _ List.mem_cons_self))
/-- the slots -/
inductive SA (K : PySem.W.Frag) (H0 H : Hp) : Env → Sg → Prop
  | nil : SA K H0 H [] []
  | cons {e : Sl} {es : Env} {o : Option V} {os : Sg} : S1 K H0 H e o → SA K H0 H es os → SA K H0 H (e :: es) (o :: os)
section
variable {K : PySem.W.Frag} {H0 H0' H H' : Hp}
theorem SA.mono : ∀ {e : Env} {σ : Sg}, SA K H0 H e σ → Ex H0 H0' → (∀ a ∈ owns e σ, ∀ u, H a = some u → H' a = some u) → SA K H0' H' e σ
  | _, _, .nil, _, _ => .nil
  | _, _, .cons h t, x, k => .cons (h.mono x fun a ha => k a (by show a ∈ _ ++ _; exact List.mem_append_left _ ha)) (SA.mono t x fun a ha => k a (by show a ∈ _ ++ _; exact List.mem_append_right _ ha))
theorem SA.length : ∀ {e : Env} {σ : Sg}, SA K H0 H e σ → e.length = σ.length
  | _, _, .nil => rfl
  | _, _, .cons _ t => congrArg Nat.succ (SA.length t)
theorem SA.val : ∀ {e : Env} {σ : Sg} {i : Nat} {t : T}, SA K H0 H e σ → e[i]? = some (.val t) → ∃ v, σ[i]? = some (some v) ∧ Rp K H0 v t
  | _, _, _, _, .nil, h => by simp at h
  | _, _, 0, _, .cons h _, q => by
    simp at q
    subst q
    cases h with
    | val r => exact ⟨_, rfl, r⟩
  | _, _, i + 1, t, .cons _ r, q => by
    obtain ⟨v, h1, h2⟩ := SA.val (i := i) (t := t) r (by simpa using q)
    exact ⟨v, by simpa using h1, h2⟩
theorem SA.ownAt : ∀ {e : Env} {σ : Sg} {i : Nat} {t : T}, SA K H0 H e σ → e[i]? = some (.own t) → ∃ a, σ[i]? = some (some (.ref a)) ∧ Own K H0 H a t ∧ a ∈ owns e σ
  | _, _, _, _, .nil, h => by simp at h
  | _, _, 0, _, .cons h _, q => by
    simp at q
    subst q
    cases h with
    | own r => exact ⟨_, rfl, r, List.mem_append_left _ List.mem_cons_self⟩
  | _, _, i + 1, t, .cons _ r, q => by
    obtain ⟨a, h1, h2, h3⟩ := SA.ownAt (i := i) (t := t) r (by simpa using q)
    exact ⟨a, by simpa using h1, h2, List.mem_append_right _ h3⟩
theorem SA.setVal {t : T} {v : V} (r : Rp K H0 v t) : ∀ {e : Env} {σ : Sg} (i : Nat), SA K H0 H e σ → SA K H0 H (e.set i (.val t)) (σ.set i (some v))
  | _, _, _, .nil => .nil
  | _, _, 0, .cons _ q => .cons (.val r) q
  | _, _, i + 1, .cons h q => .cons h (SA.setVal r i q)
theorem SA.setUn {o : Option V} : ∀ {e : Env} {σ : Sg} (i : Nat), SA K H0 H e σ → SA K H0 H (e.set i .un) (σ.set i o)
  | _, _, _, .nil => .nil
  | _, _, 0, .cons _ q => .cons .un q
  | _, _, i + 1, .cons h q => .cons h (SA.setUn i q)
theorem SA.setOwn {t : T} {a : Addr} (r : Own K H0 H a t) : ∀ {e : Env} {σ : Sg} (i : Nat), SA K H0 H e σ → SA K H0 H (e.set i (.own t)) (σ.set i (some (.ref a)))
  | _, _, _, .nil => .nil
  | _, _, 0, .cons _ q => .cons (.own r) q
  | _, _, i + 1, .cons h q => .cons h (SA.setOwn r i q)
end
theorem owns_set {e : Env} {σ : Sg} {x : Sl} {o : Option V} {i : Nat} : ∀ a ∈ owns (e.set i x) (σ.set i o), a ∈ own1 x o ∨ a ∈ owns e σ := by
  induction e generalizing σ i with
  | nil => intro a h; simp [owns] at h
  | cons e1 es ih =>
    cases σ with
    | nil => intro a h; simp [owns] at h
    | cons v vs =>
      cases i with
      | zero =>
        intro a h
        rcases List.mem_append.mp (show a ∈ own1 x o ++ owns es vs from h) with h | h
        · exact .inl h
        · exact .inr (List.mem_append_right _ h)
      | succ i =>
        intro a h
        rcases List.mem_append.mp (show a ∈ own1 e1 v ++ owns (es.set i x) (vs.set i o) from h) with h | h
        · exact .inr (List.mem_append_left _ h)
        · rcases ih a h with h | h
          · exact .inl h
          · exact .inr (List.mem_append_right _ h)
theorem own1_val {t : T} {o : Option V} : own1 (.val t) o = [] := by cases o with | none => rfl | some v => cases v <;> rfl
theorem own1_un {o : Option V} : own1 .un o = [] := by cases o with | none => rfl | some v => cases v <;> rfl
theorem _root_.Evl.Ex.tracked {H H' : Hp} {a : Addr} (x : Ex H H') (h : H a ≠ none) : H' a ≠ none := by
  cases q : H a with
  | none => exact absurd q h
  | some o =>
    rw [x a o q]
    intro z
    cases z
/-- no table of code objects -/
def NoT (o : HO) : Prop := ∀ ps, o ≠ .tbl ps
/-- what is put aside stands there: no table, or one of the tables -/
def GL (G : List Addr) (H : Hp) : Prop := ∀ a ∈ G, (∃ o, H a = some o ∧ NoT o) ∨ ∃ p ∈ HasT.T, p.1 = a
theorem GL.go {G : List Addr} {H H' : Hp} (g : GL G H) (x : ∀ a ∈ G, ∀ o, NoT o → H a = some o → H' a = some o) : GL G H' := fun a ha => (g a ha).imp (fun ⟨o, h, n⟩ => ⟨o, x a ha o n h, n⟩) id
theorem GL.tr {G : List Addr} {H : Hp} (g : GL G H) (tb : LamX.Tabs HasT.T H) : ∀ a ∈ G, H a ≠ none := fun a ha z => by
  rcases g a ha with ⟨o, h, _⟩ | ⟨p, hp, e⟩
  · rw [z] at h; cases h
  · obtain ⟨ps, h, _⟩ := tb p hp
    rw [e, z] at h; cases h
/-- everything: the slots; no two own things of one address; G: what is put aside besides; P: own slots that stay what they are -/
structure SD (K : PySem.W.Frag) (P : List (Nat × Addr)) (G : List Addr) (σ : Sg) (H : Hp) (e : Env) : Prop where
  sa : SA K (hide (G ++ owns e σ) H) H e σ
  nd : (G ++ owns e σ).Nodup
  gl : GL G H
  pr : ∀ q ∈ P, σ[q.1]? = some (some (.ref q.2)) ∧ ∃ t, e[q.1]? = some (.own t)
  tb : LamX.Tabs HasT.T H
  th : ∀ p ∈ HasT.T, p.1 ∈ G
def Plain (o : HO) : Prop := NoT o ∧ ∀ c q, o ≠ LamX.CodeO c q
theorem plain_lst {xs : List V} : Plain (.lst xs) := ⟨(fun ps z => nomatch z), fun c q z => by unfold LamX.CodeO at z; cases z⟩
theorem plain_dK {xs : List (Key × V)} : Plain (.dK xs) := ⟨(fun ps z => nomatch z), fun c q z => by unfold LamX.CodeO at z; cases z⟩
theorem plain_dT {xs : List (List Key × V)} : Plain (.dT xs) := ⟨(fun ps z => nomatch z), fun c q z => by unfold LamX.CodeO at z; cases z⟩
theorem plain_own {K : PySem.W.Frag} {H0 H : Hp} {a : Addr} {t : T} (h : Own K H0 H a t) : ∃ o, H a = some o ∧ Plain o := by
  cases h with
  | lst h _ => exact ⟨_, h, plain_lst⟩
  | dK h _ _ => exact ⟨_, h, plain_dK⟩
  | dT _ h _ _ => exact ⟨_, h, plain_dT⟩
theorem tabs_ne {H : Hp} {a : Addr} {o : HO} (tb : LamX.Tabs HasT.T H) (h : H a = some o) (n : Plain o) : ∀ p ∈ HasT.T, p.1 ≠ a := fun p hp z => by
  obtain ⟨ps, h1, _⟩ := tb p hp
  rw [z, h] at h1
  exact n.1 ps (Option.some.inj h1)
theorem tabs_upd {H : Hp} {a : Addr} {o o' : HO} (tb : LamX.Tabs HasT.T H) (h : H a = some o) (n : Plain o) : LamX.Tabs HasT.T (upd H a o') := fun p hp => by
  obtain ⟨ps, h1, h2, h3⟩ := tb p hp
  refine ⟨ps, by rw [upd_ne (tabs_ne tb h n p hp)]; exact h1, h2, fun pos cv hc => ?_⟩
  obtain ⟨c, e1, e2⟩ := h3 pos cv hc
  refine ⟨c, e1, ?_⟩
  rw [upd_ne fun z => ?_]
  · exact e2
  · rw [z, h] at e2
    exact n.2 _ _ (Option.some.inj e2)
/-- what stands besides the own things stays, and what is put aside -/
structure Rel (G : List Addr) (σ : Sg) (H : Hp) (e : Env) (σ' : Sg) (H' : Hp) (e' : Env) : Prop where
  st : Ex (hide (G ++ owns e σ) H) (hide (G ++ owns e' σ') H')
  gs : ∀ a ∈ G, ∀ o, NoT o → H a = some o → H' a = some o
section
variable {K : PySem.W.Frag} {P : List (Nat × Addr)} {G : List Addr} {σ σ1 σ2 : Sg} {H H' H1 H2 : Hp} {e e1 e2 : Env}
theorem Rel.refl : Rel G σ H e σ H e := ⟨Ex.refl _, fun _ _ _ _ h => h⟩
theorem Rel.trans (a : Rel G σ H e σ1 H1 e1) (b : Rel G σ1 H1 e1 σ2 H2 e2) : Rel G σ H e σ2 H2 e2 := ⟨Ex.trans a.st b.st, fun x hx o n h => b.gs x hx o n (a.gs x hx o n h)⟩
theorem Rel.ex (x : Ex H H') : Rel G σ H e σ H' e := ⟨hide_mono x, fun a _ o _ h => x a o h⟩
theorem SD.tr (s : SD K P G σ H e) : ∀ a ∈ G, H a ≠ none := s.gl.tr s.tb
theorem SD.ex (s : SD K P G σ H e) (x : Ex H H') : SD K P G σ H' e :=
  ⟨s.sa.mono (hide_mono x) fun a _ u h => x a u h, s.nd, s.gl.go fun a _ o _ h => x a o h, s.pr, s.tb.ext x, s.th⟩
theorem Rel.rp {v : V} {d : T} (r : Rel G σ H e σ1 H1 e1) (h : Rp K (hide (G ++ owns e σ) H) v d) : Rp K (hide (G ++ owns e1 σ1) H1) v d := h.mono r.st
theorem Rel.rpA {v : List V} {d : List T} (r : Rel G σ H e σ1 H1 e1) (h : RpA K (hide (G ++ owns e σ) H) v d) : RpA K (hide (G ++ owns e1 σ1) H1) v d := h.mono r.st
end
/-! ### results -/
inductive R (α : Type) where
  | ok (a : α) (e : Env)
  | ex (c : Str) (fs : List (Str × T)) (e : Env)
  | bad
def R.bind {α β : Type} : R α → (α → Env → R β) → R β
  | .ok a e, f => f a e
  | .ex c fs e, _ => .ex c fs e
  | .bad, _ => .bad
abbrev M (α : Type) : Type := Env → R α
/-- an exception's fields as they lie in its dict -/
def XR (K : PySem.W.Frag) (H0 H : Hp) (dd : Addr) (fs : List (Str × T)) : Prop := ∃ gs : List (Str × V), H dd = some (.xd gs) ∧ gs.map (·.1) = fs.map (·.1) ∧ RpA K H0 (gs.map (·.2)) (fs.map (·.2))
section
variable (K : PySem.W.Frag) (P : List (Nat × Addr)) (W : WX)
def Ps {α : Type} (A : α → Env → Hp → Prop) (G : List Addr) (σ : Sg) (H : Hp) (e : Env) : R α → Prop
  | .ok d e' => ∀ H', Rel G σ H e σ H' e' → SD K P G σ H' e' → A d e' H'
  | .ex c fs e' => ∀ dd H', Rel G σ H e σ H' e' → SD K P G σ H' e' → XR K (hide (G ++ owns e' σ) H') H' dd fs → W (.ref (He.ga K c)) (some dd) σ H'
  | .bad => False
abbrev AV (Q : VK) (G : List Addr) (σ : Sg) : T → Env → Hp → Prop := fun d e' H' => ∀ v, Rp K (hide (G ++ owns e' σ) H') v d → Q v H'
abbrev AA (Q : List V → Hp → Prop) (G : List Addr) (σ : Sg) : List T → Env → Hp → Prop := fun d e' H' => ∀ v, RpA K (hide (G ++ owns e' σ) H') v d → Q v H'
abbrev AB (Q : Bool → Hp → Prop) : Bool → Env → Hp → Prop := fun d _ H' => Q d H'
def tD (m : M T) : TE := fun σ H Q => ∃ G e, SD K P G σ H e ∧ Ps K P W (AV K Q G σ) G σ H e (m e)
def tDT (m : M Bool) : TT := fun σ H Q => ∃ G e, SD K P G σ H e ∧ Ps K P W (AB Q) G σ H e (m e)
def tDA (m : M (List T)) : TA := fun σ H Q => ∃ G e, SD K P G σ H e ∧ Ps K P W (AA K Q G σ) G σ H e (m e)
end
theorem _root_.L2.PE.weak {X : Cx} {e : Expr} {t t' : TE} (h : PE X e t) (k : ∀ σ H Q, t' σ H Q → t σ H Q) : PE X e t' := ⟨fun pins s σ H Q I q => h.run pins s σ H Q I (k σ H Q q)⟩
theorem _root_.L2.PT.weak {X : Cx} {e : Expr} {t t' : TT} (h : PT X e t) (k : ∀ σ H Q, t' σ H Q → t σ H Q) : PT X e t' := ⟨fun pins s σ H Q I q => h.run pins s σ H Q I (k σ H Q q)⟩
theorem _root_.L2.PW.weak {X : Cx} {e : Expr} {t t' : TT} (h : PW X e t) (k : ∀ σ H Q, t' σ H Q → t σ H Q) : PW X e t' := ⟨fun w pins s σ H Q I q => h.run w pins s σ H Q I (k σ H Q q)⟩
theorem _root_.L2.PA.weak {X : Cx} {e : List Expr} {t t' : TA} (h : PA X e t) (k : ∀ σ H Q, t' σ H Q → t σ H Q) : PA X e t' := ⟨fun pos pins s σ H Q I q => h.run pos pins s σ H Q I (k σ H Q q)⟩
theorem _root_.L2.PS.weak {X : Cx} {e : Stmt} {t t' : TS} (h : PS X e t) (k : ∀ D σ H, t' D σ H → t D σ H) : PS X e t' := ⟨fun pins s σ H D I q => h.run pins s σ H D I (k D σ H q)⟩
theorem _root_.L2.PSs.weak {X : Cx} {e : List Stmt} {t t' : TS} (h : PSs X e t) (k : ∀ D σ H, t' D σ H → t D σ H) : PSs X e t' := ⟨fun pins s σ H D I q => h.run pins s σ H D I (k D σ H q)⟩
section
variable {K : PySem.W.Frag} {P : List (Nat × Addr)} {W : WX} {G : List Addr} {σ : Sg} {H H1 : Hp} {e e1 : Env}
theorem Ps.go {α : Type} {A : α → Env → Hp → Prop} {r : R α} (x : Rel G σ H e σ H1 e1) (p : Ps K P W A G σ H e r) : Ps K P W A G σ H1 e1 r := by
  cases r with
  | ok d e2 => exact fun H2 y s => p H2 (x.trans y) s
  | ex c fs e2 => exact fun dd H2 y s => p dd H2 (x.trans y) s
  | bad => exact p
/-- to go on behind a part -/
theorem stepG {α β : Type} {A : β → Env → Hp → Prop} {B : α → Env → Hp → Prop} {m : M α} {f : α → Env → R β} (p : Ps K P W A G σ H e (R.bind (m e) f))
    (k : ∀ d e1 H', Rel G σ H e σ H' e1 → SD K P G σ H' e1 → Ps K P W A G σ H' e1 (f d e1) → B d e1 H') : Ps K P W B G σ H e (m e) := by
  cases q : m e with
  | ok d e1 =>
    rw [q] at p
    exact fun H' x s1 => k d e1 H' x s1 (Ps.go x p)
  | ex c fs e1 =>
    rw [q] at p
    exact p
  | bad =>
    rw [q] at p
    exact p
theorem step {α : Type} {A : α → Env → Hp → Prop} {m : M T} {f : T → Env → R α} {Q' : VK} (s : SD K P G σ H e) (p : Ps K P W A G σ H e (R.bind (m e) f))
    (k : ∀ d e1 v H', Rel G σ H e σ H' e1 → SD K P G σ H' e1 → Rp K (hide (G ++ owns e1 σ) H') v d → Ps K P W A G σ H' e1 (f d e1) → Q' v H') : tD K P W m σ H Q' :=
  ⟨G, e, s, stepG p fun d e1 H' x s1 p1 v r => k d e1 v H' x s1 r p1⟩
theorem stepA {α : Type} {A : α → Env → Hp → Prop} {m : M (List T)} {f : List T → Env → R α} {Q' : List V → Hp → Prop} (s : SD K P G σ H e) (p : Ps K P W A G σ H e (R.bind (m e) f))
    (k : ∀ d e1 v H', Rel G σ H e σ H' e1 → SD K P G σ H' e1 → RpA K (hide (G ++ owns e1 σ) H') v d → Ps K P W A G σ H' e1 (f d e1) → Q' v H') : tDA K P W m σ H Q' :=
  ⟨G, e, s, stepG p fun d e1 H' x s1 p1 v r => k d e1 v H' x s1 r p1⟩
theorem stepB {α : Type} {A : α → Env → Hp → Prop} {m : M Bool} {f : Bool → Env → R α} {Q' : Bool → Hp → Prop} (s : SD K P G σ H e) (p : Ps K P W A G σ H e (R.bind (m e) f))
    (k : ∀ d e1 H', Rel G σ H e σ H' e1 → SD K P G σ H' e1 → Ps K P W A G σ H' e1 (f d e1) → Q' d H') : tDT K P W m σ H Q' :=
  ⟨G, e, s, stepG p fun d e1 H' x s1 p1 => k d e1 H' x s1 p1⟩
end
end TD

end
section

/-! TD2: expressions over data -/
namespace TD
open PySem PySem.Spec PyProof.Rows L2 Evl
variable [HasT]
/-! ### what stands at S is something -/
def Wl (S : List Addr) (H : Hp) : Prop := ∀ a ∈ S, H a ≠ none
theorem SA.wl {K : PySem.W.Frag} {H0 H : Hp} : ∀ {e : Env} {σ : Sg}, SA K H0 H e σ → Wl (owns e σ) H
  | _, _, .nil => fun a h => by simp [owns] at h
  | _, _, .cons h t => fun a ha => by
    rcases List.mem_append.mp ha with ha | ha
    · cases h with
      | un => rw [own1_un] at ha; cases ha
      | val r => rw [own1_val] at ha; cases ha
      | own r =>
        have e : a = _ := List.mem_singleton.mp ha
        subst e
        cases r with
        | lst q _ => rw [q]; intro z; cases z
        | dK q _ _ => rw [q]; intro z; cases z
        | dT _ q _ _ => rw [q]; intro z; cases z
    · exact SA.wl t a ha
section
variable {K : PySem.W.Frag} {S : List Addr} {H : Hp} {p : Addr}
theorem Wl.fresh (w : Wl S H) (h : H p = none) : p ∉ S := fun z => w p z h
theorem new_lst (w : Wl S H) (hp : H p = none) {vs : List V} {ds : List T} (r : RpA K (hide S H) vs ds) : Rp K (hide S (upd H p (.lst vs))) (.ref p) (.list ds) :=
  .lst (hide_at upd_same (w.fresh hp)) (r.mono (hide_mono (Ex.new hp)))
theorem new_tup (w : Wl S H) (hp : H p = none) {vs : List V} {ds : List T} (r : RpA K (hide S H) vs ds) : Rp K (hide S (upd H p (.tup vs))) (.ref p) (.tuple ds) :=
  .tup (hide_at upd_same (w.fresh hp)) (r.mono (hide_mono (Ex.new hp)))
end
def ofO {α : Type} : Option α → Env → R α
  | some a, e => .ok a e
  | none, _ => .bad
/-- what an operation on data is to give -/
def PostO (K : PySem.W.Frag) (S : List Addr) (Q : VK) (H : Hp) (o : Option T) : Prop := ∃ d, o = some d ∧ ∀ v H', Ex H H' → Rp K (hide S H') v d → Q v H'
def OpD (K : PySem.W.Frag) (r : R2) (f : T → T → Option T) : Prop := ∀ (S : List Addr) (H : Hp) (x y : V) (a b : T) (Q : VK), Wl S H → Rp K (hide S H) x a → Rp K (hide S H) y b → PostO K S Q H (f a b) → r x y H Q
def UnD (K : PySem.W.Frag) (r : V → Hp → VK → Prop) (f : T → Option T) : Prop := ∀ (S : List Addr) (H : Hp) (x : V) (a : T) (Q : VK), Wl S H → Rp K (hide S H) x a → PostO K S Q H (f a) → r x H Q
def CaD (K : PySem.W.Frag) (r : List V → Hp → VK → Prop) (f : List T → Option T) : Prop := ∀ (S : List Addr) (H : Hp) (xs : List V) (as : List T) (Q : VK), Wl S H → RpA K (hide S H) xs as → PostO K S Q H (f as) → r xs H Q
theorem post_o {K : PySem.W.Frag} {P : List (Nat × Addr)} {W : WX} {Q : VK} {G : List Addr} {σ : Sg} {H : Hp} {e : Env} {o : Option T} (s : SD K P G σ H e) (p : Ps K P W (AV K Q G σ) G σ H e (ofO o e)) : PostO K (G ++ owns e σ) Q H o := by
  cases o with
  | none => exact p.elim
  | some d => exact ⟨d, rfl, fun v H' x r => p H' (.ex x) (s.ex x) v r⟩
theorem PostO.ex {K : PySem.W.Frag} {S : List Addr} {Q : VK} {H H' : Hp} {o : Option T} (p : PostO K S Q H o) (x : Ex H H') : PostO K S Q H' o := by
  obtain ⟨d, h, k⟩ := p
  exact ⟨d, h, fun v H2 x2 r => k v H2 (x.trans x2) r⟩
/-! ### mirrors of expressions -/
def mV (i : Nat) : M T := fun e => match e[i]? with
  | some (.val t) => .ok t e
  | _ => .bad
def mC (t : T) : M T := fun e => .ok t e
def mOp (f : T → T → Option T) (a b : M T) : M T := fun e => (a e).bind fun x e => (b e).bind fun y e => ofO (f x y) e
def mUn (f : T → Option T) (a : M T) : M T := fun e => (a e).bind fun x e => ofO (f x) e
def mNil : M (List T) := fun e => .ok [] e
def mCons (a : M T) (r : M (List T)) : M (List T) := fun e => (a e).bind fun x e => (r e).bind fun xs e => .ok (x :: xs) e
def mCa (f : List T → Option T) (a : M (List T)) : M T := fun e => (a e).bind fun xs e => ofO (f xs) e
theorem SD.wl {K : PySem.W.Frag} {P : List (Nat × Addr)} {G : List Addr} {σ : Sg} {H : Hp} {e : Env} (s : SD K P G σ H e) : Wl (G ++ owns e σ) H := fun a h => by
  rcases List.mem_append.mp h with h | h
  · exact s.tr a h
  · exact s.sa.wl a h
theorem SA.pl {K : PySem.W.Frag} {H0 H : Hp} : ∀ {e : Env} {σ : Sg}, SA K H0 H e σ → ∀ a ∈ owns e σ, ∃ o, H a = some o ∧ Plain o
  | _, _, .nil => fun a h => by simp [owns] at h
  | _, _, .cons h t => fun a ha => by
    rcases List.mem_append.mp ha with ha | ha
    · cases h with
      | un => rw [own1_un] at ha; cases ha
      | val r => rw [own1_val] at ha; cases ha
      | own r =>
        have e : a = _ := List.mem_singleton.mp ha
        subst e
        exact plain_own r
    · exact SA.pl t a ha
theorem SD.gla {K : PySem.W.Frag} {P : List (Nat × Addr)} {G : List Addr} {σ : Sg} {H : Hp} {e : Env} (s : SD K P G σ H e) : GL (G ++ owns e σ) H := fun a h => by
  rcases List.mem_append.mp h with h | h
  · exact s.gl a h
  · obtain ⟨o, h1, h2⟩ := s.sa.pl a h
    exact .inl ⟨o, h1, h2.1⟩
theorem SD.keep {K : PySem.W.Frag} {P : List (Nat × Addr)} {G : List Addr} {σ : Sg} {H H' : Hp} {e : Env} (s : SD K P G σ H e) (g : ∀ a ∈ G ++ owns e σ, ∀ o, NoT o → H a = some o → H' a = some o) : ∀ a ∈ owns e σ, ∀ u, H a = some u → H' a = some u := fun a ha u hu => by
  obtain ⟨o, h1, h2⟩ := s.sa.pl a ha
  have e := h1.symm.trans hu
  cases e
  exact g a (List.mem_append_right _ ha) _ h2.1 h1
theorem SD.tha {K : PySem.W.Frag} {P : List (Nat × Addr)} {G : List Addr} {σ : Sg} {H : Hp} {e : Env} (s : SD K P G σ H e) : ∀ p ∈ HasT.T, p.1 ∈ G ++ owns e σ := fun p hp => List.mem_append_left _ (s.th p hp)
section
variable {X : Cx} {P : List (Nat × Addr)} {W : WX} {e a b : Expr} {es : List Expr} {ma mb : M T} {ml : M (List T)} {pos : Pos} {r : R2} {f : T → T → Option T}
theorem de_var {i : Nat} (h : PE X e (tVar i)) : PE X e (tD X.K P W (mV i)) := h.weak fun σ H Q ⟨G, en, s, p⟩ => by
  unfold mV at p
  cases q : en[i]? with
  | none => rw [q] at p; exact p.elim
  | some sl =>
    rw [q] at p
    cases sl with
    | val t =>
      obtain ⟨v, h1, h2⟩ := s.sa.val q
      exact ⟨v, h1, p H .refl s v h2⟩
    | un => exact p.elim
    | own t => exact p.elim
theorem de_int {i : Int} {j} : PE X (.Constant (.int i) j pos) (tD X.K P W (mC (.int i))) := pe_int.weak fun σ H Q ⟨G, en, s, p⟩ => p H .refl s _ (.int i)
theorem de_bl {i : Bool} {j} : PE X (.Constant (.bool i) j pos) (tD X.K P W (mC (.bool i))) := pe_bl.weak fun σ H Q ⟨G, en, s, p⟩ => p H .refl s _ (.bl i)
theorem de_non {j} : PE X (.Constant .none j pos) (tD X.K P W (mC .none)) := pe_non.weak fun σ H Q ⟨G, en, s, p⟩ => p H .refl s _ .non
theorem de_str {i : Str} {j} : PE X (.Constant (.str i) j pos) (tD X.K P W (mC (.str i))) := pe_str.weak fun σ H Q ⟨G, en, s, p⟩ => p H .refl s _ (.str i)
/-- a constant of the module -/
theorem de_glob {v : V} {t : T} (h : PE X e (tC v)) (r : ∀ H, Rp X.K H v t) : PE X e (tD X.K P W (mC t)) := h.weak fun σ H Q ⟨G, en, s, p⟩ => p H .refl s _ (r _)
theorem two {K : PySem.W.Frag} {r : R2} (hd : OpD K r f) {σ : Sg} {H : Hp} {Q : VK} (h : tD K P W (mOp f ma mb) σ H Q) : tOp r (tD K P W ma) (tD K P W mb) σ H Q := by
  obtain ⟨G, en, s, p⟩ := h
  exact step s p fun d e1 v H1 x1 s1 r1 p1 => step s1 p1 fun d2 e2 v2 H2 x2 s2 r2 p2 => hd _ H2 v v2 d d2 Q s2.wl (x2.rp r1) r2 (post_o s2 p2)
theorem de_op {op : Operator} (ho : OpR X (binaryOp op) r) (hd : OpD X.K r f) (ha : PE X a (tD X.K P W ma)) (hb : PE X b (tD X.K P W mb)) : PE X (.BinOp a op b pos) (tD X.K P W (mOp f ma mb)) :=
  (pe_op ho ha hb).weak fun σ H Q h => two hd h
theorem de_cmp {op : CmpOp} (ho : OpR X (compareOp op) r) (hm : behindInMarks op b = false) (hd : OpD X.K r f) (ha : PE X a (tD X.K P W ma)) (hb : PE X b (tD X.K P W mb)) : PE X (.Compare a [op] [b] pos) (tD X.K P W (mOp f ma mb)) :=
  (pe_cmpR ho ha hb hm).weak fun σ H Q h => two hd h
theorem de_ix (ho : IxR X r) (hd : OpD X.K r f) (ha : PE X a (tD X.K P W ma)) (hb : PE X b (tD X.K P W mb)) (hs : PlainIx b) : PE X (.Subscript a b pos) (tD X.K P W (mOp f ma mb)) :=
  (pe_ix ho ha hb hs).weak fun σ H Q h => two hd h
theorem de_un {op : UnaryOp} {r : V → Hp → VK → Prop} {f : T → Option T} (ho : UnR X (unaryOp op) r) (hd : UnD X.K r f) (ha : PE X a (tD X.K P W ma)) : PE X (.UnaryOp op a pos) (tD X.K P W (mUn f ma)) :=
  (pe_un ho ha).weak fun σ H Q ⟨G, en, s, p⟩ => step s p fun d e1 v H1 x1 s1 r1 p1 => hd _ H1 v d Q s1.wl r1 (post_o s1 p1)
/-- argument lists -/
theorem da_nil : PA X [] (tDA X.K P W mNil) := pa_nil.weak fun σ H Q ⟨G, en, s, p⟩ => p H .refl s [] .nil
theorem da_cons (ha : PE X e (tD X.K P W ma)) (hr : PA X es (tDA X.K P W ml)) (hs : starEach (e :: es) X.env = (false, eval e X.env) :: starEach es X.env := by rfl) : PA X (e :: es) (tDA X.K P W (mCons ma ml)) :=
  (pa_cons ha hr hs).weak fun σ H Q ⟨G, en, s, p⟩ => step s p fun d e1 v H1 x1 s1 r1 p1 => stepA s1 p1 fun ds e2 vs H2 x2 s2 r2 p2 => p2 H2 .refl s2 (v :: vs) (.cons (x2.rp r1) r2)
/-- a builtin, a built-in class called -/
theorem de_callB {id : String} {x : Str} {p : Pos} {r : List V → Hp → VK → Prop} {f : List T → Option T} (hc : CallR X (.builtin id) r) (hd : CaD X.K r f) (hg : Gl X x) (hm : X.mg x = none) (hv : bootBuiltins x = some (.builtin id)) (ha : PA X (e :: es) (tDA X.K P W ml))
    (h : PE X (.Call (.Name x p) (e :: es) [] pos) (tCB r (tDA X.K P W ml))) : PE X (.Call (.Name x p) (e :: es) [] pos) (tD X.K P W (mCa f ml)) :=
  h.weak fun σ H Q ⟨G, en, s, p⟩ => stepA s p fun d e1 v H1 x1 s1 r1 p1 => hd _ H1 v d Q s1.wl r1 (post_o s1 p1)
end
end TD

end
section

/-! TD3: tests and statements over data -/
namespace TD
open PySem PySem.Spec PyProof.Rows L2 Evl
variable [HasT]
/-! ### tests -/
def asB : T → Option Bool
  | .bool b => some b
  | _ => none
def mB (m : M T) : M Bool := fun e => (m e).bind fun x e => ofO (asB x) e
def mAnd (a b : M Bool) : M Bool := fun e => (a e).bind fun x e => if x = true then b e else .ok false e
def mOr (a b : M Bool) : M Bool := fun e => (a e).bind fun x e => if x = true then .ok true e else b e
def mNot (a : M Bool) : M Bool := fun e => (a e).bind fun x e => .ok (!x) e
def mAndV (a b : M T) : M T := fun e => (mB a e).bind fun x e => if x = true then b e else .ok (.bool false) e
def mOrV (a b : M T) : M T := fun e => (mB a e).bind fun x e => if x = true then .ok (.bool true) e else b e
def mNotV (a : M T) : M T := fun e => (mB a e).bind fun x e => .ok (.bool (!x)) e
def mIf (c : M Bool) (a b : M T) : M T := fun e => (c e).bind fun x e => if x = true then a e else b e
/-- the truth of a value -/
def tru : T → Option Bool
  | .none => some false
  | .bool b => some b
  | .int i => some (i != 0)
  | .list xs => some (!xs.isEmpty)
  | .tuple xs => some (!xs.isEmpty)
  | _ => none
def mTru (m : M T) : M Bool := fun e => (m e).bind fun x e => ofO (tru x) e
def mChain (f g : T → T → Option T) (a b c : M T) : M T := fun e => (a e).bind fun x e => (b e).bind fun y e => (ofO ((f x y).bind asB) e).bind fun k e => if k = true then (c e).bind fun z e => ofO (g y z) e else .ok (.bool false) e
section
variable {X : Cx} {P : List (Nat × Addr)} {W : WX} {e a b c : Expr} {rest : List Expr} {ma mb mc : M T} {na nb : M Bool} {pos : Pos}
theorem rp_bool {K : PySem.W.Frag} {H : Hp} {v : V} {b : Bool} (r : Rp K H v (.bool b)) : v = .bl b := by
  cases r
  rfl
theorem rp_int {K : PySem.W.Frag} {H : Hp} {v : V} {b : Int} (r : Rp K H v (.int b)) : v = .int b := by
  cases r
  rfl
theorem asB_some {d : T} {b : Bool} (h : asB d = some b) : d = .bool b := by
  cases d <;> first | (cases h; rfl) | cases h
theorem isB {K : PySem.W.Frag} {σ : Sg} {H : Hp} {Q : Bool → Hp → Prop} (h : tDT K P W (mB ma) σ H Q) : tD K P W ma σ H (fun x H1 => ∃ k, x = .bl k ∧ Q k H1) := by
  obtain ⟨G, en, s, p⟩ := h
  refine step s p fun d e1 v H1 x1 s1 r1 p1 => ?_
  cases q : asB d with
  | none => rw [q] at p1; exact p1.elim
  | some k =>
    rw [q] at p1
    obtain rfl := asB_some q
    exact ⟨k, rp_bool r1, p1 H1 .refl s1⟩
theorem dt_val (h : PE X e (tD X.K P W ma)) (he : ∀ whole, isTrue e X.env whole = (do let v ← whole; standAt e.pos; holding [v] (truthy v)) := by intro _; rfl) : PT X e (tDT X.K P W (mB ma)) :=
  (pt_val h he).weak fun σ H Q h => isB h
theorem dt_cmp {op : CmpOp} {r : R2} {f : T → T → Option T} (ho : OpR X (compareOp op) r) (hm : behindInMarks op b = false) (hd : OpD X.K r f) (ha : PE X a (tD X.K P W ma)) (hb : PE X b (tD X.K P W mb)) : PT X (.Compare a [op] [b] pos) (tDT X.K P W (mB (mOp f ma mb))) :=
  (pt_cmpR ho ha hb hm).weak fun σ H Q h => by
    have q := isB h
    exact two hd q
theorem chain {K : PySem.W.Frag} {r r' : R2} {f g : T → T → Option T} (hd : OpD K r f) (hd' : OpD K r' g) {σ : Sg} {H : Hp} {Q : VK} (h : tD K P W (mChain f g ma mb mc) σ H Q) : tChain r r' (tD K P W ma) (tD K P W mb) (tD K P W mc) σ H Q := by
  obtain ⟨G, en, s, p⟩ := h
  refine step s p fun d e1 v H1 x1 s1 r1 p1 => step s1 p1 fun d2 e2 v2 H2 x2 s2 r2 p2 => ?_
  cases q : f d d2 with
  | none => rw [q] at p2; exact p2.elim
  | some z =>
    cases q2 : asB z with
    | none => rw [q, Option.bind_some, q2] at p2; exact p2.elim
    | some k =>
      rw [q, Option.bind_some, q2] at p2
      obtain rfl := asB_some q2
      refine hd _ H2 v v2 d d2 _ s2.wl (x2.rp r1) r2 ⟨_, q, fun w H3 x3 r3 => ?_⟩
      refine ⟨k, rp_bool r3, ?_⟩
      have p3 := Ps.go (.ex x3) p2
      have s3 := s2.ex x3
      have r3' := r2.mono (hide_mono (S := G ++ owns e2 σ) x3)
      cases k with
      | true =>
        have p4 : Ps K P W (AV K Q G σ) G σ H3 e2 ((mc e2).bind fun z e => ofO (g d2 z) e) := p3
        exact iteT (step s3 p4 fun d4 e4 v4 H4 x4 s4 r4 p5 => hd' _ H4 v2 v4 d2 d4 Q s4.wl (x4.rp r3') r4 (post_o s4 p5))
      | false =>
        have p4 : Ps K P W (AV K Q G σ) G σ H3 e2 (.ok (.bool false) e2) := p3
        exact iteF (p4 H3 .refl s3 _ (.bl false))
theorem de_chain {op op' : CmpOp} {r r' : R2} {f g : T → T → Option T} (ho : OpR X (compareOp op) r) (ho' : OpR X (compareOp op') r') (hd : OpD X.K r f) (hd' : OpD X.K r' g) (ha : PE X a (tD X.K P W ma)) (hb : PE X b (tD X.K P W mb)) (hc : PE X c (tD X.K P W mc))
    (hm : lastMarks [op, op'] [b, c] = false := by with_unfolding_all rfl) : PE X (.Compare a [op, op'] [b, c] pos) (tD X.K P W (mChain f g ma mb mc)) := (pe_chain ho ho' ha hb hc hm).weak fun σ H Q h => chain hd hd' h
theorem dt_chain {op op' : CmpOp} {r r' : R2} {f g : T → T → Option T} (ho : OpR X (compareOp op) r) (ho' : OpR X (compareOp op') r') (hd : OpD X.K r f) (hd' : OpD X.K r' g) (ha : PE X a (tD X.K P W ma)) (hb : PE X b (tD X.K P W mb)) (hc : PE X c (tD X.K P W mc))
    (hm : lastMarks [op, op'] [b, c] = false := by with_unfolding_all rfl) : PT X (.Compare a [op, op'] [b, c] pos) (tDT X.K P W (mB (mChain f g ma mb mc))) := (pt_chain ho ho' ha hb hc hm).weak fun σ H Q h => by
  have q := isB h
  exact chain hd hd' q
theorem and_ {K : PySem.W.Frag} {σ : Sg} {H : Hp} {Q : Bool → Hp → Prop} (h : tDT K P W (mAnd na nb) σ H Q) : tAnd (tDT K P W na) (tDT K P W nb) σ H Q := by
  obtain ⟨G, en, s, p⟩ := h
  refine stepB s p fun d e1 H1 x1 s1 p1 => ?_
  cases d with
  | true => exact iteT ⟨G, e1, s1, p1⟩
  | false => exact iteF (p1 H1 .refl s1)
theorem or_ {K : PySem.W.Frag} {σ : Sg} {H : Hp} {Q : Bool → Hp → Prop} (h : tDT K P W (mOr na nb) σ H Q) : tOr (tDT K P W na) (tDT K P W nb) σ H Q := by
  obtain ⟨G, en, s, p⟩ := h
  refine stepB s p fun d e1 H1 x1 s1 p1 => ?_
  cases d with
  | true => exact iteT (p1 H1 .refl s1)
  | false => exact iteF ⟨G, e1, s1, p1⟩
theorem dw_and (ha : PT X a (tDT X.K P W na)) (hb : PW X (.BoolOp .And (b :: rest) pos) (tDT X.K P W nb)) : PW X (.BoolOp .And (a :: b :: rest) pos) (tDT X.K P W (mAnd na nb)) := (pw_and ha hb).weak fun σ H Q h => and_ h
theorem dw_or (ha : PT X a (tDT X.K P W na)) (hb : PW X (.BoolOp .Or (b :: rest) pos) (tDT X.K P W nb)) : PW X (.BoolOp .Or (a :: b :: rest) pos) (tDT X.K P W (mOr na nb)) := (pw_or ha hb).weak fun σ H Q h => or_ h
theorem dt_not (ha : PT X a (tDT X.K P W na)) : PT X (.UnaryOp .Not a pos) (tDT X.K P W (mNot na)) := (pt_not ha).weak fun σ H Q ⟨G, en, s, p⟩ => stepB s p fun d e1 H1 x1 s1 p1 => p1 H1 .refl s1
theorem toB {K : PySem.W.Frag} {σ : Sg} {H : Hp} {α : Type} {A : α → Env → Hp → Prop} {G : List Addr} {en : Env} {f : Bool → Env → R α} {Q' : VK} (s : SD K P G σ H en) (p : Ps K P W A G σ H en ((mB ma en).bind f))
    (k : ∀ d e1 H', Rel G σ H en σ H' e1 → SD K P G σ H' e1 → Ps K P W A G σ H' e1 (f d e1) → Q' (.bl d) H') : tD K P W ma σ H Q' := by
  have p' : Ps K P W A G σ H en ((ma en).bind fun x e => (ofO (asB x) e).bind f) := by
    have e : (mB ma en).bind f = (ma en).bind fun x e => (ofO (asB x) e).bind f := by
      unfold mB
      cases ma en <;> rfl
    rw [← e]
    exact p
  refine step s p' fun d e1 v H1 x1 s1 r1 p1 => ?_
  cases q : asB d with
  | none => rw [q] at p1; exact p1.elim
  | some b =>
    rw [q] at p1
    obtain rfl := asB_some q
    rw [rp_bool r1]
    exact k b e1 H1 x1 s1 p1
theorem de_and (ha : PE X a (tD X.K P W ma)) (hb : PE X (.BoolOp .And (b :: rest) pos) (tD X.K P W mb)) : PE X (.BoolOp .And (a :: b :: rest) pos) (tD X.K P W (mAndV ma mb)) := (pe_and ha hb).weak fun σ H Q ⟨G, en, s, p⟩ =>
  toB s p fun d e1 H1 x1 s1 p1 => ⟨d, rfl, by
    cases d with
    | true => exact iteT ⟨G, e1, s1, p1⟩
    | false => exact iteF (p1 H1 .refl s1 _ (.bl false))⟩
theorem de_or (ha : PE X a (tD X.K P W ma)) (hb : PE X (.BoolOp .Or (b :: rest) pos) (tD X.K P W mb)) : PE X (.BoolOp .Or (a :: b :: rest) pos) (tD X.K P W (mOrV ma mb)) := (pe_or ha hb).weak fun σ H Q ⟨G, en, s, p⟩ =>
  toB s p fun d e1 H1 x1 s1 p1 => ⟨d, rfl, by
    cases d with
    | true => exact iteT (p1 H1 .refl s1 _ (.bl true))
    | false => exact iteF ⟨G, e1, s1, p1⟩⟩
theorem de_not (ha : PE X a (tD X.K P W ma)) : PE X (.UnaryOp .Not a pos) (tD X.K P W (mNotV ma)) := (pe_not ha).weak fun σ H Q ⟨G, en, s, p⟩ =>
  toB s p fun d e1 H1 x1 s1 p1 => ⟨d, rfl, p1 H1 .refl s1 _ (.bl _)⟩
theorem de_if (hc : PT X c (tDT X.K P W na)) (ha : PE X a (tD X.K P W ma)) (hb : PE X b (tD X.K P W mb)) : PE X (.IfExp c a b pos) (tD X.K P W (mIf na ma mb)) := (pe_ifExp hc ha hb).weak fun σ H Q ⟨G, en, s, p⟩ =>
  stepB s p fun d e1 H1 x1 s1 p1 => by
    cases d with
    | true => exact iteT ⟨G, e1, s1, p1⟩
    | false => exact iteF ⟨G, e1, s1, p1⟩
theorem empty_eq {K : PySem.W.Frag} {H : Hp} {vs : List V} {ds : List T} (r : RpA K H vs ds) : vs.isEmpty = ds.isEmpty := by cases r <;> rfl
theorem tru_ok {K : PySem.W.Frag} {S : List Addr} {H : Hp} {v : V} {d : T} {b : Bool} (r : Rp K (hide S H) v d) (h : tru d = some b) : TruV K v H b := by
  cases r with
  | non => cases h; rfl
  | bl b => cases h; rfl
  | int i => cases h; rfl
  | str x => cases h
  | lst q r =>
    cases h
    exact .inl ⟨_, .inl (.inl (hide_ex _ _ _ _ q)), by rw [empty_eq r]⟩
  | tup q r =>
    cases h
    exact .inr (.inl ⟨_, .inl (.inl (hide_ex _ _ _ _ q)), by rw [empty_eq r]⟩)
  | dK _ _ _ => cases h
  | dT _ _ _ _ => cases h
  | scr _ => cases h
  | obj _ _ _ => cases h
theorem dt_tru (h : PE X e (tD X.K P W ma)) (he : ∀ whole, isTrue e X.env whole = (do let v ← whole; standAt e.pos; holding [v] (truthy v)) := by intro _; rfl) : PT X e (tDT X.K P W (mTru ma)) :=
  (pt_truth h he).weak fun σ H Q ⟨G, en, s, p⟩ => step s p fun d e1 v H1 x1 s1 r1 p1 => by
    cases q : tru d with
    | none => rw [q] at p1; exact p1.elim
    | some b =>
      rw [q] at p1
      exact ⟨b, tru_ok r1 q, p1 H1 .refl s1⟩
end
/-! ### statements -/
inductive RS where
  | nx (e : Env)
  | rt (t : T) (e : Env)
  | bk (e : Env)
  | ct (e : Env)
  | ex (c : Str) (fs : List (Str × T)) (e : Env)
  | bad
abbrev MS := Env → RS
def R.st {α : Type} : R α → (α → Env → RS) → RS
  | .ok a e, f => f a e
  | .ex c fs e, _ => .ex c fs e
  | .bad, _ => .bad
section
variable (K : PySem.W.Frag) (P : List (Nat × Addr)) (W : WX)
def PsS (D : Ends) (G : List Addr) (σ : Sg) (H : Hp) (e : Env) : RS → Prop
  | .nx e' => ∀ σ' H', Rel G σ H e σ' H' e' → SD K P G σ' H' e' → D.nx σ' H'
  | .bk e' => ∀ σ' H', Rel G σ H e σ' H' e' → SD K P G σ' H' e' → D.bk σ' H'
  | .ct e' => ∀ σ' H', Rel G σ H e σ' H' e' → SD K P G σ' H' e' → D.ct σ' H'
  | .rt t e' => ∀ v σ' H', Rel G σ H e σ' H' e' → SD K P G σ' H' e' → Rp K (hide (G ++ owns e' σ') H') v t → D.rt v H'
  | .ex c fs e' => ∀ dd σ' H', Rel G σ H e σ' H' e' → SD K P G σ' H' e' → XR K (hide (G ++ owns e' σ') H') H' dd fs → W (.ref (He.ga K c)) (some dd) σ' H'
  | .bad => False
def tS (m : MS) : TS := fun D σ H => ∃ G e, SD K P G σ H e ∧ PsS K P W D G σ H e (m e)
end
def sNext : MS := .nx
def sSeq (a b : MS) : MS := fun e => match a e with
  | .nx e1 => b e1
  | r => r
def sBreak : MS := .bk
def sCont : MS := .ct
def sAsg (i : Nat) (m : M T) : MS := fun e => (m e).st fun t e1 => .nx (e1.set i (.val t))
def sDrop (m : M T) : MS := fun e => (m e).st fun _ e1 => .nx e1
def sRet (m : M T) : MS := fun e => (m e).st fun t e1 => .rt t e1
def sRetN : MS := fun e => .rt .none e
def sIf (c : M Bool) (a b : MS) : MS := fun e => (c e).st fun k e1 => if k = true then a e1 else b e1
section
variable {K : PySem.W.Frag} {P : List (Nat × Addr)} {W : WX} {G : List Addr} {σ σ1 : Sg} {H H1 : Hp} {e e1 : Env}
theorem PsS.go {D : Ends} {r : RS} (x : Rel G σ H e σ1 H1 e1) (p : PsS K P W D G σ H e r) : PsS K P W D G σ1 H1 e1 r := by
  cases r with
  | nx e2 => exact fun σ2 H2 y s => p σ2 H2 (x.trans y) s
  | bk e2 => exact fun σ2 H2 y s => p σ2 H2 (x.trans y) s
  | ct e2 => exact fun σ2 H2 y s => p σ2 H2 (x.trans y) s
  | rt t e2 => exact fun v σ2 H2 y s => p v σ2 H2 (x.trans y) s
  | ex c fs e2 => exact fun dd σ2 H2 y s => p dd σ2 H2 (x.trans y) s
  | bad => exact p
/-- a part's value, then on -/
theorem stepS {α : Type} {A : α → Env → Hp → Prop} {D : Ends} {m : M α} {f : α → Env → RS} (p : PsS K P W D G σ H e ((m e).st f))
    (k : ∀ d e1 H', Rel G σ H e σ H' e1 → SD K P G σ H' e1 → PsS K P W D G σ H' e1 (f d e1) → A d e1 H') : Ps K P W A G σ H e (m e) := by
  cases q : m e with
  | ok d e1 =>
    rw [q] at p
    exact fun H' x s1 => k d e1 H' x s1 (PsS.go x p)
  | ex c fs e1 =>
    rw [q] at p
    exact fun dd H' x s1 => p dd σ H' x s1
  | bad =>
    rw [q] at p
    exact p
theorem owns_sub {i : Nat} {x : Sl} {o : Option V} (h : own1 x o = []) : ∀ {e : Env} {σ : Sg}, (owns (e.set i x) (σ.set i o)).Sublist (owns e σ) := by
  induction i with
  | zero =>
    intro e σ
    cases e with
    | nil => exact List.Sublist.refl _
    | cons a e =>
      cases σ with
      | nil => exact List.Sublist.refl _
      | cons b σ =>
        show (own1 x o ++ owns e σ).Sublist (own1 a b ++ owns e σ)
        rw [h]
        exact List.sublist_append_right _ _
  | succ i ih =>
    intro e σ
    cases e with
    | nil => exact List.Sublist.refl _
    | cons a e =>
      cases σ with
      | nil => exact List.Sublist.refl _
      | cons b σ => exact (List.Sublist.refl (own1 a b)).append (ih (e := e) (σ := σ))
/-- a slot gets a value -/
theorem SD.set {i : Nat} {t : T} {v : V} (s : SD K P G σ H e) (hp : ∀ q ∈ P, q.1 ≠ i) (r : Rp K (hide (G ++ owns e σ) H) v t) : SD K P G (σ.set i (some v)) H (e.set i (.val t)) ∧ Rel G σ H e (σ.set i (some v)) H (e.set i (.val t)) := by
  have sub : (owns (e.set i (.val t)) (σ.set i (some v))).Sublist (owns e σ) := owns_sub own1_val
  have x : Ex (hide (G ++ owns e σ) H) (hide (G ++ owns (e.set i (.val t)) (σ.set i (some v))) H) := hide_sub fun a h => by
    rcases List.mem_append.mp h with h | h
    · exact List.mem_append_left _ h
    · exact List.mem_append_right _ (sub.subset h)
  refine ⟨⟨?_, s.nd.sublist ((List.Sublist.refl G).append sub), s.gl, fun q hq => ?_, s.tb, s.th⟩, ⟨x, fun _ _ _ _ h => h⟩⟩
  · exact (SA.setVal r i s.sa).mono x fun a _ u h => h
  · obtain ⟨h1, t1, h2⟩ := s.pr q hq
    refine ⟨?_, t1, ?_⟩
    · rw [List.getElem?_set_ne (Ne.symm (hp q hq))]; exact h1
    · rw [List.getElem?_set_ne (Ne.symm (hp q hq))]; exact h2
end
section
variable {X : Cx} {P : List (Nat × Addr)} {W : WX} {e : Expr} {st : Stmt} {rest body orelse : List Stmt} {m : M T} {c : M Bool} {a b : MS} {pos : Pos}
theorem ds_nil : PSs X [] (tS X.K P W sNext) := pss_nil.weak fun D σ H ⟨G, en, s, p⟩ => p σ H .refl s
theorem ds_cons (h1 : PS X st (tS X.K P W a)) (h2 : PSs X rest (tS X.K P W b)) : PSs X (st :: rest) (tS X.K P W (sSeq a b)) := (pss_cons h1 h2).weak fun D σ H ⟨G, en, s, p⟩ => by
  refine ⟨G, en, s, ?_⟩
  have p' : PsS X.K P W D G σ H en (match a en with | .nx e1 => b e1 | r => r) := p
  cases q : a en with
  | nx e1 =>
    rw [q] at p'
    exact fun σ1 H1 x1 s1 => ⟨G, e1, s1, PsS.go x1 p'⟩
  | rt t e1 => rw [q] at p'; exact p'
  | bk e1 => rw [q] at p'; exact p'
  | ct e1 => rw [q] at p'; exact p'
  | ex c fs e1 => rw [q] at p'; exact p'
  | bad => rw [q] at p'; exact p'
theorem ds_one (h1 : PS X st (tS X.K P W a)) : PSs X [st] (tS X.K P W a) := pss_one h1
theorem d_pass : PS X (.Pass pos) (tS X.K P W sNext) := ps_pass.weak fun D σ H ⟨G, en, s, p⟩ => p σ H .refl s
theorem d_break : PS X (.Break pos) (tS X.K P W sBreak) := ps_break.weak fun D σ H ⟨G, en, s, p⟩ => p σ H .refl s
theorem d_cont : PS X (.Continue pos) (tS X.K P W sCont) := ps_continue.weak fun D σ H ⟨G, en, s, p⟩ => p σ H .refl s
/-- name = e -/
theorem d_set {i : Nat} {x : Str} {pos' : Pos} (hN : X.N.Nodup) (hi : X.N[i]? = some x) (hx : Loc X.env.scope x) (hp : ∀ q ∈ P, q.1 ≠ i) (he : PE X e (tD X.K P W m)) (hs : swapsWith e (some (.Name x pos')) pos.line X.env = pure false := by rfl)
    (hf : X.fn x = true ∨ X.env.scope.names.lookup x = some .local := by first | exact .inl rfl | exact .inr rfl | assumption) : PS X (.Assign [.Name x pos'] e pos) (tS X.K P W (sAsg i m)) := (ps_set hN hi hx he hs hf).weak fun D σ H ⟨G, en, s, p⟩ =>
  ⟨G, en, s, stepS p fun d e1 H1 x1 s1 p1 v r => p1 _ H1 (s1.set hp r).2 (s1.set hp r).1⟩
/-- name = e by another rule (a comprehension's) -/
theorem d_setW {i : Nat} {te : TE} (hst : PS X st (tAsg te (gName i))) (hw : ∀ σ H Q, tD X.K P W m σ H Q → te σ H Q) (hp : ∀ q ∈ P, q.1 ≠ i) : PS X st (tS X.K P W (sAsg i m)) := hst.weak fun D σ H ⟨G, en, s, p⟩ =>
  hw _ _ _ ⟨G, en, s, stepS p fun d e1 H1 x1 s1 p1 v r => p1 _ H1 (s1.set hp r).2 (s1.set hp r).1⟩
theorem d_ret (he : PE X e (tD X.K P W m)) : PS X (.Return (some e) pos) (tS X.K P W (sRet m)) := (ps_ret he).weak fun D σ H ⟨G, en, s, p⟩ =>
  ⟨G, en, s, stepS p fun d e1 H1 x1 s1 p1 v r => p1 v σ H1 .refl s1 r⟩
theorem d_retN : PS X (.Return none pos) (tS X.K P W sRetN) := ps_retN.weak fun D σ H ⟨G, en, s, p⟩ => p .non σ H .refl s .non
theorem d_expr (he : PE X e (tD X.K P W m)) (hs : swapsWith e none pos.line X.env = pure false := by rfl) : PS X (.Expr e pos) (tS X.K P W (sDrop m)) := (ps_expr he hs).weak fun D σ H ⟨G, en, s, p⟩ =>
  ⟨G, en, s, stepS p fun d e1 H1 x1 s1 p1 v r => p1 σ H1 .refl s1⟩
theorem d_if (hc : PT X e (tDT X.K P W c)) (ha : PSs X body (tS X.K P W a)) (hb : PSs X orelse (tS X.K P W b)) : PS X (.If e body orelse pos) (tS X.K P W (sIf c a b)) := (ps_if hc ha hb).weak fun D σ H ⟨G, en, s, p⟩ =>
  ⟨G, en, s, stepS p fun d e1 H1 x1 s1 p1 => by
    cases d with
    | true => exact iteT ⟨G, e1, s1, p1⟩
    | false => exact iteF ⟨G, e1, s1, p1⟩⟩
/-- what is never reached -/
def sBad : MS := fun _ => .bad
theorem d_bad : PS X st (tS X.K P W sBad) := ps_never.weak fun D σ H ⟨G, en, s, p⟩ => p
end
end TD

end
section

/-! TD4: operations on data -/
namespace TD
open PySem PySem.Spec PyProof.Rows L2 Evl
variable [HasT]
section
variable {K : PySem.W.Frag}
theorem ret {S : List Addr} {H : Hp} {Q : VK} {v : V} {z : T} {o : Option T} (h : PostO K S Q H o) (e : o = some z) (r : Rp K (hide S H) v z) : Q v H := by
  obtain ⟨d, h1, k⟩ := h
  rw [e] at h1
  cases h1
  exact k v H (Ex.refl H) r
theorem retL {S : List Addr} {H : Hp} {Q : VK} {vs : List V} {ds : List T} {o : Option T} {p : Addr} (w : Wl S H) (h : PostO K S Q H o) (e : o = some (.list ds)) (hp : H p = none) (r : RpA K (hide S H) vs ds) : Q (.ref p) (upd H p (.lst vs)) := by
  obtain ⟨d, h1, k⟩ := h
  rw [e] at h1
  cases h1
  exact k _ _ (Ex.new hp) (new_lst w hp r)
theorem retU {S : List Addr} {H : Hp} {Q : VK} {vs : List V} {ds : List T} {o : Option T} {p : Addr} (w : Wl S H) (h : PostO K S Q H o) (e : o = some (.tuple ds)) (hp : H p = none) (r : RpA K (hide S H) vs ds) : Q (.ref p) (upd H p (.tup vs)) := by
  obtain ⟨d, h1, k⟩ := h
  rw [e] at h1
  cases h1
  exact k _ _ (Ex.new hp) (new_tup w hp r)
theorem nopost {S : List Addr} {H : Hp} {Q : VK} {α : Prop} (h : PostO K S Q H none) : α := by
  obtain ⟨d, h1, k⟩ := h
  cases h1
def addT : T → T → Option T
  | .int i, .int j => some (.int (i + j))
  | .list xs, .list ys => if xs.length + ys.length ≤ 100000 then some (.list (xs ++ ys)) else none
  | .tuple xs, .tuple ys => if xs.length + ys.length ≤ 100000 then some (.tuple (xs ++ ys)) else none
  | _, _ => none
abbrev rAddT (K : PySem.W.Frag) : R2 := fun x y H Q => rI0 (fun i j => .int (i + j)) x y H Q ∨ (rCat x y H Q ∨ rCatA K x y H Q)
theorem op_addT {X : Cx} : OpR X (binaryOp .Add) (rAddT X.K) := op_add.or (op_cat.or op_catA)
theorem nil_of {H : Hp} {ds : List T} (r : RpA K H [] ds) : ds = [] := by
  cases r
  rfl
theorem opd_add : OpD K (rAddT K) addT := by
  intro S H x y a b Q w rx ry h
  cases rx with
  | int i => cases ry with
    | int j => exact .inl ⟨i, j, rfl, rfl, ret h rfl (.int _)⟩
    | _ => exact nopost h
  | lst q1 r1 => cases ry with
    | lst q2 r2 =>
      rename_i p1 xs ds p2 ys es
      by_cases hz : ds.length + es.length ≤ 100000
      · exact .inr (.inl ⟨p1, p2, xs, ys, rfl, rfl, hide_ex _ _ _ _ q1, hide_ex _ _ _ _ q2, sz_of (by rw [r1.length, r2.length]; exact hz), fun p hp => retL w h (if_pos hz) hp (r1.append r2)⟩)
      · have h' : PostO K S Q H (if ds.length + es.length ≤ 100000 then some (.list (ds ++ es)) else none) := h
        rw [if_neg hz] at h'
        exact nopost h'
    | _ => exact nopost h
  | tup q1 r1 => cases ry with
    | tup q2 r2 =>
      rename_i p1 xs ds p2 ys es
      by_cases hz : ds.length + es.length ≤ 100000
      · refine .inr (.inr ⟨p1, p2, xs, ys, rfl, rfl, st_of (hide_ex _ _ _ _ q1), st_of (hide_ex _ _ _ _ q2), sz_of (by rw [r1.length, r2.length]; exact hz), fun e => ?_, fun n e => ?_, fun n1 n2 p hp => retU w h (if_pos hz) hp (r1.append r2)⟩)
        · subst e
          have ed := nil_of r1
          subst ed
          exact ret h (if_pos hz) (.tup q2 r2)
        · subst e
          have ed := nil_of r2
          subst ed
          exact ret h ((if_pos hz).trans (by rw [List.append_nil])) (.tup q1 r1)
      · have h' : PostO K S Q H (if ds.length + es.length ≤ 100000 then some (.tuple (ds ++ es)) else none) := h
        rw [if_neg hz] at h'
        exact nopost h'
    | _ => exact nopost h
  | _ => cases ry <;> exact nopost h
/-- operations on two ints -/
def intOp (g : Int → Int → Option T) : T → T → Option T
  | .int i, .int j => g i j
  | _, _ => none
theorem opd_int0 {g : Int → Int → V} {f : Int → Int → T} (hg : ∀ H i j, Rp K H (g i j) (f i j)) : OpD K (rI0 g) (intOp fun i j => some (f i j)) := by
  intro S H x y a b Q w rx ry h
  cases rx with
  | int i => cases ry with
    | int j => exact ⟨i, j, rfl, rfl, ret h rfl (hg _ i j)⟩
    | _ => exact nopost h
  | _ => cases ry <;> exact nopost h
theorem opd_int {C : Int → Int → Prop} {c : Int → Int → Bool} {g : Int → Int → V} {f : Int → Int → T} (hc : ∀ i j, c i j = true → C i j) (hg : ∀ H i j, Rp K H (g i j) (f i j)) : OpD K (rI C g) (intOp fun i j => if c i j = true then some (f i j) else none) := by
  intro S H x y a b Q w rx ry h
  cases rx with
  | int i => cases ry with
    | int j =>
      by_cases hz : c i j = true
      · exact ⟨i, j, rfl, rfl, hc i j hz, ret h (if_pos hz) (hg _ i j)⟩
      · have h' : PostO K S Q H (if c i j = true then some (f i j) else none) := h
        rw [if_neg hz] at h'
        exact nopost h'
    | _ => exact nopost h
  | _ => cases ry <;> exact nopost h
def subT : T → T → Option T := intOp fun i j => some (.int (i - j))
def ltT : T → T → Option T := intOp fun i j => some (.bool (decide (i < j)))
def leT : T → T → Option T := intOp fun i j => some (.bool (decide (i ≤ j)))
def gtT : T → T → Option T := intOp fun i j => some (.bool (decide (j < i)))
def geT : T → T → Option T := intOp fun i j => some (.bool (decide (j ≤ i)))
def modT : T → T → Option T := intOp fun i j => if decide (0 < j) = true then some (.int (i % j)) else none
def fdivT : T → T → Option T := intOp fun i j => if (decide (0 < j) && decide (j < 1073741824)) = true then some (.int (i / j)) else none
def powT : T → T → Option T := intOp fun i j => if (decide (0 ≤ j) && (decide (j ≤ 1000000) && decide (i.natAbs < 2 ^ 64))) = true then some (.int (i ^ j.toNat)) else none
theorem opd_sub : OpD K (rI0 fun i j => .int (i - j)) subT := opd_int0 fun _ _ _ => .int _
theorem opd_lt : OpD K (rI0 fun i j => .bl (decide (i < j))) ltT := opd_int0 fun _ _ _ => .bl _
theorem opd_le : OpD K (rI0 fun i j => .bl (decide (i ≤ j))) leT := opd_int0 fun _ _ _ => .bl _
theorem opd_gt : OpD K (rI0 fun i j => .bl (decide (j < i))) gtT := opd_int0 fun _ _ _ => .bl _
theorem opd_ge : OpD K (rI0 fun i j => .bl (decide (j ≤ i))) geT := opd_int0 fun _ _ _ => .bl _
theorem opd_mod : OpD K (rI (fun _ j => 0 < j) fun i j => .int (i % j)) modT := opd_int (fun _ _ h => of_decide_eq_true h) fun _ _ _ => .int _
theorem opd_fdiv : OpD K (rI CDiv fun i j => .int (i / j)) fdivT := opd_int (fun i j h => by
  rw [Bool.and_eq_true] at h
  exact ⟨of_decide_eq_true h.1, of_decide_eq_true h.2⟩) fun _ _ _ => .int _
theorem opd_pow : OpD K (rI CPow fun i j => .int (i ^ j.toNat)) powT := opd_int (fun i j h => by
  rw [Bool.and_eq_true, Bool.and_eq_true] at h
  exact ⟨of_decide_eq_true h.1, of_decide_eq_true h.2.1, of_decide_eq_true h.2.2⟩) fun _ _ _ => .int _
def bigB (i : Int) : Bool := decide (-(2 ^ 64) < i) && decide (i < 2 ^ 64)
def mulT : T → T → Option T
  | .int i, .int j => if (bigB i || bigB j) = true then some (.int (i * j)) else none
  | .list xs, .int k => if (decide (0 ≤ k) && decide (k ≤ 1000) && decide (xs.length ≤ 50)) = true then some (.list (List.replicate k.toNat xs).flatten) else none
  | _, _ => none
abbrev rMulT : R2 := fun x y H Q => rI CMul (fun i j => .int (i * j)) x y H Q ∨ rRep x y H Q
theorem op_mulT {X : Cx} : OpR X (binaryOp .Mult) rMulT := op_mul.or op_rep
theorem rep_rpa {H : Hp} {vs : List V} {ds : List T} (r : RpA K H vs ds) : ∀ n : Nat, RpA K H (List.replicate n vs).flatten (List.replicate n ds).flatten
  | 0 => .nil
  | n + 1 => by
    rw [List.replicate_succ, List.replicate_succ, List.flatten_cons, List.flatten_cons]
    exact r.append (rep_rpa r n)
theorem opd_mul : OpD K rMulT mulT := by
  intro S H x y a b Q w rx ry h
  cases rx with
  | int i => cases ry with
    | int j =>
      by_cases hz : (bigB i || bigB j) = true
      · refine .inl ⟨i, j, rfl, rfl, ?_, ret h (if_pos hz) (.int _)⟩
        unfold bigB at hz
        rw [Bool.or_eq_true, Bool.and_eq_true, Bool.and_eq_true] at hz
        rcases hz with hz | hz
        · exact .inl ⟨of_decide_eq_true hz.1, of_decide_eq_true hz.2⟩
        · exact .inr ⟨of_decide_eq_true hz.1, of_decide_eq_true hz.2⟩
      · have h' : PostO K S Q H (if (bigB i || bigB j) = true then some (.int (i * j)) else none) := h
        rw [if_neg hz] at h'
        exact nopost h'
    | _ => exact nopost h
  | lst q1 r1 => cases ry with
    | int k =>
      rename_i p1 xs ds
      by_cases hz : (decide (0 ≤ k) && decide (k ≤ 1000) && decide (ds.length ≤ 50)) = true
      · have hz' := hz
        rw [Bool.and_eq_true, Bool.and_eq_true] at hz
        have h1 := of_decide_eq_true hz.1.1
        have h2 := of_decide_eq_true hz.1.2
        have h3 := of_decide_eq_true hz.2
        refine .inr ⟨p1, k, xs, rfl, rfl, hide_ex _ _ _ _ q1, by omega, by omega, sz_of ?_, fun p hp => retL w h (if_pos hz') hp (rep_rpa r1 _)⟩
        rw [r1.length]
        have h4 : k.toNat ≤ 1000 := by omega
        exact Nat.le_trans (Nat.mul_le_mul h3 h4) (by decide)
      · have h' : PostO K S Q H (if (decide (0 ≤ k) && decide (k ≤ 1000) && decide (ds.length ≤ 50)) = true then some (.list (List.replicate k.toNat ds).flatten) else none) := h
        rw [if_neg hz] at h'
        exact nopost h'
    | _ => exact nopost h
  | _ => cases ry <;> exact nopost h
/-! == and != -/
def shp (d : T) : Bool := SeqAt.shaped (toP d)
def eqP (x y : T) : Bool := PyData.eqv (toP x) (toP y)
theorem toPs_map : ∀ ds : List T, toPs ds = ds.map toP
  | [] => by simp [toPs]
  | d :: ds => by simp [toPs, toPs_map ds]
theorem canAll_hd {d : PyData} {ds : List PyData} (c : PyData.canLayAll0 (d :: ds) = true) : d.canLay0 = true := by
  have c' : (PyData.canLay0 d && PyData.canLayAll0 ds) = true := by simpa only [PyData.canLayAll0] using c
  rw [Bool.and_eq_true] at c'
  exact c'.1
theorem canAll_tl {d : PyData} {ds : List PyData} (c : PyData.canLayAll0 (d :: ds) = true) : PyData.canLayAll0 ds = true := by
  have c' : (PyData.canLay0 d && PyData.canLayAll0 ds) = true := by simpa only [PyData.canLayAll0] using c
  rw [Bool.and_eq_true] at c'
  exact c'.2
mutual
theorem toDp {H : Hp} : ∀ {v : V} {d : T}, Rp K H v d → (toP d).canLay0 = true → Dp K H v (toP d)
  | _, _, .non, _ => .non
  | _, _, .bl b, _ => .bl b
  | _, _, .int i, _ => .int i
  | _, _, .str x, _ => .str x
  | _, _, .lst h r, c => .lst (sq_of h) (toDpA r (by simpa only [toP, PyData.canLay0] using c))
  | _, _, .tup h r, c => .tup (st_of h) (toDpA r (by simpa only [toP, PyData.canLay0] using c))
  | _, _, .dK _ _ _, c => by simp [toP, PyData.canLay0] at c
  | _, _, .dT _ _ _ _, c => by simp [toP, PyData.canLay0] at c
  | _, _, .scr _, c => by simp [toP, PyData.canLay0] at c
  | _, _, .obj _ _ _, c => by simp [toP, PyData.canLay0] at c
theorem toDpA {H : Hp} : ∀ {vs : List V} {ds : List T}, RpA K H vs ds → PyData.canLayAll0 (toPs ds) = true → DpAll K H vs (toPs ds)
  | _, _, .nil, _ => .nil
  | _, _, .cons h t, c => .cons (toDp h (canAll_hd c)) (toDpA t (canAll_tl c))
end
def eqT (x y : T) : Option T := if (shp x && shp y) = true then some (.bool (eqP x y)) else none
def neT (x y : T) : Option T := if (shp x && shp y) = true then some (.bool (!eqP x y)) else none
theorem lay_of {d : T} (h : shp d = true) : (toP d).canLay0 = true := SeqAt.canLay_of_shaped h
theorem opd_eq : OpD K (rEqD K) eqT := by
  intro S H x y a b Q w rx ry h
  by_cases hz : (shp a && shp b) = true
  · have hz' := hz
    rw [Bool.and_eq_true] at hz
    exact ⟨toP a, toP b, toDp (rx.mono (hide_ex S H)) (lay_of hz.1), toDp (ry.mono (hide_ex S H)) (lay_of hz.2), hz.1, hz.2, ret h (if_pos hz') (.bl _)⟩
  · have h' : PostO K S Q H (if (shp a && shp b) = true then some (.bool (eqP a b)) else none) := h
    rw [if_neg hz] at h'
    exact nopost h'
theorem opd_ne : OpD K (rNeD K) neT := by
  intro S H x y a b Q w rx ry h
  by_cases hz : (shp a && shp b) = true
  · have hz' := hz
    rw [Bool.and_eq_true] at hz
    exact ⟨toP a, toP b, toDp (rx.mono (hide_ex S H)) (lay_of hz.1), toDp (ry.mono (hide_ex S H)) (lay_of hz.2), hz.1, hz.2, ret h (if_pos hz') (.bl _)⟩
  · have h' : PostO K S Q H (if (shp a && shp b) = true then some (.bool (!eqP a b)) else none) := h
    rw [if_neg hz] at h'
    exact nopost h'
/-! items -/
def ixT : T → T → Option T
  | .list xs, .int i => atI xs i
  | .tuple xs, .int i => atI xs i
  | .scr ns, .int i => (atI ns i).map .int
  | _, _ => none
abbrev rIxLT (K : PySem.W.Frag) : R2 := fun x y H Q => rIxL K x y H Q ∨ rIxT K x y H Q
theorem ix_LT {X : Cx} : IxR X (rIxLT X.K) := ix_list.or ix_tup
theorem atI_rp {H : Hp} {vs : List V} {ds : List T} {i : Int} {d : T} (r : RpA K H vs ds) (h : atI ds i = some d) : ∃ v, atI vs i = some v ∧ Rp K H v d := by
  unfold atI at h ⊢
  rw [r.length]
  cases q : ixN ds.length i with
  | none => rw [q] at h; cases h
  | some j =>
    rw [q, Option.bind_some] at h
    exact r.at h
theorem opd_ix : OpD K (rIxLT K) ixT := by
  intro S H x y a b Q w rx ry h
  cases rx with
  | lst q1 r1 => cases ry with
    | int i =>
      rename_i p xs ds
      cases q : atI ds i with
      | none =>
        have h' : PostO K S Q H (atI ds i) := h
        rw [q] at h'
        exact nopost h'
      | some d =>
        obtain ⟨v, hv, rv⟩ := atI_rp r1 q
        exact .inl ⟨p, xs, i, v, rfl, rfl, sq_of (hide_ex _ _ _ _ q1), hv, ret h q rv⟩
    | _ => exact nopost h
  | tup q1 r1 => cases ry with
    | int i =>
      rename_i p xs ds
      cases q : atI ds i with
      | none =>
        have h' : PostO K S Q H (atI ds i) := h
        rw [q] at h'
        exact nopost h'
      | some d =>
        obtain ⟨v, hv, rv⟩ := atI_rp r1 q
        exact .inr ⟨p, xs, i, v, rfl, rfl, st_of (hide_ex _ _ _ _ q1), hv, ret h q rv⟩
    | _ => exact nopost h
  | scr q1 => cases ry with
    | int i =>
      rename_i p ns
      have h' : PostO K S Q H ((atI ns i).map .int) := h
      cases q : atI ns i with
      | none =>
        rw [q] at h'
        exact nopost h'
      | some n =>
        rw [q] at h'
        refine .inl ⟨p, ns.map V.int, i, .int n, rfl, rfl, SqL.mono (hide_ex _ _) q1, ?_, ret h' rfl (.int _)⟩
        unfold atI at q ⊢
        rw [List.length_map]
        cases q2 : ixN ns.length i with
        | none => rw [q2] at q; cases q
        | some j =>
          rw [q2, Option.bind_some] at q
          rw [Option.bind_some, List.getElem?_map, q]
          rfl
    | _ => exact nopost h
  | _ => cases ry <;> exact nopost h
end
end TD

end
section

/-! TD5: what is walked; loops and comprehensions over data -/
namespace TD
open PySem PySem.Spec PyProof.Rows L2 Evl
variable [HasT]
/-- J walks ds, from the state (σ, H, e) on -/
def Wk (K : PySem.W.Frag) (G : List Addr) (σ : Sg) (H : Hp) (e : Env) (ds : List T) (J : It) : Prop := ∀ (i : Nat) (S : List Addr) (H' : Hp), Ex (hide (G ++ owns e σ) H) (hide S H') → Wl S H' →
  (∀ d, ds[i]? = some d → J.go i H' ∧ ∀ x H2, J.yld i H' x H2 → Ex H' H2 ∧ Rp K (hide S H2) x d) ∧ (ds.length ≤ i → i ≤ ds.length → J.stop i H')
def tI (K : PySem.W.Frag) (P : List (Nat × Addr)) (W : WX) (m : M (List T)) : TI := fun σ H Q => ∃ G e, SD K P G σ H e ∧ Ps K P W (fun ds e1 H1 => ∀ J, Wk K G σ H1 e1 ds J → Q J H1) G σ H e (m e)
theorem _root_.L2.PI.weak {X : Cx} {tg e : Expr} {t t' : TI} (h : PI X tg e t) (k : ∀ σ H Q, t' σ H Q → t σ H Q) : PI X tg e t' := ⟨fun pins s σ H Q I q => h.run pins s σ H Q I (k σ H Q q)⟩
theorem _root_.L2.PI.or {X : Cx} {tg e : Expr} {t t' : TI} (h : PI X tg e t) (h' : PI X tg e t') : PI X tg e (fun σ H Q => t σ H Q ∨ t' σ H Q) := ⟨fun pins s σ H Q I q => q.elim (h.run pins s σ H Q I) (h'.run pins s σ H Q I)⟩
theorem rpa_ints {K : PySem.W.Frag} {H : Hp} : ∀ ns : List Int, RpA K H (ns.map V.int) (ns.map T.int)
  | [] => .nil
  | n :: ns => .cons (.int n) (rpa_ints ns)
theorem wk_list {K : PySem.W.Frag} {G : List Addr} {σ : Sg} {H : Hp} {e : Env} {a : Addr} {vs : List V} {ds : List T} (h : SqL K (hide (G ++ owns e σ) H) a vs) (r : RpA K (hide (G ++ owns e σ) H) vs ds) : Wk K G σ H e ds (Itl K a) := fun i S H' x w => by
  have h' : SqL K H' a vs := SqL.mono (hide_ex _ _) (SqL.mono x h)
  refine ⟨fun d hd => ?_, fun hl _ => ⟨vs, h', by rw [r.length]; exact hl⟩⟩
  obtain ⟨v, hv, rv⟩ := r.at hd
  refine ⟨⟨vs, v, h', hv⟩, fun x' H2 y => ?_⟩
  obtain ⟨rfl, y⟩ := y
  have e1 : some v = some x' := hv.symm.trans (y vs h')
  cases e1
  exact ⟨Ex.refl _, rv.mono x⟩
theorem wk_tup {K : PySem.W.Frag} {G : List Addr} {σ : Sg} {H : Hp} {e : Env} {a : Addr} {vs : List V} {ds : List T} (h : hide (G ++ owns e σ) H a = some (.tup vs)) (r : RpA K (hide (G ++ owns e σ) H) vs ds) : Wk K G σ H e ds (Itt K a) := fun i S H' x w => by
  have h' : SqT K H' a vs := st_of (hide_ex _ _ _ _ (x _ _ h))
  refine ⟨fun d hd => ?_, fun hl _ => ⟨vs, h', by rw [r.length]; exact hl⟩⟩
  obtain ⟨v, hv, rv⟩ := r.at hd
  refine ⟨⟨vs, v, h', hv⟩, fun x' H2 y => ?_⟩
  obtain ⟨rfl, y⟩ := y
  have e1 : some v = some x' := hv.symm.trans (y vs h')
  cases e1
  exact ⟨Ex.refl _, rv.mono x⟩
theorem wk_range {K : PySem.W.Frag} {G : List Addr} {σ : Sg} {H : Hp} {e : Env} {lo : Int} {n : Nat} : Wk K G σ H e ((List.range n).map fun i : Nat => (.int (lo + (i : Int)) : T)) (Itr lo n) := fun i S H' x w => by
  refine ⟨fun d hd => ?_, fun hl _ => (show n ≤ i by simpa using hl)⟩
  rw [List.getElem?_map] at hd
  by_cases hi : i < n
  · rw [List.getElem?_range hi] at hd
    cases hd
    refine ⟨hi, fun x' H2 y => ?_⟩
    obtain ⟨rfl, rfl⟩ := y
    exact ⟨Ex.refl _, .int _⟩
  · rw [List.getElem?_eq_none (by simpa using hi)] at hd
    cases hd
def seqT : T → Option (List T)
  | .list xs => some xs
  | .tuple xs => some xs
  | .scr ns => some (ns.map .int)
  | _ => none
def iSeq (m : M T) : M (List T) := fun e => (m e).bind fun d e => ofO (seqT d) e
def rng1 : List T → Option (List T)
  | [.int n] => if (decide (-100000 ≤ n) && decide (n ≤ 100000)) = true then some ((List.range n.toNat).map fun i : Nat => (.int (0 + (i : Int)) : T)) else none
  | _ => none
def rng2 : List T → Option (List T)
  | [.int lo, .int n] => if (decide (-100000 ≤ lo) && decide (lo ≤ 100000) && decide (-100000 ≤ n) && decide (n ≤ 100000)) = true then some ((List.range (n - lo).toNat).map fun i : Nat => (.int (lo + (i : Int)) : T)) else none
  | _ => none
def iRng (f : List T → Option (List T)) (m : M (List T)) : M (List T) := fun e => (m e).bind fun d e => ofO (f d) e
section
variable {X : Cx} {P : List (Nat × Addr)} {W : WX} {tg e a b : Expr} {m : M T} {ml : M (List T)} {pos p : Pos}
theorem stepq {K : PySem.W.Frag} {G : List Addr} {σ : Sg} {H : Hp} {en : Env} {α : Type} {A : α → Env → Hp → Prop} {f : T → Env → R α} {Q' : VK} (s : SD K P G σ H en) (p : Ps K P W A G σ H en (R.bind (m en) f))
    (k : ∀ d e1 v H', m en = .ok d e1 → Rel G σ H en σ H' e1 → SD K P G σ H' e1 → Rp K (hide (G ++ owns e1 σ) H') v d → Ps K P W A G σ H' e1 (f d e1) → Q' v H') : tD K P W m σ H Q' := by
  refine ⟨G, en, s, ?_⟩
  cases q : m en with
  | ok d e1 =>
    rw [q] at p
    exact fun H' x s1 v r => k d e1 v H' q x s1 r (Ps.go x p)
  | ex c fs e1 =>
    rw [q] at p
    exact p
  | bad =>
    rw [q] at p
    exact p
theorem stepAq {K : PySem.W.Frag} {G : List Addr} {σ : Sg} {H : Hp} {en : Env} {α : Type} {A : α → Env → Hp → Prop} {f : List T → Env → R α} {Q' : List V → Hp → Prop} (s : SD K P G σ H en) (p : Ps K P W A G σ H en (R.bind (ml en) f))
    (k : ∀ d e1 v H', ml en = .ok d e1 → Rel G σ H en σ H' e1 → SD K P G σ H' e1 → RpA K (hide (G ++ owns e1 σ) H') v d → Ps K P W A G σ H' e1 (f d e1) → Q' v H') : tDA K P W ml σ H Q' := by
  refine ⟨G, en, s, ?_⟩
  cases q : ml en with
  | ok d e1 =>
    rw [q] at p
    exact fun H' x s1 v r => k d e1 v H' q x s1 r (Ps.go x p)
  | ex c fs e1 =>
    rw [q] at p
    exact p
  | bad =>
    rw [q] at p
    exact p
theorem di_seq (he : PE X e (tD X.K P W m)) : PI X tg e (tI X.K P W (iSeq m)) := ((pi_list he).or (pi_tup he)).weak fun σ H Q ⟨G, en, s, p⟩ => by
  have p0 : Ps X.K P W (fun ds e1 H1 => ∀ J, Wk X.K G σ H1 e1 ds J → Q J H1) G σ H en ((m en).bind fun d e => ofO (seqT d) e) := p
  by_cases hl : ∃ ds e1, m en = .ok (.tuple ds) e1
  · obtain ⟨ds0, e0, hl⟩ := hl
    refine .inr (stepq s p0 fun d e1 v H1 hq x1 s1 r1 p1 => ?_)
    rw [hl] at hq
    cases hq
    cases r1 with
    | tup q r => exact ⟨_, rfl, ⟨_, st_of (hide_ex _ _ _ _ q)⟩, p1 H1 .refl s1 _ (wk_tup q r)⟩
  · refine .inl (stepq s p0 fun d e1 v H1 hq x1 s1 r1 p1 => ?_)
    cases r1 with
    | lst q r => exact ⟨_, rfl, ⟨_, sq_of (hide_ex _ _ _ _ q)⟩, p1 H1 .refl s1 _ (wk_list (sq_of q) r)⟩
    | tup q r => exact absurd ⟨_, _, hq⟩ hl
    | scr q => exact ⟨_, rfl, ⟨_, SqL.mono (hide_ex _ _) q⟩, p1 H1 .refl s1 _ (wk_list q (rpa_ints _))⟩
    | _ => exact p1.elim
theorem di_range1 (hg : Gl X "range") (hm : X.mg "range" = none) (ha : PA X [a] (tDA X.K P W ml)) (hs : starEach [a] X.env = [(false, eval a X.env)] := by rfl) : PI X tg (.Call (.Name "range" p) [a] [] pos) (tI X.K P W (iRng rng1 ml)) := (pi_range1 hg hm ha hs).weak fun σ H Q ⟨G, en, s, p⟩ =>
  stepA s p fun d e1 v H1 x1 s1 r1 p1 => by
    cases r1 with
    | nil => exact p1.elim
    | cons ra rt =>
      cases rt with
      | cons _ _ =>
        cases ra <;> exact p1.elim
      | nil =>
        cases ra with
        | int n =>
          by_cases hn : (decide (-100000 ≤ n) && decide (n ≤ 100000)) = true
          · have e : rng1 [.int n] = some ((List.range n.toNat).map fun i : Nat => (.int (0 + (i : Int)) : T)) := if_pos hn
            rw [e] at p1
            simp only [Bool.and_eq_true, decide_eq_true_eq] at hn
            exact ⟨n, rfl, by omega, by omega, p1 H1 .refl s1 _ wk_range⟩
          · have e : rng1 [.int n] = none := if_neg hn
            rw [e] at p1
            exact p1.elim
        | _ => exact p1.elim
theorem di_range2 (hg : Gl X "range") (hm : X.mg "range" = none) (ha : PA X [a, b] (tDA X.K P W ml)) (hs : starEach [a, b] X.env = [(false, eval a X.env), (false, eval b X.env)] := by rfl) (hs2 : starEach [b] X.env = [(false, eval b X.env)] := by rfl) :
    PI X tg (.Call (.Name "range" p) [a, b] [] pos) (tI X.K P W (iRng rng2 ml)) := (pi_range2 hg hm ha hs hs2).weak fun σ H Q ⟨G, en, s, p⟩ =>
  stepA s p fun d e1 v H1 x1 s1 r1 p1 => by
    cases r1 with
    | nil => exact p1.elim
    | cons ra rt =>
      cases rt with
      | nil => cases ra <;> exact p1.elim
      | cons rb rt =>
        cases rt with
        | cons _ _ => cases ra <;> cases rb <;> exact p1.elim
        | nil =>
          cases ra with
          | int lo =>
            cases rb with
            | int n =>
              by_cases hn : (decide (-100000 ≤ lo) && decide (lo ≤ 100000) && decide (-100000 ≤ n) && decide (n ≤ 100000)) = true
              · have e : rng2 [.int lo, .int n] = some ((List.range (n - lo).toNat).map fun i : Nat => (.int (lo + (i : Int)) : T)) := if_pos hn
                rw [e] at p1
                simp only [Bool.and_eq_true, decide_eq_true_eq] at hn
                exact ⟨lo, n, rfl, ⟨by omega, by omega, by omega, by omega⟩, p1 H1 .refl s1 _ wk_range⟩
              · have e : rng2 [.int lo, .int n] = none := if_neg hn
                rw [e] at p1
                exact p1.elim
            | _ => exact p1.elim
          | _ => cases rb <;> exact p1.elim
end
/-! ### targets -/
def TgD (K : PySem.W.Frag) (P : List (Nat × Addr)) (ws : List Nat) (g : TG) (t : T → Env → Option Env) : Prop := ∀ (G : List Addr) (σ : Sg) (H : Hp) (e e1 : Env) (v : V) (x : T) (Q : Sg → Hp → Prop), SD K P G σ H e → Rp K (hide (G ++ owns e σ) H) v x → t x e = some e1 →
  (∀ σ1, SD K P G σ1 H e1 → Rel G σ H e σ1 H e1 → (∀ j, j ∉ ws → σ1[j]? = σ[j]?) → σ1.length = σ.length → Q σ1 H) → g v σ H Q
def gN (i : Nat) : T → Env → Option Env := fun x e => some (e.set i (.val x))
theorem tg_name {K : PySem.W.Frag} {P : List (Nat × Addr)} {i : Nat} (hp : ∀ q ∈ P, q.1 ≠ i) : TgD K P [i] (gName i) (gN i) := fun G σ H e e1 v x Q s r h k => by
  cases h
  obtain ⟨s1, x1⟩ := s.set hp r
  exact k _ s1 x1 (fun j hj => List.getElem?_set_ne (fun z => hj (by rw [z]; exact List.mem_cons_self))) List.length_set
/-- i, j = .. -/
def gN2 (i j : Nat) : T → Env → Option Env
  | .tuple [x, y], e => some ((e.set i (.val x)).set j (.val y))
  | _, _ => none
theorem tg_two {K : PySem.W.Frag} {P : List (Nat × Addr)} {i j : Nat} (hp : ∀ q ∈ P, q.1 ≠ i) (hq : ∀ q ∈ P, q.1 ≠ j) : TgD K P [i, j] (gTup K 2 (gCons (gName i) (gCons (gName j) gNil))) (gN2 i j) := fun G σ H e e1 v x Q s r h k => by
  cases r with
  | tup q ra =>
    cases ra with
    | nil => cases h
    | cons r1 ra =>
      cases ra with
      | nil => cases h
      | cons r2 ra =>
        cases ra with
        | cons _ _ => cases h
        | nil =>
          cases h
          obtain ⟨s1, x1⟩ := s.set hp r1
          obtain ⟨s2, x2⟩ := s1.set hq (x1.rp r2)
          exact ⟨_, _, rfl, st_of (hide_ex _ _ _ _ q), rfl, _, _, rfl, _, _, rfl, rfl, k _ s2 (x1.trans x2) (fun l hl => (List.getElem?_set_ne (fun z => hl (by rw [z]; exact List.mem_cons_of_mem _ List.mem_cons_self))).trans (List.getElem?_set_ne (fun z => hl (by rw [z]; exact List.mem_cons_self)))) (List.length_set.trans List.length_set)⟩
  | _ => cases h
/-! ### for -/
def forL (t : T → Env → Option Env) (b : MS) : List T → MS
  | [], e => .nx e
  | x :: xs, e => match t x e with
    | none => .bad
    | some e1 => match b e1 with
      | .nx e2 => forL t b xs e2
      | .ct e2 => forL t b xs e2
      | .bk e2 => .nx e2
      | .rt v e2 => .rt v e2
      | .ex c fs e2 => .ex c fs e2
      | .bad => .bad
def sFor (m : M (List T)) (t : T → Env → Option Env) (b : MS) : MS := fun e => (m e).st fun ds e1 => forL t b ds e1
section
variable {X : Cx} {P : List (Nat × Addr)} {W : WX} {tg iter : Expr} {body : List Stmt} {mi : M (List T)} {g : TG} {t : T → Env → Option Env} {b : MS} {pos : Pos} {ws : List Nat}
theorem d_for (hp : PassesOwn (model X.prog X.w) X.A X.env X.xe) (hc : X.calm = true) (hi : PI X tg iter (tI X.K P W mi)) (hg : PG X tg g) (ht : TgD X.K P ws g t) (hb : PSs X body (tS X.K P W b))
    (hs : ∀ x, foldedSetIterable iter X.env x = pure x := by intro _; rfl) : PS X (.For tg iter body [] pos) (tS X.K P W (sFor mi t b)) := (ps_for hp hc hi hg hb hs).weak fun D σ H ⟨G, en, s, p⟩ => by
  refine ⟨G, en, s, stepS p fun ds e1 H1 x1 s1 p1 J wk => ?_⟩
  refine ⟨fun i m σ' H' => m = ds.length - i ∧ i ≤ ds.length ∧ ∃ e', Rel G σ H1 e1 σ' H' e' ∧ SD X.K P G σ' H' e' ∧ PsS X.K P W D G σ' H' e' (forL t b (ds.drop i) e'), ⟨ds.length, rfl, Nat.zero_le _, e1, .refl, s1, p1⟩, ?_⟩
  rintro i m σ' H' ⟨rfl, hi, e', x', s', p'⟩
  obtain ⟨wg, ws⟩ := wk i _ H' x'.st s'.wl
  by_cases hlt : i < ds.length
  · have hd : ds.drop i = ds[i] :: ds.drop (i + 1) := List.drop_eq_getElem_cons hlt
    rw [hd] at p'
    obtain ⟨go, step⟩ := wg ds[i] (List.getElem?_eq_getElem hlt)
    refine .inr ⟨go, fun σ2 H2 => i + 1 ≤ ds.length ∧ ∃ e2, Rel G σ H1 e1 σ2 H2 e2 ∧ SD X.K P G σ2 H2 e2 ∧ PsS X.K P W D G σ2 H2 e2 (forL t b (ds.drop (i + 1)) e2), fun σ2 H2 ⟨h1, h2⟩ => ⟨ds.length - (i + 1), by omega, rfl, h1, h2⟩, fun x H2 y => ?_⟩
    obtain ⟨ex2, rx⟩ := step x H2 y
    have s2 := s'.ex ex2
    have x2 : Rel G σ' H' e' σ' H2 e' := .ex ex2
    have p2 := PsS.go x2 p'
    cases q : t ds[i] e' with
    | none =>
      have p3 : PsS X.K P W D G σ' H2 e' (match t ds[i] e' with | none => .bad | some e1 => match b e1 with | .nx e2 => forL t b (ds.drop (i + 1)) e2 | .ct e2 => forL t b (ds.drop (i + 1)) e2 | .bk e2 => .nx e2 | .rt v e2 => .rt v e2 | .ex c fs e2 => .ex c fs e2 | .bad => .bad) := p2
      rw [q] at p3
      exact p3.elim
    | some e3 =>
      have p3 : PsS X.K P W D G σ' H2 e' (match t ds[i] e' with | none => .bad | some e1 => match b e1 with | .nx e2 => forL t b (ds.drop (i + 1)) e2 | .ct e2 => forL t b (ds.drop (i + 1)) e2 | .bk e2 => .nx e2 | .rt v e2 => .rt v e2 | .ex c fs e2 => .ex c fs e2 | .bad => .bad) := p2
      rw [q] at p3
      refine ht G σ' H2 e' e3 x ds[i] _ s2 rx q fun σ3 s3 x3 _ _ => ⟨G, e3, s3, ?_⟩
      have p4 := PsS.go x3 p3
      have x13 : Rel G σ H1 e1 σ3 H2 e3 := (x'.trans x2).trans x3
      cases q2 : b e3 with
      | nx e4 =>
        simp only [q2] at p4
        exact fun σ4 H4 x4 s4 => ⟨hlt, e4, x13.trans x4, s4, PsS.go x4 p4⟩
      | ct e4 =>
        simp only [q2] at p4
        exact fun σ4 H4 x4 s4 => ⟨hlt, e4, x13.trans x4, s4, PsS.go x4 p4⟩
      | bk e4 =>
        simp only [q2] at p4
        exact fun σ4 H4 x4 s4 => p4 σ4 H4 x4 s4
      | rt v e4 =>
        simp only [q2] at p4
        exact p4
      | ex c fs e4 =>
        simp only [q2] at p4
        exact p4
      | bad =>
        simp only [q2] at p4
        exact p4
  · have e : i = ds.length := by omega
    subst e
    rw [List.drop_length] at p'
    exact .inl ⟨ws (Nat.le_refl _) (Nat.le_refl _), p' σ' H' .refl s'⟩
end
end TD

end
section

/-! TD6: comprehensions -/
namespace TD
open PySem PySem.Spec PyProof.Rows L2 Evl
variable [HasT]
theorem wipe_get (σ : Sg) (j : Nat) : ∀ vs : List Nat, (wipe σ vs)[j]? = if j ∈ vs then (σ[j]?).map (fun _ => none) else σ[j]?
  | [] => by simp [wipe]
  | v :: vs => by
    show ((wipe σ vs).set v none)[j]? = _
    by_cases h : v = j
    · subst h
      rw [List.getElem?_set_self', wipe_get σ v vs, if_pos List.mem_cons_self]
      by_cases hv : v ∈ vs
      · rw [if_pos hv]
        cases σ[v]? <;> rfl
      · rw [if_neg hv]
        cases σ[v]? <;> rfl
    · rw [List.getElem?_set_ne h, wipe_get σ j vs]
      by_cases hj : j ∈ vs
      · rw [if_pos hj, if_pos (List.mem_cons_of_mem _ hj)]
      · rw [if_neg hj, if_neg (by simp only [List.mem_cons, not_or]; exact ⟨fun z => h z.symm, hj⟩)]
/-- two states that part at wiped slots alone -/
theorem wipe_eq {σ σ1 : Sg} {vs : List Nat} (h : ∀ j, j ∉ vs → σ1[j]? = σ[j]?) (hl : σ1.length = σ.length) : wipe σ1 vs = wipe σ vs := by
  apply List.ext_getElem?
  intro j
  rw [wipe_get, wipe_get]
  by_cases hj : j ∈ vs
  · rw [if_pos hj, if_pos hj]
    by_cases hi : j < σ.length
    · rw [List.getElem?_eq_getElem hi, List.getElem?_eq_getElem (by rw [hl]; exact hi)]
      rfl
    · rw [List.getElem?_eq_none (by omega), List.getElem?_eq_none (by omega)]
  · rw [if_neg hj, if_neg hj, h j hj]
theorem wipe_wipe {σ : Sg} {vs : List Nat} : wipe (wipe σ vs) vs = wipe σ vs := wipe_eq (fun j hj => by rw [wipe_get, if_neg hj]) (wipe_length σ vs)
def wipeE (e : Env) (vs : List Nat) : Env := vs.foldl (fun e v => e.set v .un) e
def isOwn : Option Sl → Bool
  | some (.own _) => true
  | _ => false
def clearE (e : Env) (vs : List Nat) : Bool := vs.all fun i => !isOwn e[i]?
/-- the slots vs as e1 has them, all others as e -/
def backE (e1 e : Env) (vs : List Nat) : Env := vs.foldl (fun a v => a.set v (e1.getD v .un)) e
theorem foldl_set {f : Nat → Sl} (j : Nat) : ∀ (vs : List Nat) (e : Env), (vs.foldl (fun a v => a.set v (f v)) e)[j]? = if j ∈ vs then (e[j]?).map (fun _ => f j) else e[j]?
  | [], e => by simp
  | v :: vs, e => by
    rw [List.foldl_cons, foldl_set j vs]
    by_cases h : v = j
    · subst h
      rw [if_pos List.mem_cons_self, List.getElem?_set_self']
      by_cases hv : v ∈ vs
      · rw [if_pos hv]
        cases e[v]? <;> rfl
      · rw [if_neg hv]
        cases e[v]? <;> rfl
    · rw [List.getElem?_set_ne h]
      by_cases hj : j ∈ vs
      · rw [if_pos hj, if_pos (List.mem_cons_of_mem _ hj)]
      · rw [if_neg hj, if_neg (by simp only [List.mem_cons, not_or]; exact ⟨fun z => h z.symm, hj⟩)]
theorem wipeE_get (e : Env) (vs : List Nat) (j : Nat) : (wipeE e vs)[j]? = if j ∈ vs then (e[j]?).map (fun _ => .un) else e[j]? := foldl_set (f := fun _ => .un) j vs e
theorem backE_get (e1 e : Env) (vs : List Nat) (j : Nat) : (backE e1 e vs)[j]? = if j ∈ vs then (e[j]?).map (fun _ => e1.getD j .un) else e[j]? := foldl_set (f := fun v => e1.getD v .un) j vs e
theorem len_of {α β : Type} {l : List α} {l' : List β} (h : ∀ j : Nat, (l[j]?).isSome = (l'[j]?).isSome) : l.length = l'.length := by
  have a : ∀ j : Nat, j < l.length ↔ j < l'.length := fun j => by
    have q := h j
    rw [Bool.eq_iff_iff] at q
    simpa using q
  have h1 := a l.length
  have h2 := a l'.length
  omega
theorem owns_congr : ∀ {e e' : Env} {σ σ' : Sg}, e.length = σ.length → e'.length = σ'.length → e.length = e'.length → (∀ (i : Nat) a a' o o', e[i]? = some a → e'[i]? = some a' → σ[i]? = some o → σ'[i]? = some o' → own1 a o = own1 a' o') → owns e σ = owns e' σ'
  | [], [], [], [], _, _, _, _ => rfl
  | a :: e, a' :: e', o :: σ, o' :: σ', h1, h2, h3, k => by
    show own1 a o ++ owns e σ = own1 a' o' ++ owns e' σ'
    rw [k 0 a a' o o' rfl rfl rfl rfl, owns_congr (e := e) (e' := e') (σ := σ) (σ' := σ') (by simpa using h1) (by simpa using h2) (by simpa using h3) fun i b b' p p' q1 q2 q3 q4 => k (i + 1) b b' p p' (by simpa using q1) (by simpa using q2) (by simpa using q3) (by simpa using q4)]
  | [], [], [], _ :: _, _, h, _, _ => by simp at h
  | [], [], _ :: _, _, h, _, _, _ => by simp at h
  | [], _ :: _, _, _, _, _, h, _ => by simp at h
  | _ :: _, [], _, _, _, _, h, _ => by simp at h
  | _ :: _, _ :: _, [], _, h, _, _, _ => by simp at h
  | _ :: _, _ :: _, _ :: _, [], _, h, _, _ => by simp at h
section
variable {K : PySem.W.Frag} {H0 H : Hp}
theorem SA.at : ∀ {e : Env} {σ : Sg} {i : Nat} {a : Sl} {o : Option V}, SA K H0 H e σ → e[i]? = some a → σ[i]? = some o → S1 K H0 H a o
  | _, _, _, _, _, .nil, h, _ => by simp at h
  | _, _, 0, _, _, .cons h _, h1, h2 => by
    simp at h1 h2
    subst h1 h2
    exact h
  | _, _, i + 1, a, o, .cons _ t, h1, h2 => SA.at (i := i) t (by simpa using h1) (by simpa using h2)
theorem SA.of : ∀ {e : Env} {σ : Sg}, e.length = σ.length → (∀ (i : Nat) a o, e[i]? = some a → σ[i]? = some o → S1 K H0 H a o) → SA K H0 H e σ
  | [], [], _, _ => .nil
  | a :: e, o :: σ, h, k => .cons (k 0 a o rfl rfl) (SA.of (by simpa using h) fun i b p h1 h2 => k (i + 1) b p (by simpa using h1) (by simpa using h2))
  | [], _ :: _, h, _ => by simp at h
  | _ :: _, [], h, _ => by simp at h
end
theorem own1_not {a : Sl} {o : Option V} (h : isOwn (some a) = false) : own1 a o = [] := by
  cases a with
  | un => exact own1_un
  | val t => exact own1_val
  | own t => cases h
section
variable {K : PySem.W.Frag} {P : List (Nat × Addr)} {G : List Addr} {σ : Sg} {H H1 : Hp} {e e1 : Env} {vs : List Nat}
theorem wipeE_len : (wipeE e vs).length = e.length := len_of fun j => by
  rw [wipeE_get]
  by_cases h : j ∈ vs
  · rw [if_pos h, Option.isSome_map]
  · rw [if_neg h]
theorem owns_wipe (hl : e.length = σ.length) (hc : clearE e vs = true) : owns (wipeE e vs) (wipe σ vs) = owns e σ := by
  refine owns_congr (by rw [wipeE_len, wipe_length]; exact hl) hl wipeE_len fun i a a' o o' h1 h2 h3 h4 => ?_
  rw [wipeE_get] at h1
  rw [wipe_get] at h3
  by_cases h : i ∈ vs
  · rw [if_pos h, h2] at h1
    cases h1
    have q := List.all_eq_true.mp hc i h
    rw [h2] at q
    rw [own1_un, own1_not (by simpa using q)]
  · rw [if_neg h, h2] at h1
    rw [if_neg h, h4] at h3
    cases h1
    cases h3
    rfl
theorem SD.wipe (s : SD K P G σ H e) (hc : clearE e vs = true) (hp : ∀ q ∈ P, q.1 ∉ vs) : SD K P G (wipe σ vs) H (wipeE e vs) := by
  have ho := owns_wipe (σ := σ) s.sa.length hc
  refine ⟨SA.of (by rw [wipeE_len, wipe_length]; exact s.sa.length) fun i a o h1 h2 => ?_, by rw [ho]; exact s.nd, s.gl, fun q hq => ?_, s.tb, s.th⟩
  · rw [ho]
    rw [wipeE_get] at h1
    rw [wipe_get] at h2
    by_cases h : i ∈ vs
    · rw [if_pos h] at h1
      cases q : e[i]? with
      | none => rw [q] at h1; cases h1
      | some b =>
        rw [q] at h1
        cases h1
        exact .un
    · rw [if_neg h] at h1 h2
      exact s.sa.at h1 h2
  · obtain ⟨h1, t, h2⟩ := s.pr q hq
    exact ⟨by rw [wipe_get, if_neg (hp q hq)]; exact h1, t, by rw [wipeE_get, if_neg (hp q hq)]; exact h2⟩
theorem Rel.wipe (hl : e.length = σ.length) (hc : clearE e vs = true) : Rel G σ H e (L2.wipe σ vs) H (wipeE e vs) := ⟨by rw [owns_wipe hl hc]; exact Ex.refl _, fun _ _ _ _ h => h⟩
end
/-! ### what is put aside: one more, changed -/
section
variable {K : PySem.W.Frag} {P : List (Nat × Addr)} {G : List Addr} {σ : Sg} {H H1 : Hp} {e e1 : Env} {vs : List Nat} {D : Addr} {o : HO}
theorem SD.ghost (s : SD K P G σ H e) (h : H D = none) (pl : Plain o) : SD K P (D :: G) σ (upd H D o) e := by
  refine ⟨s.sa.mono (hide_add h (hide_mono (Ex.new h))) fun a ha u hu => ?_, List.nodup_cons.mpr ⟨s.wl.fresh h, s.nd⟩, fun a ha => ?_, s.pr, s.tb.ext (Ex.new h), fun p hp => List.mem_cons_of_mem _ (s.th p hp)⟩
  · rw [upd_ne (ne_of_none hu h)]
    exact hu
  · rcases List.mem_cons.mp ha with rfl | ha
    · exact .inl ⟨o, upd_same, pl.1⟩
    · rw [upd_ne fun z => s.tr a ha (by rw [z]; exact h)]
      exact s.gl a ha
theorem SD.notin (s : SD K P (D :: G) σ H e) : D ∉ G ++ owns e σ := (List.nodup_cons.mp s.nd).1
theorem SD.ghostUpd {o0 : HO} (s : SD K P (D :: G) σ H e) (h0 : H D = some o0) (pl : Plain o0) (po : Plain o) : SD K P (D :: G) σ (upd H D o) e := by
  have hu : hide (D :: (G ++ owns e σ)) (upd H D o) = hide (D :: (G ++ owns e σ)) H := hide_upd List.mem_cons_self
  refine ⟨?_, s.nd, fun a ha => ?_, s.pr, tabs_upd s.tb h0 pl, s.th⟩
  · show SA K (hide (D :: (G ++ owns e σ)) (upd H D o)) (upd H D o) e σ
    rw [hu]
    refine s.sa.mono (Ex.refl _) fun a ha u hu => ?_
    rw [upd_ne fun z => s.notin (by rw [← z]; exact List.mem_append_right _ ha)]
    exact hu
  · by_cases h : a = D
    · subst h
      exact .inl ⟨o, upd_same, po.1⟩
    · rw [upd_ne h]
      exact s.gl a ha
end
/-! ### the comprehension -/
def noX {α : Type} : R α → R α
  | .ok a e => .ok a e
  | _ => .bad
def lcL (t : T → Env → Option Env) (c : M Bool) (m : M T) (vs : List Nat) : List T → M (List T)
  | [], e => .ok [] e
  | x :: xs, e => match t x e with
    | none => .bad
    | some e1 => (noX (c e1)).bind fun k e2 => if k = true then (noX (m e2)).bind fun y e3 => if clearE e3 vs = true then (lcL t c m vs xs (wipeE e3 vs)).bind fun ys e4 => .ok (y :: ys) e4 else .bad
      else if clearE e2 vs = true then lcL t c m vs xs (wipeE e2 vs) else .bad
def mLc (mi : M (List T)) (t : T → Env → Option Env) (c : M Bool) (m : M T) (vs : List Nat) : M T := fun e => (mi e).bind fun ds e1 =>
  if clearE e1 vs = true then (noX (lcL t c m vs ds (wipeE e1 vs))).bind fun ys e2 => if ys.length ≤ 100000 then .ok (.list ys) (backE e1 e2 vs) else .bad else .bad
abbrev W0 : WX := fun _ _ _ _ => False
theorem backE_len {e1 e : Env} {vs : List Nat} : (backE e1 e vs).length = e.length := len_of fun j => by
  rw [backE_get]
  by_cases h : j ∈ vs
  · rw [if_pos h, Option.isSome_map]
  · rw [if_neg h]
theorem owns_back {e1 e : Env} {σ : Sg} {vs : List Nat} (hl : e.length = σ.length) (h1 : clearE e1 vs = true) (hc : clearE e vs = true) : owns (backE e1 e vs) σ = owns e (wipe σ vs) := by
  refine owns_congr (by rw [backE_len]; exact hl) (by rw [wipe_length]; exact hl) backE_len fun i a a' o o' q1 q2 q3 q4 => ?_
  rw [backE_get] at q1
  rw [wipe_get] at q4
  by_cases h : i ∈ vs
  · rw [if_pos h, q2] at q1
    cases q1
    have z := List.all_eq_true.mp hc i h
    rw [q2] at z
    have z1 := List.all_eq_true.mp h1 i h
    rw [own1_not (a := a') (by simpa using z), own1_not (a := e1.getD i .un)]
    rw [List.getD_eq_getElem?_getD]
    cases q : e1[i]? with
    | none => rfl
    | some b =>
      rw [q] at z1
      simpa using z1
  · rw [if_neg h, q2] at q1
    rw [if_neg h, q3] at q4
    cases q1
    cases q4
    rfl
theorem SD.back {K : PySem.W.Frag} {P : List (Nat × Addr)} {G : List Addr} {σ : Sg} {H H1 : Hp} {e e1 : Env} {vs : List Nat} (s : SD K P G (L2.wipe σ vs) H e) (s1 : SD K P G σ H1 e1) (x : Ex (hide (G ++ owns e1 σ) H1) (hide (G ++ owns e (L2.wipe σ vs)) H)) (h1 : clearE e1 vs = true) (hc : clearE e vs = true)
    (hp : ∀ q ∈ P, q.1 ∉ vs) : SD K P G σ H (backE e1 e vs) := by
  have hl : e.length = σ.length := by
    have := s.sa.length
    rw [wipe_length] at this
    exact this
  have ho := owns_back (e1 := e1) hl h1 hc
  refine ⟨SA.of (by rw [backE_len]; exact hl) fun i a o q1 q2 => ?_, by rw [ho]; exact s.nd, s.gl, fun q hq => ?_, s.tb, s.th⟩
  · rw [ho]
    rw [backE_get] at q1
    by_cases h : i ∈ vs
    · rw [if_pos h] at q1
      cases z : e[i]? with
      | none => rw [z] at q1; cases q1
      | some b =>
        rw [z] at q1
        cases q1
        rw [List.getD_eq_getElem?_getD]
        cases z1 : e1[i]? with
        | none => exact .un
        | some b1 =>
          have r := s1.sa.at z1 q2
          have zz := List.all_eq_true.mp h1 i h
          rw [z1] at zz
          show S1 K _ H b1 o
          refine r.mono x fun a ha => ?_
          rw [own1_not (by simpa using zz)] at ha
          cases ha
    · rw [if_neg h] at q1
      exact s.sa.at q1 (by rw [wipe_get, if_neg h]; exact q2)
  · obtain ⟨z1, t, z2⟩ := s1.pr q hq
    obtain ⟨y1, t', y2⟩ := s.pr q hq
    exact ⟨z1, t', by rw [backE_get, if_neg (hp q hq)]; exact y2⟩
theorem noX_ok {α : Type} {r : R α} {β : Type} {f : α → Env → R β} {a : α} {e : Env} (h : r = .ok a e) : (noX r).bind f = f a e := by
  rw [h]
  rfl
theorem bind_ok {α β : Type} {r : R α} {f : α → Env → R β} {b : β} {e : Env} (h : r.bind f = .ok b e) : ∃ a e1, r = .ok a e1 ∧ f a e1 = .ok b e := by
  cases r with
  | ok a e1 => exact ⟨a, e1, rfl, h⟩
  | ex _ _ _ => cases h
  | bad => cases h
theorem noX_some {α : Type} {r : R α} {a : α} {e : Env} (h : noX r = .ok a e) : r = .ok a e := by
  cases r with
  | ok b e1 => exact h
  | ex _ _ _ => cases h
  | bad => cases h
theorem clear_wipe {e : Env} {vs : List Nat} : clearE (wipeE e vs) vs = true := List.all_eq_true.mpr fun i hi => by
  rw [wipeE_get, if_pos hi]
  cases e[i]? <;> rfl
theorem Wk.to {K : PySem.W.Frag} {G G' : List Addr} {σ σ' : Sg} {H H' : Hp} {e e' : Env} {ds : List T} {J : It} (w : Wk K G σ H e ds J) (x : Ex (hide (G ++ owns e σ) H) (hide (G' ++ owns e' σ') H')) : Wk K G' σ' H' e' ds J := fun i S H2 y wl => w i S H2 (x.trans y) wl
section
variable {X : Cx} {P : List (Nat × Addr)} {W : WX} {elt tg iter : Expr} {ifs : List Expr} {scope : Scope} {own : List (Str × Nat)} {pos : Pos} {mi : M (List T)} {g : TG} {t : T → Env → Option Env} {c : M Bool} {m : M T} {ws : List Nat}
/-- the turns of a comprehension's loop -/
theorem lcLoop {K : PySem.W.Frag} {vs : List Nat} (ht : TgD K P ws g t) (hw : ∀ j ∈ ws, j ∈ vs) (hp : ∀ q ∈ P, q.1 ∉ vs) {σ : Sg} {G : List Addr} {D : Addr} {ds : List T} {J : It} {H1 : Hp} {e1 ef : Env} {acc0 : List V} {dacc0 ys : List T}
    (s0 : SD K P (D :: G) (wipe σ vs) H1 e1) (c0 : clearE e1 vs = true) (hD : H1 D = some (.lst acc0)) (r0 : RpA K (hide (D :: (G ++ owns e1 (wipe σ vs))) H1) acc0 dacc0) (hok : lcL t c m vs ds e1 = .ok ys ef) (hlen : dacc0.length + ys.length ≤ 100000) (wk : Wk K (D :: G) (wipe σ vs) H1 e1 ds J)
    {Qd : Hp → Prop} (hQ : ∀ H' acc', SD K P (D :: G) (wipe σ vs) H' ef → clearE ef vs = true → Ex (hide (D :: (G ++ owns e1 (wipe σ vs))) H1) (hide (D :: (G ++ owns ef (wipe σ vs))) H') → (∀ a ∈ G, ∀ o, NoT o → H1 a = some o → H' a = some o) → H' D = some (.lst acc') →
      RpA K (hide (D :: (G ++ owns ef (wipe σ vs))) H') acc' (dacc0 ++ ys) → Qd H') :
    ∃ W : Nat → Nat → Hp → Prop, (∃ k, W 0 k H1) ∧ ∀ i k H, W i k H → (J.stop i H ∧ Qd H) ∨ (J.go i H ∧ ∃ Nx : Hp → Prop, (∀ H', Nx H' → ∃ k', k' < k ∧ W (i + 1) k' H') ∧ ∀ x H', J.yld i H x H' → g x (wipe σ vs) H' fun σ2 H2 => wipe σ2 vs = wipe σ vs ∧ tDT K P W0 c σ2 H2 fun b H3 =>
      if b = true then tD K P W0 m σ2 H3 fun y H4 => ∃ acc, H4 D = some (.lst acc) ∧ acc.length < sizeLine ∧ Nx (upd H4 D (.lst (acc ++ [y]))) else Nx H3) := by
  refine ⟨fun i k H' => k = ds.length - i ∧ i ≤ ds.length ∧ ∃ e' acc dacc zs, SD K P (D :: G) (wipe σ vs) H' e' ∧ Ex (hide (D :: (G ++ owns e1 (wipe σ vs))) H1) (hide (D :: (G ++ owns e' (wipe σ vs))) H') ∧ (∀ a ∈ G, ∀ o, NoT o → H1 a = some o → H' a = some o) ∧ clearE e' vs = true ∧
    H' D = some (.lst acc) ∧ RpA K (hide (D :: (G ++ owns e' (wipe σ vs))) H') acc dacc ∧ lcL t c m vs (ds.drop i) e' = .ok zs ef ∧ dacc ++ zs = dacc0 ++ ys, ⟨ds.length, rfl, Nat.zero_le _, e1, acc0, dacc0, ys, s0, Ex.refl _, fun _ _ _ _ h => h, c0, hD, r0, hok, rfl⟩, ?_⟩
  rintro i k H' ⟨rfl, hi, e', acc, dacc, zs, s', x', g', c', hDl, ra, heq, hsum⟩
  obtain ⟨wg, wst⟩ := wk i _ H' x' s'.wl
  have hal : acc.length + zs.length ≤ 100000 := by
    have h1 := congrArg List.length hsum
    rw [List.length_append, List.length_append] at h1
    rw [ra.length]
    omega
  by_cases hlt : i < ds.length
  · have hd : ds.drop i = ds[i] :: ds.drop (i + 1) := List.drop_eq_getElem_cons hlt
    rw [hd] at heq
    obtain ⟨go, step⟩ := wg ds[i] (List.getElem?_eq_getElem hlt)
    refine .inr ⟨go, fun H2 => i + 1 ≤ ds.length ∧ ∃ e' acc dacc zs, SD K P (D :: G) (wipe σ vs) H2 e' ∧ Ex (hide (D :: (G ++ owns e1 (wipe σ vs))) H1) (hide (D :: (G ++ owns e' (wipe σ vs))) H2) ∧ (∀ a ∈ G, ∀ o, NoT o → H1 a = some o → H2 a = some o) ∧ clearE e' vs = true ∧
      H2 D = some (.lst acc) ∧ RpA K (hide (D :: (G ++ owns e' (wipe σ vs))) H2) acc dacc ∧ lcL t c m vs (ds.drop (i + 1)) e' = .ok zs ef ∧ dacc ++ zs = dacc0 ++ ys, fun H2 ⟨h1, h2⟩ => ⟨ds.length - (i + 1), by omega, rfl, h1, h2⟩, fun x H2 y => ?_⟩
    obtain ⟨ex2, rx⟩ := step x H2 y
    have s2 := s'.ex ex2
    have xx2 : Ex (hide (D :: (G ++ owns e' (wipe σ vs))) H') (hide (D :: (G ++ owns e' (wipe σ vs))) H2) := hide_mono ex2
    cases q : t ds[i] e' with
    | none =>
      have z : lcL t c m vs (ds[i] :: ds.drop (i + 1)) e' = .bad := by
        show (match t ds[i] e' with | none => R.bad | some e1 => _) = _
        rw [q]
      rw [z] at heq
      cases heq
    | some e2 =>
      refine ht (D :: G) (wipe σ vs) H2 e' e2 x ds[i] _ s2 rx q fun σ3 s3 x3 hout hlen => ?_
      have hwp : wipe σ3 vs = wipe σ vs := (wipe_eq (fun j hj => hout j fun z => hj (hw j z)) hlen).trans wipe_wipe
      refine ⟨hwp, D :: G, e2, s3, ?_⟩
      have hl : lcL t c m vs (ds[i] :: ds.drop (i + 1)) e' = (noX (c e2)).bind fun k e2 => if k = true then (noX (m e2)).bind fun y e3 => if clearE e3 vs = true then (lcL t c m vs (ds.drop (i + 1)) (wipeE e3 vs)).bind fun ys e4 => .ok (y :: ys) e4 else .bad
          else if clearE e2 vs = true then lcL t c m vs (ds.drop (i + 1)) (wipeE e2 vs) else .bad := by
        show (match t ds[i] e' with | none => R.bad | some e1 => _) = _
        rw [q]
      rw [hl] at heq
      obtain ⟨b, e3, qc, heq⟩ := bind_ok heq
      rw [noX_some qc]
      intro H3 r3 s3'
      have xx3 : Ex (hide (D :: (G ++ owns e' (wipe σ vs))) H') (hide (D :: (G ++ owns e3 σ3)) H3) := (xx2.trans x3.st).trans r3.st
      have gD3 : H3 D = some (.lst acc) := r3.gs D List.mem_cons_self _ plain_lst.1 (ex2 _ _ hDl)
      have gG3 : ∀ a ∈ G, ∀ o, NoT o → H1 a = some o → H3 a = some o := fun a ha o no ho => r3.gs a (List.mem_cons_of_mem _ ha) o no (ex2 _ _ (g' a ha o no ho))
      cases b with
      | false =>
        refine iteF ⟨hlt, wipeE e3 vs, acc, dacc, zs, ?_⟩
        rw [if_neg (by decide)] at heq
        by_cases hc3 : clearE e3 vs = true
        · rw [if_pos hc3] at heq
          have ow := owns_wipe (σ := σ3) s3'.sa.length hc3
          have sw := s3'.wipe hc3 hp
          rw [hwp] at ow sw
          refine ⟨sw, ?_, gG3, clear_wipe, gD3, ?_, heq, hsum⟩
          · rw [ow]
            exact x'.trans xx3
          · rw [ow]
            exact ra.mono xx3
        · rw [if_neg hc3] at heq
          cases heq
      | true =>
        refine iteT ⟨D :: G, e3, s3', ?_⟩
        rw [if_pos rfl] at heq
        obtain ⟨yv, e4, qm, heq⟩ := bind_ok heq
        rw [noX_some qm]
        intro H4 r4 s4 v rv
        have gD4 : H4 D = some (.lst acc) := r4.gs D List.mem_cons_self _ plain_lst.1 gD3
        by_cases hc4 : clearE e4 vs = true
        · rw [if_pos hc4] at heq
          obtain ⟨zs', e5, heq, hz⟩ := bind_ok heq
          cases hz
          have h2 : acc.length + (zs'.length + 1) ≤ 100000 := hal
          refine ⟨acc, gD4, sz_lt (by omega), hlt, wipeE e4 vs, acc ++ [v], dacc ++ [yv], zs', ?_⟩
          have ow := owns_wipe (σ := σ3) s4.sa.length hc4
          have sw := s4.wipe hc4 hp
          rw [hwp] at ow sw
          have hu : hide (D :: (G ++ owns e4 σ3)) (upd H4 D (.lst (acc ++ [v]))) = hide (D :: (G ++ owns e4 σ3)) H4 := hide_upd List.mem_cons_self
          refine ⟨sw.ghostUpd gD4 plain_lst plain_lst, ?_, fun a ha o no ho => ?_, clear_wipe, upd_same, ?_, heq, ?_⟩
          · rw [ow, hu]
            exact (x'.trans xx3).trans r4.st
          · rw [upd_ne fun z => s4.notin (by rw [← z]; exact List.mem_append_left _ ha)]
            exact r4.gs a (List.mem_cons_of_mem _ ha) o no (gG3 a ha o no ho)
          · rw [ow, hu]
            exact (ra.mono (xx3.trans r4.st)).append (.cons rv .nil)
          · rw [List.append_assoc]
            exact hsum
        · rw [if_neg hc4] at heq
          cases heq
  · have e : i = ds.length := by omega
    subst e
    rw [List.drop_length] at heq
    cases heq
    rw [List.append_nil] at hsum
    rw [hsum] at ra
    exact .inl ⟨wst (Nat.le_refl _) (Nat.le_refl _), hQ H' acc s' c' x' g' hDl ra⟩
/-- the end of a comprehension: the new list is known -/
theorem lcEnd {K : PySem.W.Frag} {vs : List Nat} (hp : ∀ q ∈ P, q.1 ∉ vs) {σ : Sg} {G : List Addr} {D : Addr} {H1 H' : Hp} {e1 ef : Env} {acc : List V} {ys : List T} {Q : VK} (s1 : SD K P G σ H1 e1) (hc1 : clearE e1 vs = true) (s' : SD K P (D :: G) (wipe σ vs) H' ef) (c' : clearE ef vs = true)
    (x' : Ex (hide (G ++ owns e1 σ) H1) (hide (D :: (G ++ owns ef (wipe σ vs))) H')) (g' : ∀ a ∈ G, ∀ o, NoT o → H1 a = some o → H' a = some o) (hDl : H' D = some (.lst acc)) (ra : RpA K (hide (D :: (G ++ owns ef (wipe σ vs))) H') acc ys)
    (p : Ps K P W (AV K Q G σ) G σ H1 e1 (.ok (.list ys) (backE e1 ef vs))) : Q (.ref D) H' := by
  have hle : ef.length = σ.length := by
    have := s'.sa.length
    rw [wipe_length] at this
    exact this
  have ho := owns_back (e1 := e1) hle hc1 c'
  have sub : Ex (hide (D :: (G ++ owns ef (wipe σ vs))) H') (hide (G ++ owns ef (wipe σ vs)) H') := hide_sub fun a ha => List.mem_cons_of_mem _ ha
  have s0 : SD K P G (wipe σ vs) H' ef := ⟨s'.sa.mono sub fun a _ u h => h, (List.nodup_cons.mp s'.nd).2, fun a ha => s'.gl a (List.mem_cons_of_mem _ ha), s'.pr, s'.tb, fun p hp => (List.mem_cons.mp (s'.th p hp)).resolve_left (tabs_ne s'.tb hDl plain_lst p hp)⟩
  refine p H' ⟨by rw [ho]; exact x'.trans sub, g'⟩ (s0.back s1 (x'.trans sub) hc1 c' hp) _ ?_
  rw [ho]
  exact .lst (hide_at hDl s'.notin) (ra.mono sub)
/-- the beginning -/
theorem lcStart {K : PySem.W.Frag} {vs : List Nat} (hp : ∀ q ∈ P, q.1 ∉ vs) {σ : Sg} {G : List Addr} {D : Addr} {H1 : Hp} {e1 : Env} (s1 : SD K P G σ H1 e1) (hc1 : clearE e1 vs = true) (hD : H1 D = none) : SD K P (D :: G) (wipe σ vs) (upd H1 D (.lst [])) (wipeE e1 vs) ∧
    Ex (hide (G ++ owns e1 σ) H1) (hide (D :: (G ++ owns (wipeE e1 vs) (wipe σ vs))) (upd H1 D (.lst []))) ∧ ∀ a ∈ G, ∀ o, NoT o → H1 a = some o → (upd H1 D (.lst [])) a = some o :=
  ⟨(s1.wipe hc1 hp).ghost hD plain_lst, by rw [owns_wipe s1.sa.length hc1]; exact hide_add hD (hide_mono (Ex.new hD)), fun a ha o _ ho => by
    rw [upd_ne fun z => s1.tr a ha (by rw [z]; exact hD)]
    exact ho⟩
theorem lc_ {K : PySem.W.Frag} {vs : List Nat} (ht : TgD K P ws g t) (hw : ∀ j ∈ ws, j ∈ vs) (hp : ∀ q ∈ P, q.1 ∉ vs) {σ : Sg} {H : Hp} {Q : VK} (h : tD K P W (mLc mi t c m vs) σ H Q) :
    tLc (tI K P W mi) g (tDT K P W0 c) (tD K P W0 m) vs σ H Q := by
  obtain ⟨G, en, s, p⟩ := h
  refine ⟨G, en, s, stepG p fun ds e1 H1 x1 s1 p1 J wk D hD => ?_⟩
  by_cases hk : clearE e1 vs = true
  · rw [if_pos hk] at p1
    cases qb : lcL t c m vs ds (wipeE e1 vs) with
    | ex _ _ _ => rw [qb] at p1; exact p1.elim
    | bad => rw [qb] at p1; exact p1.elim
    | ok ys ef =>
      rw [qb] at p1
      have p2 : Ps K P W (AV K Q G σ) G σ H1 e1 (if ys.length ≤ 100000 then .ok (.list ys) (backE e1 ef vs) else .bad) := p1
      by_cases hz : ys.length ≤ 100000
      · rw [if_pos hz] at p2
        obtain ⟨sg, xg, gg⟩ := lcStart (vs := vs) hp s1 hk hD
        exact lcLoop ht hw hp (dacc0 := []) sg clear_wipe upd_same .nil qb (by show 0 + _ ≤ _; omega) (wk.to xg) fun H' acc s' c' x' g' hDl ra =>
          lcEnd hp s1 hk s' c' (xg.trans x') (fun a ha o no ho => g' a ha o no (gg a ha o no ho)) hDl ra p2
      · rw [if_neg hz] at p2
        exact p2.elim
  · rw [if_neg hk] at p1
    exact p1.elim
theorem de_lc {vs : List Nat} (hc : X.calm = true) (hN : X.N.Nodup) (hi : PI X tg iter (tI X.K P W mi)) (ok : BlkOk X.N X.env.scope scope own)
    (hg : ∀ (s : Shared) (H : Hp) (C : Addr) (cl : List (Str × Addr)) (fp : List Addr), PG (X.blk s H scope (compEnvC scope cl C X.env) fp) tg g) (ht : TgD X.K P ws g t) (hw : ∀ j ∈ ws, j ∈ vs) (hp : ∀ q ∈ P, q.1 ∉ vs)
    (htt : ∀ (s : Shared) (H : Hp) (C : Addr) (cl : List (Str × Addr)) (fp : List Addr), PTs (X.blk s H scope (compEnvC scope cl C X.env) fp) ifs (tDT X.K P W0 c))
    (he : ∀ (s : Shared) (H : Hp) (C : Addr) (cl : List (Str × Addr)) (fp : List Addr), PE (X.blk s H scope (compEnvC scope cl C X.env) fp) elt (tD X.K P W0 m)) (hvs : own.map (·.2) = vs := by rfl) (hs : ∀ x, foldedSetIterable iter X.env x = pure x := by intro _; rfl) :
    PE X (.ListComp elt [⟨tg, iter, ifs, 0⟩] scope pos) (tD X.K P W (mLc mi t c m vs)) := by
  subst hvs
  exact (pe_lc hc hN hi ok hg htt he hs).weak fun σ H Q h => lc_ ht hw hp h
/-- without a test -/
def mYes : M Bool := fun e => .ok true e
theorem dts_nil {X : Cx} : PTs X [] (tDT X.K P W mYes) := ⟨fun pins s σ H Q I ⟨G, en, sd, p⟩ => pts_nil.run pins s σ H Q I (p H .refl sd)⟩
theorem dts_one {X : Cx} {a : Expr} (h : PT X a (tDT X.K P W c)) : PTs X [a] (tDT X.K P W c) := pts_one h
end
end TD

end
section

/-! TD7: builtins over data -/
namespace TD
open PySem PySem.Spec PyProof.Rows L2 Evl
variable [HasT]
theorem tyX_of {K : PySem.W.Frag} {S : List Addr} {H : Hp} {v : V} {d : T} (r : Rp K (hide S H) v d) (n : ∀ k, d ≠ .dict k) (n2 : ∀ k, d ≠ .scr k) (n3 : ∀ c k, d ≠ .obj c k) : TyX K H v (match d with | .none => .type "NoneType" | .bool _ => .type "bool" | .int _ => .type "int" | .str _ => .type "str" | .list _ => .type "list" | .tuple _ => .type "tuple" | _ => .type "dict") := by
  cases r with
  | non => exact .base .non
  | bl b => exact .base (.bl b)
  | int i => exact .base (.int i)
  | str x => exact .base (.str x)
  | lst q _ => exact .base (.lst (hide_ex _ _ _ _ q))
  | tup q _ => exact .base (.tup (hide_ex _ _ _ _ q))
  | dK _ _ _ => exact absurd rfl (n _)
  | dT _ _ _ _ => exact absurd rfl (n _)
  | scr _ => exact absurd rfl (n2 _)
  | obj _ _ _ => exact absurd rfl (n3 _ _)
section
variable {K : PySem.W.Frag}
/-! the ints of a list -/
def intsT : List T → Option (List Int)
  | [] => some []
  | .int i :: r => (intsT r).map (i :: ·)
  | _ :: _ => none
theorem ints_of {H : Hp} : ∀ {vs : List V} {ds : List T} {ns : List Int}, RpA K H vs ds → intsT ds = some ns → vs = ns.map V.int ∧ ds = ns.map T.int
  | _, _, _, .nil, h => by cases h; exact ⟨rfl, rfl⟩
  | _, d :: ds, ns, .cons r t, h => by
    cases r with
    | int i =>
      have h' : (intsT ds).map (i :: ·) = some ns := h
      cases q : intsT ds with
      | none => rw [q] at h'; cases h'
      | some ms =>
        rw [q] at h'
        cases h'
        obtain ⟨e1, e2⟩ := ints_of t q
        exact ⟨by rw [e1]; rfl, by rw [e2]; rfl⟩
    | _ => cases h
def boolsT : List T → Option (List Bool)
  | [] => some []
  | .bool i :: r => (boolsT r).map (i :: ·)
  | _ :: _ => none
theorem bools_of {H : Hp} : ∀ {vs : List V} {ds : List T} {ns : List Bool}, RpA K H vs ds → boolsT ds = some ns → vs = ns.map V.bl ∧ ds = ns.map T.bool
  | _, _, _, .nil, h => by cases h; exact ⟨rfl, rfl⟩
  | _, d :: ds, ns, .cons r t, h => by
    cases r with
    | bl i =>
      have h' : (boolsT ds).map (i :: ·) = some ns := h
      cases q : boolsT ds with
      | none => rw [q] at h'; cases h'
      | some ms =>
        rw [q] at h'
        cases h'
        obtain ⟨e1, e2⟩ := bools_of t q
        exact ⟨by rw [e1]; rfl, by rw [e2]; rfl⟩
    | _ => cases h
theorem rp1 {S : List Addr} {H : Hp} {vs : List V} {d : T} (r : RpA K (hide S H) vs [d]) : ∃ v, vs = [v] ∧ Rp K (hide S H) v d := by
  cases r with
  | cons r t => cases t; exact ⟨_, rfl, r⟩
theorem rp2 {S : List Addr} {H : Hp} {vs : List V} {d d2 : T} (r : RpA K (hide S H) vs [d, d2]) : ∃ v v2, vs = [v, v2] ∧ Rp K (hide S H) v d ∧ Rp K (hide S H) v2 d2 := by
  cases r with
  | cons r t => cases t with
    | cons r2 t => cases t; exact ⟨_, _, rfl, r, r2⟩
/-- a builtin of one thing -/
def un1 (f : T → Option T) : List T → Option T
  | [d] => f d
  | _ => none
theorem cad_un {r : List V → Hp → VK → Prop} {f : T → Option T} (h : ∀ (S : List Addr) (H : Hp) (v : V) (d : T) (Q : VK), Wl S H → Rp K (hide S H) v d → PostO K S Q H (f d) → r [v] H Q) : CaD K r (un1 f) := by
  intro S H vs ds Q w ra p
  match ds, ra, p with
  | [d], ra, p =>
    obtain ⟨v, rfl, rv⟩ := rp1 ra
    exact h S H v d Q w rv p
  | [], _, p => exact nopost p
  | _ :: _ :: _, _, p => exact nopost p
def bi2 (f : T → T → Option T) : List T → Option T
  | [a, b] => f a b
  | _ => none
theorem cad_bi {r : List V → Hp → VK → Prop} {f : T → T → Option T} (h : ∀ (S : List Addr) (H : Hp) (v v2 : V) (d d2 : T) (Q : VK), Wl S H → Rp K (hide S H) v d → Rp K (hide S H) v2 d2 → PostO K S Q H (f d d2) → r [v, v2] H Q) : CaD K r (bi2 f) := by
  intro S H vs ds Q w ra p
  match ds, ra, p with
  | [d, d2], ra, p =>
    obtain ⟨v, v2, rfl, rv, rv2⟩ := rp2 ra
    exact h S H v v2 d d2 Q w rv rv2 p
  | [], _, p => exact nopost p
  | [_], _, p => exact nopost p
  | _ :: _ :: _ :: _, _, p => exact nopost p
/-! len -/
def lenT : T → Option T
  | .list xs => some (.int xs.length)
  | .tuple xs => some (.int xs.length)
  | .scr ns => some (.int ns.length)
  | _ => none
abbrev rLenT (K : PySem.W.Frag) : List V → Hp → VK → Prop := fun xs H Q => ∃ p ys, xs = [.ref p] ∧ (SqL K H p ys ∨ SqT K H p ys) ∧ Q (.int ys.length) H
theorem cad_len : CaD K (rLenT K) (un1 lenT) := cad_un fun S H v d Q w r p => by
  cases r with
  | lst q r => exact ⟨_, _, rfl, .inl (sq_of (hide_ex _ _ _ _ q)), ret p (by rw [r.length]; rfl) (.int _)⟩
  | tup q r => exact ⟨_, _, rfl, .inr (st_of (hide_ex _ _ _ _ q)), ret p (by rw [r.length]; rfl) (.int _)⟩
  | scr q => exact ⟨_, _, rfl, .inl (SqL.mono (hide_ex _ _) q), ret p (by rw [List.length_map]; rfl) (.int _)⟩
  | _ => exact nopost p
/-! sum -/
def sumT : T → Option T
  | .list xs => (intsT xs).map fun ns => .int ns.sum
  | .tuple xs => (intsT xs).map fun ns => .int ns.sum
  | _ => none
abbrev rSumT (K : PySem.W.Frag) : List V → Hp → VK → Prop := fun vs H Q => rSum K vs H Q ∨ ∃ (a : Addr) (ns : List Int), vs = [V.ref a] ∧ SqT K H a (ns.map V.int) ∧ Q (.int ns.sum) H
theorem cr_sumU {X : Cx} (hc : X.calm = true) : CallR X (.builtin "sum") (fun vs H Q => ∃ (a : Addr) (ns : List Int), vs = [V.ref a] ∧ SqT X.K H a (ns.map V.int) ∧ Q (.int ns.sum) H) := by
  intro pins s σ H vs us Q I r h
  obtain ⟨a, ns, rfl, hs, q⟩ := h
  obtain ⟨its, rv, hl, _⟩ := I.tuple hs
  rw [Vals.ref1 r]
  have hi := rv.ints
  obtain ⟨xs, hx⟩ := hi.allInts.items
  have hn : numsOf its.toArray.toList = ns := by rw [show its.toArray.toList = its from rfl, hi.numsOf]
  have hl' : s.heap.IsTuple a its.toArray := hl
  rw [hx] at hl' hn
  rw [nums_intItems] at hn
  refine PySem.W.ktm_sumG (I.ok.hd hc) hl' fun h' tk t' hk => ?_
  refine ⟨.int ns.sum, H, I.kept hk, ⟨t', ?_⟩, q⟩
  rw [preSum_eq, List.take_of_length_le (by simp), hn]
theorem cr_sumT {X : Cx} (hc : X.calm = true) : CallR X (.builtin "sum") (rSumT X.K) := (cr_sum hc).or (cr_sumU hc)
theorem map_some {α β : Type} {o : Option α} {f : α → β} {Q : Option β → Prop} (h : Q (o.map f)) (hn : ¬ Q none) : ∃ a, o = some a ∧ Q (some (f a)) := by
  cases o with
  | none => exact absurd h hn
  | some a => exact ⟨a, rfl, h⟩
theorem nopost' {S : List Addr} {H : Hp} {Q : VK} : ¬ PostO K S Q H none := fun h => nopost h
theorem cad_sum : CaD K (rSumT K) (un1 sumT) := cad_un fun S H v d Q w r p => by
  cases r with
  | lst q r =>
    obtain ⟨ns, e, p⟩ := map_some (Q := PostO K S Q H) p nopost'
    obtain ⟨e1, _⟩ := ints_of r e
    exact .inl ⟨_, ns, rfl, by rw [← e1]; exact sq_of (hide_ex _ _ _ _ q), ret p rfl (.int _)⟩
  | tup q r =>
    obtain ⟨ns, e, p⟩ := map_some (Q := PostO K S Q H) p nopost'
    obtain ⟨e1, _⟩ := ints_of r e
    exact .inr ⟨_, ns, rfl, by rw [← e1]; exact st_of (hide_ex _ _ _ _ q), ret p rfl (.int _)⟩
  | _ => exact nopost p
/-! all, any -/
def allT : T → Option T
  | .list xs => (boolsT xs).map fun bs => .bool (bs.all id)
  | _ => none
def anyT : T → Option T
  | .list xs => (boolsT xs).map fun bs => .bool (bs.any id)
  | _ => none
theorem cad_all : CaD K (rAll K) (un1 allT) := cad_un fun S H v d Q w r p => by
  cases r with
  | lst q r =>
    obtain ⟨ns, e, p⟩ := map_some (Q := PostO K S Q H) p nopost'
    obtain ⟨e1, _⟩ := bools_of r e
    exact ⟨_, ns, rfl, by rw [← e1]; exact sq_of (hide_ex _ _ _ _ q), ret p rfl (.bl _)⟩
  | _ => exact nopost p
theorem cad_any : CaD K (rAny K) (un1 anyT) := cad_un fun S H v d Q w r p => by
  cases r with
  | lst q r =>
    obtain ⟨ns, e, p⟩ := map_some (Q := PostO K S Q H) p nopost'
    obtain ⟨e1, _⟩ := bools_of r e
    exact ⟨_, ns, rfl, by rw [← e1]; exact sq_of (hide_ex _ _ _ _ q), ret p rfl (.bl _)⟩
  | _ => exact nopost p
/-! max, min of two ints; int(n) -/
def max2T : T → T → Option T := intOp fun i j => some (.int (if j > i then j else i))
def min2T : T → T → Option T := intOp fun i j => some (.int (if j < i then j else i))
theorem cad_max2 : CaD K (fun xs H Q => ∃ i j, xs = [.int i, .int j] ∧ Q (.int (if j > i then j else i)) H) (bi2 max2T) := cad_bi fun S H v v2 d d2 Q w r r2 p => by
  cases r with
  | int i => cases r2 with
    | int j => exact ⟨i, j, rfl, ret p rfl (.int _)⟩
    | _ => exact nopost p
  | _ => cases r2 <;> exact nopost p
theorem cad_min2 : CaD K (fun xs H Q => ∃ i j, xs = [.int i, .int j] ∧ Q (.int (if j < i then j else i)) H) (bi2 min2T) := cad_bi fun S H v v2 d d2 Q w r r2 p => by
  cases r with
  | int i => cases r2 with
    | int j => exact ⟨i, j, rfl, ret p rfl (.int _)⟩
    | _ => exact nopost p
  | _ => cases r2 <;> exact nopost p
def intT : T → Option T
  | .int i => some (.int i)
  | _ => none
theorem cad_int : CaD K (fun xs H Q => (∃ i, xs = [.int i] ∧ Q (.int i) H) ∨ ∃ k, xs = [.bl k] ∧ Q (.int (if k then 1 else 0)) H) (un1 intT) := cad_un fun S H v d Q w r p => by
  cases r with
  | int i => exact .inl ⟨i, rfl, ret p rfl (.int _)⟩
  | _ => exact nopost p
/-! list(x), tuple(x) -/
def listT : T → Option T
  | .list xs => some (.list xs)
  | .tuple xs => some (.list xs)
  | _ => none
def tupleT : T → Option T
  | .list xs => some (.tuple xs)
  | .tuple xs => some (.tuple xs)
  | _ => none
theorem cad_list : CaD K (fun xs H Q => ∃ p ys, xs = [.ref p] ∧ (SqL K H p ys ∨ SqT K H p ys) ∧ ∀ l, H l = none → Q (.ref l) (upd H l (.lst ys))) (un1 listT) := cad_un fun S H v d Q w r p => by
  cases r with
  | lst q r => exact ⟨_, _, rfl, .inl (sq_of (hide_ex _ _ _ _ q)), fun l hl => retL w p rfl hl r⟩
  | tup q r => exact ⟨_, _, rfl, .inr (st_of (hide_ex _ _ _ _ q)), fun l hl => retL w p rfl hl r⟩
  | _ => exact nopost p
theorem cad_tuple : CaD K (fun xs H Q => ∃ p ys, xs = [.ref p] ∧ ((SqL K H p ys ∧ ∀ l, H l = none → Q (.ref l) (upd H l (.tup ys))) ∨ (SqT K H p ys ∧ Q (.ref p) H))) (un1 tupleT) := cad_un fun S H v d Q w r p => by
  cases r with
  | lst q r => exact ⟨_, _, rfl, .inl ⟨sq_of (hide_ex _ _ _ _ q), fun l hl => retU w p rfl hl r⟩⟩
  | tup q r => exact ⟨_, _, rfl, .inr ⟨st_of (hide_ex _ _ _ _ q), ret p rfl (.tup q r)⟩⟩
  | _ => exact nopost p
/-! x in xs -/
def inT (neg : Bool) : T → T → Option T
  | d, .list ds => if (shp d && shp (.list ds)) = true then some (.bool (if neg then !(ds.any fun z => eqP z d) else ds.any fun z => eqP z d)) else none
  | _, _ => none
end
/-! displays -/
section
variable {X : Cx} {P : List (Nat × Addr)} {W : WX} {es : List Expr} {ml : M (List T)} {pos : Pos} {k : ExprContext}
def mkTup (ml : M (List T)) : M T := fun e => (ml e).bind fun ds e => if ds.length ≤ 100000 then .ok (.tuple ds) e else .bad
def mkLst (ml : M (List T)) : M T := fun e => (ml e).bind fun ds e => if ds.length ≤ 100000 then .ok (.list ds) e else .bad
end
section
variable {X : Cx} {P : List (Nat × Addr)} {W : WX} {es : List Expr} {ml : M (List T)}
theorem de_tup {e : Expr} (ha : PA X es (tDA X.K P W ml)) (h : ∀ {t : TA}, PA X es t → PE X e (tTup t)) : PE X e (tD X.K P W (mkTup ml)) := (h ha).weak fun σ H Q ⟨G, en, s, p⟩ => stepA s p fun d e1 v H1 x1 s1 r1 p1 => by
  by_cases hz : d.length ≤ 100000
  · rw [if_pos hz] at p1
    refine ⟨sz_of (by rw [r1.length]; exact hz), fun l hl => p1 _ (.ex (Ex.new hl)) (s1.ex (Ex.new hl)) _ (new_tup s1.wl hl r1)⟩
  · rw [if_neg hz] at p1
    exact p1.elim
theorem de_lst {e : Expr} (ha : PA X es (tDA X.K P W ml)) (h : ∀ {t : TA}, PA X es t → PE X e (tLst t)) : PE X e (tD X.K P W (mkLst ml)) := (h ha).weak fun σ H Q ⟨G, en, s, p⟩ => stepA s p fun d e1 v H1 x1 s1 r1 p1 => by
  by_cases hz : d.length ≤ 100000
  · rw [if_pos hz] at p1
    refine ⟨sz_of (by rw [r1.length]; exact hz), fun l hl => p1 _ (.ex (Ex.new hl)) (s1.ex (Ex.new hl)) _ (new_lst s1.wl hl r1)⟩
  · rw [if_neg hz] at p1
    exact p1.elim
/-- a builtin called -/
theorem de_call {e : Expr} {r : List V → Hp → VK → Prop} {f : List T → Option T} (hd : CaD X.K r f) (ha : PA X es (tDA X.K P W ml)) (h : ∀ {t : TA}, PA X es t → PE X e (tCB r t)) : PE X e (tD X.K P W (mCa f ml)) := (h ha).weak fun σ H Q ⟨G, en, s, p⟩ =>
  stepA s p fun d e1 v H1 x1 s1 r1 p1 => hd _ H1 v d Q s1.wl r1 (post_o s1 p1)
end
end TD

end
section

/-! TD8: defs over data: what a call gives, calls, raise -/
namespace TD
open PySem PySem.Spec PyProof.Rows L2 Evl
variable [HasT]
/-- what a call gives -/
inductive RF where
  | ok (t : T)
  | ex (c : Str) (fs : List (Str × T))
  | bad
abbrev F := List T → RF
/-- what is asked of a call that began at (S, H) -/
def PF (K : PySem.W.Frag) (S : List Addr) (H : Hp) (Q : VK) (E : XK) : RF → Prop
  | .ok d => ∀ v H', Ex (hide S H) (hide S H') → (∀ a ∈ S, ∀ o, NoT o → H a = some o → H' a = some o) → LamX.Tabs HasT.T H' → Rp K (hide S H') v d → Q v H'
  | .ex c fs => ∀ dd H', Ex (hide S H) (hide S H') → (∀ a ∈ S, ∀ o, NoT o → H a = some o → H' a = some o) → LamX.Tabs HasT.T H' → XR K (hide S H') H' dd fs → E (.ref (He.ga K c)) (some dd) H'
  | .bad => False
def spV (K : PySem.W.Frag) (n : Nat) (f : F) : Sp := fun vs H Q E => vs.length = n ∧ ∃ (S : List Addr) (ds : List T), GL S H ∧ (LamX.Tabs HasT.T H ∧ ∀ p ∈ HasT.T, p.1 ∈ S) ∧ S.Nodup ∧ RpA K (hide S H) vs ds ∧ PF K S H Q E (f ds)
def outF : RS → RF
  | .nx _ => .ok .none
  | .rt t _ => .ok t
  | .ex c fs _ => .ex c fs
  | _ => .bad
/-- a body as a function: n arguments, N slots -/
def runF (N : Nat) (b : MS) : F := fun ds => outF (b (ds.map .val ++ List.replicate (N - ds.length) .un))
def mF (f : F) (a : M (List T)) : M T := fun e => (a e).bind fun ds e => match f ds with
  | .ok d => .ok d e
  | .ex c fs => .ex c fs e
  | .bad => .bad
section
variable {K : PySem.W.Frag}
theorem sa_start {H0 H : Hp} : ∀ {vs : List V} {ds : List T} {k : Nat}, RpA K H0 vs ds → SA K H0 H (ds.map .val ++ List.replicate k .un) (vs.map some ++ List.replicate k none)
  | _, _, 0, .nil => .nil
  | _, _, k + 1, .nil => by
    show SA K H0 H (List.replicate (k + 1) .un) (List.replicate (k + 1) none)
    rw [List.replicate_succ, List.replicate_succ]
    have h : SA K H0 H ([].map .val ++ List.replicate k .un) (([] : List V).map some ++ List.replicate k none) := sa_start .nil
    exact .cons .un h
  | _, _, k, .cons r t => .cons (.val r) (sa_start t)
theorem owns_start : ∀ {vs : List V} {ds : List T} {k : Nat}, vs.length = ds.length → owns (ds.map .val ++ List.replicate k .un) (vs.map some ++ List.replicate k none) = []
  | [], [], 0, _ => rfl
  | [], [], k + 1, _ => by
    show owns (List.replicate (k + 1) .un) (List.replicate (k + 1) none) = []
    rw [List.replicate_succ, List.replicate_succ]
    show own1 .un none ++ owns (List.replicate k .un) (List.replicate k none) = []
    have h : owns (([] : List T).map Sl.val ++ List.replicate k .un) (([] : List V).map some ++ List.replicate k none) = [] := owns_start rfl
    rw [own1_un]
    exact h
  | v :: vs, d :: ds, k, h => by
    show own1 (.val d) (some v) ++ owns (ds.map .val ++ List.replicate k .un) (vs.map some ++ List.replicate k none) = []
    rw [own1_val, owns_start (by simpa using h)]
    rfl
  | [], _ :: _, _, h => by simp at h
  | _ :: _, [], _, h => by simp at h
end
section
variable {P : Program} {w : World} {K : PySem.W.Frag} {mg : Str → Option Value} {base : Heap} {x qual : Str} {params : Arguments} {body : List Stmt} {scope : Scope} {f : Addr} {fd : FuncData}
/-- the body's context -/
abbrev BX (P : Program) (w : World) (K : PySem.W.Frag) (mg : Str → Option Value) (base : Heap) (N : List Str) (qual : Str) (scope : Scope) (f : Addr) (cdv : Value) (A : Around) (outer : List PySem.Env) (s : Shared) (H : Hp) (E : XK) : Cx := cxOf (CX P w) P w K mg base N qual scope f cdv A outer s H E
/-- a def: its body's derivation gives its promise -/
theorem fun_td {N ps : List Str} {k : Nat} {b : MS} (F : FunD K x qual params body scope [] [] f fd) (S : FnScope N ps scope) (hn : ps.length ≤ N.length)
    (hb : ∀ (cdv : Value) (A : Around) (outer : List PySem.Env) (s : Shared) (H : Hp) (E : XK), Room k (A.deeper (envOfC qual scope s.heap.objs.size f cdv)) →
      PSs (BX P w K mg base N qual scope f cdv A outer s H E) body (tS K [] (fun cls d _ H => E cls d H) b)) : FnOk P w K mg base (CX P w) (k + 1) f fd ps (spV K ps.length (runF N.length b)) := by
  refine F.ok S (fun vs H Q E h => h.1) fun cdv A outer s H vs Q E hr h => ⟨_, hb cdv A outer s H E hr, ?_⟩
  obtain ⟨hl, G, ds, wl, ⟨tb, th⟩, nd, ra, p⟩ := h
  have hd : ds.length = vs.length := ra.length.symm
  have ho : owns (ds.map .val ++ List.replicate (N.length - ds.length) .un) (L2.start N vs) = [] := by
    unfold L2.start
    rw [hd]
    exact owns_start ra.length
  refine ⟨G, ds.map .val ++ List.replicate (N.length - ds.length) .un, ⟨?_, ?_, wl, (fun q hq => by cases hq), tb, th⟩, ?_⟩
  · rw [ho, List.append_nil]
    unfold L2.start
    rw [hd]
    exact sa_start ra
  · rw [ho, List.append_nil]
    exact nd
  · have p' : PF K G H Q E (outF (b (ds.map .val ++ List.replicate (N.length - ds.length) .un))) := p
    have sub : ∀ {σ' : Sg} {H' : Hp} {e' : Env}, Ex (hide (G ++ owns e' σ') H') (hide G H') := hide_sub fun a ha => List.mem_append_left _ ha
    have rel : ∀ {σ' : Sg} {H' : Hp} {e' : Env}, Rel G (L2.start N vs) H (ds.map .val ++ List.replicate (N.length - ds.length) .un) σ' H' e' → Ex (hide G H) (hide G H') := fun r => by
      have r1 := r.st
      rw [ho, List.append_nil] at r1
      exact r1.trans sub
    cases q : b (ds.map .val ++ List.replicate (N.length - ds.length) .un) with
    | nx e' =>
      rw [q] at p'
      exact fun σ' H' r s' => p' .non H' (rel r) r.gs s'.tb .non
    | rt t e' =>
      rw [q] at p'
      exact fun v σ' H' r s' rv => p' v H' (rel r) r.gs s'.tb (rv.mono sub)
    | ex c fs e' =>
      rw [q] at p'
      exact fun dd σ' H' r s' xr => p' dd H' (rel r) r.gs s'.tb (by
        obtain ⟨gs, h1, h2, h3⟩ := xr
        exact ⟨gs, h1, h2, h3.mono sub⟩)
    | bk e' => rw [q] at p'; exact p'.elim
    | ct e' => rw [q] at p'; exact p'.elim
    | bad => rw [q] at p'; exact p'.elim
end
section
variable {X : Cx} {P : List (Nat × Addr)} {W : WX} {es : List Expr} {ml : M (List T)} {e : Expr} {f : F} {n : Nat}
theorem trk {H H' : Hp} {a : Addr} (h : H a ≠ none) (g : ∀ o, H a = some o → H' a = some o) : H' a ≠ none := by
  cases q : H a with
  | none => exact absurd q h
  | some o =>
    rw [g o q]
    intro z
    cases z
theorem ps_call {K : PySem.W.Frag} {G : List Addr} {σ : Sg} {H : Hp} {e1 : Env} {Q : VK} {r : RF} (s : SD K P G σ H e1) (p : Ps K P W (AV K Q G σ) G σ H e1 (match r with | .ok d => .ok d e1 | .ex c fs => .ex c fs e1 | .bad => .bad)) :
    PF K (G ++ owns e1 σ) H Q (WE W σ) r := by
  have back : ∀ {H' : Hp}, Ex (hide (G ++ owns e1 σ) H) (hide (G ++ owns e1 σ) H') → (∀ a ∈ G ++ owns e1 σ, ∀ o, NoT o → H a = some o → H' a = some o) → LamX.Tabs HasT.T H' → Rel G σ H e1 σ H' e1 ∧ SD K P G σ H' e1 := fun {H'} x g tb =>
    ⟨⟨x, fun a ha => g a (List.mem_append_left _ ha)⟩, ⟨s.sa.mono x (s.keep g), s.nd, s.gl.go fun a ha => g a (List.mem_append_left _ ha), s.pr, tb, s.th⟩⟩
  cases r with
  | ok d => exact fun v H' x g tb rv => p H' (back x g tb).1 (back x g tb).2 v rv
  | ex c fs => exact fun dd H' x g tb xr => p dd H' (back x g tb).1 (back x g tb).2 xr
  | bad => exact p.elim
/-- a call of an own def -/
theorem de_fn (hn : ∀ {e1 : Env} {ds : List T} {e : Env}, ml e = .ok ds e1 → ds.length = n) (ha : PA X es (tDA X.K P W ml)) (h : ∀ {t : TA}, PA X es t → PE X e (tCallS (spV X.K n f) (WE W) t)) : PE X e (tD X.K P W (mF f ml)) := (h ha).weak fun σ H Q ⟨G, en, s, p⟩ =>
  stepAq s p fun d e1 v H1 hq x1 s1 r1 p1 => ⟨by rw [r1.length]; exact hn hq, _, d, s1.gla, ⟨s1.tb, s1.tha⟩, s1.nd, r1, ps_call s1 p1⟩
end
end TD

end
section

/-! TD9: isinstance, while, raise -/
namespace TD
open PySem PySem.Spec PyProof.Rows L2 Evl
variable [HasT]
/-! ### isinstance -/
/-- the type's name; none: a dict with tuples as keys -/
def tyN : T → Option String
  | .none => some "NoneType"
  | .bool _ => some "bool"
  | .int _ => some "int"
  | .str _ => some "str"
  | .list _ => some "list"
  | .tuple _ => some "tuple"
  | .dict [] => some "dict"
  | .dict ((.tuple _, _) :: _) => none
  | .dict (_ :: _) => some "dict"
  | .scr _ => none
  | .obj _ _ => none
def isN (a n : String) : Bool := a == n || (a == "bool" && n == "int")
def isT (n : String) (d : T) : Option T := (tyN d).map fun a => .bool (isN a n)
def isTs (ns : List String) (d : T) : Option T := (tyN d).map fun a => .bool (ns.any fun n => isN a n)
theorem tyX {K : PySem.W.Frag} {S : List Addr} {H : Hp} {v : V} {d : T} {nm : String} (r : Rp K (hide S H) v d) (h : tyN d = some nm) : TyX K H v (.type nm) := by
  cases r with
  | non => cases h; exact .base .non
  | bl b => cases h; exact .base (.bl b)
  | int i => cases h; exact .base (.int i)
  | str x => cases h; exact .base (.str x)
  | lst q _ => cases h; exact .base (.lst (hide_ex _ _ _ _ q))
  | tup q _ => cases h; exact .base (.tup (hide_ex _ _ _ _ q))
  | @dK a o ks vs ds q l r =>
    have h2 : some "dict" = some nm := by
      cases ks with
      | nil => exact h
      | cons k ks =>
        cases ds with
        | nil => exact h
        | cons d ds => cases k <;> exact h
    cases h2
    exact .fDict (hide_ex _ _ _ _ q)
  | @dT a o ks vs ds n q l r =>
    cases ks with
    | nil => exact absurd rfl n
    | cons k ks =>
      cases vs with
      | nil => cases l
      | cons v vs =>
        cases r
        cases h
  | scr _ => cases h
  | obj _ _ _ => cases h
def tyNs : List String := ["NoneType", "bool", "int", "str", "list", "tuple", "dict"]
theorem tyN_mem {d : T} {a : String} (h : tyN d = some a) : a ∈ tyNs := by
  unfold tyN at h
  split at h <;> first | (cases h; decide) | cases h
def isNs : List String := ["bool", "int", "str", "list", "tuple", "dict"]
theorem kit_all : ∀ a ∈ tyNs, ∀ n ∈ isNs, kitB a n = some (isN a n) := by decide +kernel
section
variable {X : Cx} {P : List (Nat × Addr)} {W : WX} {e c E : Expr} {m : M T}
theorem de_is {n : String} (hn : n ∈ isNs) (he : PE X e (tD X.K P W m)) (hc : PE X c (tC (.ty n))) (h : ∀ {t : TA}, PA X [e, c] t → PE X E (tCB (rIsi X.K) t)) (hp : ∀ {t u : TE}, PE X e t → PE X c u → PA X [e, c] (tCons t (tCons u tNil))) : PE X E (tD X.K P W (mUn (isT n) m)) :=
  (h (hp he hc)).weak fun σ H Q ⟨G, en, s, p⟩ => step s p fun d e1 v H1 x1 s1 r1 p1 => by
    cases q : tyN d with
    | none =>
      have p2 : Ps X.K P W (AV X.K Q G σ) G σ H1 e1 (ofO ((tyN d).map fun a => .bool (isN a n)) e1) := p1
      rw [q] at p2
      exact p2.elim
    | some a =>
      have p2 : Ps X.K P W (AV X.K Q G σ) G σ H1 e1 (ofO ((tyN d).map fun a => .bool (isN a n)) e1) := p1
      rw [q] at p2
      exact ⟨v, .ty n, .type a, .type n, isN a n, rfl, .ty n, tyX r1 q, kit_ty (kit_all a (tyN_mem q) n hn), p2 H1 .refl s1 _ (.bl _)⟩
/-- isinstance(x, (c1, c2)) -/
theorem de_is2 {c1 c2 : Expr} {n1 n2 : String} {ct : Expr} (hn1 : n1 ∈ isNs) (hn2 : n2 ∈ isNs) (he : PE X e (tD X.K P W m)) (hc1 : PE X c1 (tC (.ty n1))) (hc2 : PE X c2 (tC (.ty n2)))
    (ht : ∀ {t u : TE}, PE X c1 t → PE X c2 u → PE X ct (tTup (tCons t (tCons u tNil)))) (h : ∀ {t : TA}, PA X [e, ct] t → PE X E (tCB (rIsiT X.K) t)) (hp : ∀ {t u : TE}, PE X e t → PE X ct u → PA X [e, ct] (tCons t (tCons u tNil))) : PE X E (tD X.K P W (mUn (isTs [n1, n2]) m)) :=
  (h (hp he (ht hc1 hc2))).weak fun σ H Q ⟨G, en, s, p⟩ => step s p fun d e1 v H1 x1 s1 r1 p1 => by
    cases q : tyN d with
    | none =>
      have p2 : Ps X.K P W (AV X.K Q G σ) G σ H1 e1 (ofO ((tyN d).map fun a => .bool ([n1, n2].any fun n => isN a n)) e1) := p1
      rw [q] at p2
      exact p2.elim
    | some a =>
      have p2 : Ps X.K P W (AV X.K Q G σ) G σ H1 e1 (ofO ((tyN d).map fun a => .bool ([n1, n2].any fun n => isN a n)) e1) := p1
      rw [q] at p2
      refine ⟨sz_of (by show 2 ≤ 100000; decide), fun l hl => ?_⟩
      have x2 : Ex H1 (upd H1 l (.tup [.ty n1, .ty n2])) := Ex.new hl
      refine ⟨v, l, [.ty n1, .ty n2], .type a, [.type n1, .type n2], _, rfl, upd_same, .cons (.ty n1) (.cons (.ty n2) .nil), tyX (r1.mono (hide_mono (S := G ++ owns e1 σ) x2)) q,
        kitAny_cons (kit_ty (kit_all a (tyN_mem q) n1 hn1)) (r := [n1, n2].any fun n => isN a n) (fun z => ?_) (fun z => ?_), p2 _ (.ex x2) (s1.ex x2) _ (.bl _)⟩
      · refine kitAny_cons (kit_ty (kit_all a (tyN_mem q) n2 hn2)) (fun z2 => ?_) (fun z2 => ?_)
        · rw [kitAny_nil]
          simp [z, z2]
        · simp [z2]
      · simp [z]
end
/-! ### while -/
def whL (c : M Bool) (b : MS) : Nat → MS
  | 0, _ => .bad
  | n + 1, e => (c e).st fun k e1 => if k = true then (match b e1 with
      | .nx e2 => whL c b n e2
      | .ct e2 => whL c b n e2
      | .bk e2 => .nx e2
      | .rt v e2 => .rt v e2
      | .ex c fs e2 => .ex c fs e2
      | .bad => .bad) else .nx e1
section
variable {X : Cx} {P : List (Nat × Addr)} {W : WX} {e : Expr} {body : List Stmt} {c : M Bool} {b : MS} {pos : Pos}
theorem d_while (n : Nat) (hp : PassesOwn (model X.prog X.w) X.A X.env X.xe) (hc : PT X e (tDT X.K P W c)) (hb : PSs X body (tS X.K P W b)) : PS X (.While e body [] pos) (tS X.K P W (whL c b n)) := (ps_while hp hc hb).weak fun D σ H ⟨G, en, s, p⟩ => by
  refine ⟨fun m σ' H' => ∃ e', SD X.K P G σ' H' e' ∧ PsS X.K P W D G σ' H' e' (whL c b m e'), ⟨n, en, s, p⟩, ?_⟩
  rintro m σ' H' ⟨e', s', p'⟩
  cases m with
  | zero => exact p'.elim
  | succ m =>
    refine ⟨G, e', s', stepS p' fun k e1 H1 x1 s1 p1 => ?_⟩
    cases k with
    | false =>
      rw [if_neg (by decide)] at p1
      exact iteF (p1 σ' H1 .refl s1)
    | true =>
      rw [if_pos rfl] at p1
      refine iteT ⟨fun σ2 H2 => ∃ e2, SD X.K P G σ2 H2 e2 ∧ PsS X.K P W D G σ2 H2 e2 (whL c b m e2), fun σ2 H2 h => ⟨m, Nat.lt_succ_self _, h⟩, G, e1, s1, ?_⟩
      cases q : b e1 with
      | nx e2 =>
        simp only [q] at p1
        exact fun σ2 H2 x2 s2 => ⟨e2, s2, PsS.go x2 p1⟩
      | ct e2 =>
        simp only [q] at p1
        exact fun σ2 H2 x2 s2 => ⟨e2, s2, PsS.go x2 p1⟩
      | bk e2 =>
        simp only [q] at p1
        exact fun σ2 H2 x2 s2 => p1 σ2 H2 x2 s2
      | rt v e2 =>
        simp only [q] at p1
        exact p1
      | ex c fs e2 =>
        simp only [q] at p1
        exact p1
      | bad =>
        simp only [q] at p1
        exact p1
end
end TD

end
section

/-! TD10: short words for texts -/
namespace TD
open PySem PySem.Spec PyProof.Rows L2 Evl
variable [HasT]
theorem mca1 {f : T → Option T} {m : M T} : mCa (un1 f) (mCons m mNil) = mUn f m := by
  funext e
  unfold mCa mCons mUn mNil
  cases m e <;> rfl
theorem mca2 {f : T → T → Option T} {a b : M T} : mCa (bi2 f) (mCons a (mCons b mNil)) = mOp f a b := by
  funext e
  unfold mCa mCons mOp mNil
  cases a e with
  | ok x e1 =>
    show (((b e1).bind fun y e => (R.ok [] e).bind fun xs e => .ok (y :: xs) e).bind fun xs e => .ok (x :: xs) e).bind _ = (b e1).bind _
    cases b e1 <;> rfl
  | _ => rfl
/-- the builtins' names are the builtins' -/
structure Nm (mg : Str → Option Value) : Prop where
  len : mg "len" = none
  sum : mg "sum" = none
  all : mg "all" = none
  any : mg "any" = none
  int : mg "int" = none
  list : mg "list" = none
  tuple : mg "tuple" = none
  dict : mg "dict" = none
  min : mg "min" = none
  max : mg "max" = none
  range : mg "range" = none
  zip : mg "zip" = none
  isinstance : mg "isinstance" = none
  sorted : mg "sorted" = none
  bool : mg "bool" = none
  str : mg "str" = none
section
variable {X : Cx} {P : List (Nat × Addr)} {W : WX} {e a b c : Expr} {m ma mb : M T} {p p1 p2 p3 p4 pos : Pos} {k : Nat}
theorem call1 {E : Expr} {r : List V → Hp → VK → Prop} {f : T → Option T} (hd : CaD X.K r (un1 f)) (he : PE X e (tD X.K P W m)) (hs : starEach [e] X.env = (false, eval e X.env) :: starEach [] X.env) (h : ∀ {t : TA}, PA X [e] t → PE X E (tCB r t)) : PE X E (tD X.K P W (mUn f m)) := by
  rw [← mca1]
  exact de_call hd (da_cons he da_nil hs) h
theorem call2 {E : Expr} {r : List V → Hp → VK → Prop} {f : T → T → Option T} (hd : CaD X.K r (bi2 f)) (ha : PE X a (tD X.K P W ma)) (hb : PE X b (tD X.K P W mb)) (hs : starEach [a, b] X.env = (false, eval a X.env) :: starEach [b] X.env) (hs2 : starEach [b] X.env = (false, eval b X.env) :: starEach [] X.env) (h : ∀ {t : TA}, PA X [a, b] t → PE X E (tCB r t)) : PE X E (tD X.K P W (mOp f ma mb)) := by
  rw [← mca2]
  exact de_call hd (da_cons ha (da_cons hb da_nil hs2) hs) h
theorem dd_len (T : Nm X.mg) (he : PE X e (tD X.K P W m)) (hg : Gl X "len" := by rfl) (hs : starEach [e] X.env = (false, eval e X.env) :: starEach [] X.env := by rfl) (hpl : (backTo pos (starEach [] X.env)).any (·.1) = false := by rfl) : PE X (.Call (.Name "len" p) [e] [] pos) (tD X.K P W (mUn lenT m)) :=
  call1 cad_len he hs fun h => pe_callB call_len_seq hg T.len PySem.boot_len h (by decide) (by decide) hs hpl
theorem dd_sum (T : Nm X.mg) (hc : X.calm = true) (he : PE X e (tD X.K P W m)) (hg : Gl X "sum" := by rfl) (hs : starEach [e] X.env = (false, eval e X.env) :: starEach [] X.env := by rfl) (hpl : (backTo pos (starEach [] X.env)).any (·.1) = false := by rfl) : PE X (.Call (.Name "sum" p) [e] [] pos) (tD X.K P W (mUn sumT m)) :=
  call1 cad_sum he hs fun h => pe_callB (cr_sumT hc) hg T.sum PyProof.Rows.boot_sum h (by decide) (by decide) hs hpl
theorem dd_all (T : Nm X.mg) (hc : X.calm = true) (he : PE X e (tD X.K P W m)) (hg : Gl X "all" := by rfl) (hs : starEach [e] X.env = (false, eval e X.env) :: starEach [] X.env := by rfl) (hpl : (backTo pos (starEach [] X.env)).any (·.1) = false := by rfl) : PE X (.Call (.Name "all" p) [e] [] pos) (tD X.K P W (mUn allT m)) :=
  call1 cad_all he hs fun h => pe_callB (cr_all hc) hg T.all PyProof.Rows.boot_all h (by decide) (by decide) hs hpl
theorem dd_any (T : Nm X.mg) (hc : X.calm = true) (he : PE X e (tD X.K P W m)) (hg : Gl X "any" := by rfl) (hs : starEach [e] X.env = (false, eval e X.env) :: starEach [] X.env := by rfl) (hpl : (backTo pos (starEach [] X.env)).any (·.1) = false := by rfl) : PE X (.Call (.Name "any" p) [e] [] pos) (tD X.K P W (mUn anyT m)) :=
  call1 cad_any he hs fun h => pe_callB (cr_any hc) hg T.any (by decide +kernel) h (by decide) (by decide) hs hpl
theorem dd_int (T : Nm X.mg) (he : PE X e (tD X.K P W m)) (hg : Gl X "int" := by rfl) (hs : starEach [e] X.env = (false, eval e X.env) :: starEach [] X.env := by rfl) (hpl : (backTo pos (starEach [] X.env)).any (·.1) = false := by rfl) : PE X (.Call (.Name "int" p) [e] [] pos) (tD X.K P W (mUn intT m)) :=
  call1 cad_int he hs fun h => pe_callTy call_int1 hg T.int PyProof.Rows.boot_int h (by decide) (by decide) hs hpl
theorem dd_list (T : Nm X.mg) (he : PE X e (tD X.K P W m)) (hg : Gl X "list" := by rfl) (hs : starEach [e] X.env = (false, eval e X.env) :: starEach [] X.env := by rfl) (hpl : (backTo pos (starEach [] X.env)).any (·.1) = false := by rfl) : PE X (.Call (.Name "list" p) [e] [] pos) (tD X.K P W (mUn listT m)) :=
  call1 cad_list he hs fun h => pe_callTy call_list_of hg T.list PyProof.Rows.boot_list h (by decide) (by decide) hs hpl
theorem dd_tuple (T : Nm X.mg) (he : PE X e (tD X.K P W m)) (hg : Gl X "tuple" := by rfl) (hs : starEach [e] X.env = (false, eval e X.env) :: starEach [] X.env := by rfl) (hpl : (backTo pos (starEach [] X.env)).any (·.1) = false := by rfl) : PE X (.Call (.Name "tuple" p) [e] [] pos) (tD X.K P W (mUn tupleT m)) :=
  call1 cad_tuple he hs fun h => pe_callTy call_tuple_of hg T.tuple PyProof.Rows.boot_tuple h (by decide) (by decide) hs hpl
theorem dd_min (T : Nm X.mg) (hc : X.calm = true) (ha : PE X a (tD X.K P W ma)) (hb : PE X b (tD X.K P W mb)) (hg : Gl X "min" := by rfl) (hs : starEach [a, b] X.env = (false, eval a X.env) :: starEach [b] X.env := by rfl) (hs2 : starEach [b] X.env = (false, eval b X.env) :: starEach [] X.env := by rfl)
    (hpl : (backTo pos (starEach [b] X.env)).any (·.1) = false := by rfl) : PE X (.Call (.Name "min" p) [a, b] [] pos) (tD X.K P W (mOp min2T ma mb)) :=
  call2 cad_min2 ha hb hs hs2 fun h => pe_callB (call_min2 hc) hg T.min PyProof.Rows.boot_min h (by decide) (by decide) hs hpl
theorem dd_max (T : Nm X.mg) (hc : X.calm = true) (ha : PE X a (tD X.K P W ma)) (hb : PE X b (tD X.K P W mb)) (hg : Gl X "max" := by rfl) (hs : starEach [a, b] X.env = (false, eval a X.env) :: starEach [b] X.env := by rfl) (hs2 : starEach [b] X.env = (false, eval b X.env) :: starEach [] X.env := by rfl)
    (hpl : (backTo pos (starEach [b] X.env)).any (·.1) = false := by rfl) : PE X (.Call (.Name "max" p) [a, b] [] pos) (tD X.K P W (mOp max2T ma mb)) :=
  call2 cad_max2 ha hb hs hs2 fun h => pe_callB (call_max2 hc) hg T.max PyProof.Rows.boot_max h (by decide) (by decide) hs hpl
/-- isinstance(e, n), isinstance(e, (n1, n2)) of built-in types -/
theorem dd_is {n : Str} {n' : String} (T : Nm X.mg) (hn : n' ∈ isNs) (he : PE X e (tD X.K P W m)) (hm : X.mg n = none) (hb : bootBuiltins n = some (.type n')) (hgn : Gl X n := by rfl) (hg : Gl X "isinstance" := by rfl) (hnn : n ≠ "__name__" := by decide) (hdb : (n == ("__debug__" : Str)) = false := by decide)
    (hs : starEach [e, .Name n p2] X.env = (false, eval e X.env) :: starEach [.Name n p2] X.env := by rfl) (hs2 : starEach [.Name n p2] X.env = (false, eval (.Name n p2) X.env) :: starEach [] X.env := by rfl) (hpl : (backTo pos (starEach [.Name n p2] X.env)).any (·.1) = false := by rfl) :
    PE X (.Call (.Name "isinstance" p) [e, .Name n p2] [] pos) (tD X.K P W (mUn (isT n') m)) :=
  de_is hn he (pe_bltn hgn hm hb rfl hnn hdb) (fun h => pe_callB call_isi hg T.isinstance PyProof.Rows.boot_isinstance h (by decide) (by decide) hs hpl) (fun h1 h2 => pa_cons h1 (pa_cons h2 pa_nil hs2) hs)
theorem dd_is2 {n1 n2 : Str} {m1 m2 : String} (T : Nm X.mg) (hn1 : m1 ∈ isNs) (hn2 : m2 ∈ isNs) (he : PE X e (tD X.K P W m)) (hm1 : X.mg n1 = none) (hb1 : bootBuiltins n1 = some (.type m1)) (hm2 : X.mg n2 = none) (hb2 : bootBuiltins n2 = some (.type m2)) (hg1 : Gl X n1 := by rfl) (hg2 : Gl X n2 := by rfl) (hg : Gl X "isinstance" := by rfl)
    (hnn1 : n1 ≠ "__name__" := by decide) (hdb1 : (n1 == ("__debug__" : Str)) = false := by decide) (hnn2 : n2 ≠ "__name__" := by decide) (hdb2 : (n2 == ("__debug__" : Str)) = false := by decide) (ht : ∀ {t : TA}, PA X [.Name n1 p2, .Name n2 p3] t → PE X (.Tuple [.Name n1 p2, .Name n2 p3] k p4) (tTup t) := by exact fun h => pe_tup h)
    (hs : starEach [e, .Tuple [.Name n1 p2, .Name n2 p3] k p4] X.env = (false, eval e X.env) :: starEach [.Tuple [.Name n1 p2, .Name n2 p3] k p4] X.env := by rfl) (hs2 : starEach [.Tuple [.Name n1 p2, .Name n2 p3] k p4] X.env = (false, eval (.Tuple [.Name n1 p2, .Name n2 p3] k p4) X.env) :: starEach [] X.env := by rfl)
    (hs3 : starEach [.Name n1 p2, .Name n2 p3] X.env = (false, eval (.Name n1 p2) X.env) :: starEach [.Name n2 p3] X.env := by rfl) (hs4 : starEach [.Name n2 p3] X.env = (false, eval (.Name n2 p3) X.env) :: starEach [] X.env := by rfl) (hpl : (backTo pos (starEach [.Tuple [.Name n1 p2, .Name n2 p3] k p4] X.env)).any (·.1) = false := by rfl) :
    PE X (.Call (.Name "isinstance" p) [e, .Tuple [.Name n1 p2, .Name n2 p3] k p4] [] pos) (tD X.K P W (mUn (isTs [m1, m2]) m)) :=
  de_is2 hn1 hn2 he (pe_bltn hg1 hm1 hb1 rfl hnn1 hdb1) (pe_bltn hg2 hm2 hb2 rfl hnn2 hdb2) (fun h1 h2 => ht (pa_cons h1 (pa_cons h2 pa_nil hs4) hs3)) (fun h => pe_callB call_isiT hg T.isinstance PyProof.Rows.boot_isinstance h (by decide) (by decide) hs hpl) (fun h1 h2 => pa_cons h1 (pa_cons h2 pa_nil hs2) hs)
end
/-! own defs -/
structure Def (P : Program) (w : World) (K : PySem.W.Frag) (mg : Str → Option Value) (base : Heap) (x : Str) (lv n : Nat) (f : F) : Prop where
  ex : ∃ (fa : Addr) (fd : FuncData) (ps : List Str), FnOk P w K mg base (CX P w) lv fa fd ps (spV K n f) ∧ mg x = some (.ref fa) ∧ PySem.W.keepIn K (.ref fa) = true ∧ Binds K fd ps []
/-- exceptions may pass here -/
def Lets (X : Cx) (W : WX) : Prop := ∀ σ, PassesAt (L2.CX X.prog X.w) X σ (WE W σ)
theorem lets_of {X : Cx} {W : WX} (tk : Takes X W) : Lets X W := fun σ => passAt tk σ
theorem lets0 {X : Cx} : Lets X W0 := fun σ pins H s e s' I h => by
  obtain ⟨_, _, _, _, _, _, _, _, _, _, _, _, z⟩ := h
  exact z.elim
theorem ln_nil {e : Env} {ds : List T} {e1 : Env} (h : mNil e = .ok ds e1) : ds.length = 0 := by
  cases h
  rfl
theorem ln_cons {a : M T} {ml : M (List T)} {n : Nat} (h : ∀ {e : Env} {ds : List T} {e1 : Env}, ml e = .ok ds e1 → ds.length = n) {e : Env} {ds : List T} {e1 : Env} (q : mCons a ml e = .ok ds e1) : ds.length = n + 1 := by
  unfold mCons at q
  cases z : a e with
  | ok x e2 =>
    rw [z] at q
    have q2 : ((ml e2).bind fun xs e => R.ok (x :: xs) e) = .ok ds e1 := q
    cases z2 : ml e2 with
    | ok xs e3 =>
      rw [z2] at q2
      cases q2
      exact congrArg Nat.succ (h z2)
    | _ => rw [z2] at q2; cases q2
  | _ => rw [z] at q; cases q
section
variable {X : Cx} {P : List (Nat × Addr)} {W : WX} {e : Expr} {es : List Expr} {ml : M (List T)} {p pos : Pos}
theorem dd_fn {x : Str} {lv n : Nat} {f : F} (D : Def X.prog X.w X.K X.mg X.base x lv n f) (hr : Room lv X.A) (lt : Lets X W) (hn : ∀ {e : Env} {ds : List T} {e1 : Env}, ml e = .ok ds e1 → ds.length = n) (ha : PA X (e :: es) (tDA X.K P W ml)) (hg : Gl X x := by rfl) (hdb : (x == ("__debug__" : Str)) = false := by decide)
    (hs : starEach (e :: es) X.env = (false, eval e X.env) :: starEach es X.env := by rfl) (hpl : (backTo pos (starEach es X.env)).any (·.1) = false := by rfl) : PE X (.Call (.Name x p) (e :: es) [] pos) (tD X.K P W (mF f ml)) := by
  obtain ⟨fa, fd, ps, F1, g, kp, bd⟩ := D.ex
  exact de_fn (fun h => hn h) ha fun h => pe_callS F1 hr hg g kp bd lt h hdb hs hpl
/-- a constant int of the module -/
theorem dd_int_glob {x : Str} {i : Int} (h : ∃ t, X.mg x = some (.int i t)) (hg : Gl X x := by rfl) (hdb : (x == ("__debug__" : Str)) = false := by decide) : PE X (.Name x p) (tD X.K P W (mC (.int i))) := by
  obtain ⟨t, h⟩ := h
  exact de_glob (v := .int i) (pe_glob hg h (show RelV (.int i) (.int i t) from ⟨t, rfl⟩) hdb) fun H => .int i
end
end TD

end
section

/-! TD11: -x, dicts read, in -/
namespace TD
open PySem PySem.Spec PyProof.Rows L2 Evl
variable [HasT]
def negT : T → Option T
  | .int i => some (.int (-i))
  | _ => none
theorem opd_neg {K : PySem.W.Frag} : UnD K (rU fun i => .int (-i)) negT := fun S H x a Q w r h => by
  cases r with
  | int i => exact ⟨i, rfl, ret h rfl (.int _)⟩
  | _ => exact nopost h
/-! keys as data -/
def keyT : T → Option Key
  | .int i => some (.inl i)
  | .str x => some (.inr x)
  | _ => none
def keysL : List T → Option (List Key)
  | [] => some []
  | d :: ds => (keyT d).bind fun k => (keysL ds).map (k :: ·)
def keysT : T → Option (List Key)
  | .tuple xs => keysL xs
  | _ => none
theorem keyT_k (k : Key) : keyT (kD k) = some k := by cases k <;> rfl
theorem keysL_k : ∀ k : List Key, keysL (k.map kD) = some k
  | [] => rfl
  | k :: ks => by
    show (keyT (kD k)).bind _ = _
    rw [keyT_k, Option.bind_some, keysL_k ks]
    rfl
theorem keysT_k (k : List Key) : keysT (.tuple (k.map kD)) = some k := keysL_k k
theorem keyT_of {d : T} {k : Key} (h : keyT d = some k) : d = kD k := by
  cases d <;> first | (cases h; rfl) | cases h
theorem keysL_of : ∀ {ds : List T} {k : List Key}, keysL ds = some k → ds = k.map kD
  | [], _, h => by cases h; rfl
  | d :: ds, k, h => by
    have h' : ((keyT d).bind fun k => (keysL ds).map (k :: ·)) = some k := h
    cases q : keyT d with
    | none => rw [q] at h'; cases h'
    | some k1 =>
      rw [q, Option.bind_some] at h'
      cases q2 : keysL ds with
      | none => rw [q2] at h'; cases h'
      | some k2 =>
        rw [q2] at h'
        cases h'
        rw [keyT_of q, keysL_of q2]
        rfl
theorem keysT_of {d : T} {k : List Key} (h : keysT d = some k) : d = .tuple (k.map kD) := by
  cases d with
  | tuple xs => rw [keysL_of (ds := xs) h]
  | _ => cases h
section
variable {K : PySem.W.Frag} {H : Hp}
theorem rp_key {v : V} {k : Key} (r : Rp K H v (kD k)) : v = kV k := by
  cases k with
  | inl i => cases r; rfl
  | inr x => cases r; rfl
theorem rp_keys : ∀ {k : List Key} {vs : List V}, RpA K H vs (k.map kD) → vs = k.map kV
  | [], _, .nil => rfl
  | k :: ks, _, .cons r t => by rw [rp_key r, rp_keys t]; rfl
theorem rp_tup {v : V} {ds : List T} (r : Rp K H v (.tuple ds)) : ∃ b vs, v = .ref b ∧ H b = some (.tup vs) ∧ RpA K H vs ds := by
  cases r with
  | tup h r => exact ⟨_, _, rfl, h, r⟩
/-- what stands at a key, as values and as data -/
def OR (K : PySem.W.Frag) (H : Hp) : Option V → Option T → Prop
  | some v, some d => Rp K H v d
  | none, none => True
  | _, _ => False
def lookK (ps : List (T × T)) (k : Key) : Option T := (ps.find? fun p => decide (keyT p.1 = some k)).map (·.2)
def lookT (ps : List (T × T)) (k : List Key) : Option T := (ps.find? fun p => decide (keysT p.1 = some k)).map (·.2)
theorem val_k {k : Key} : ∀ {ks : List Key} {vs : List V} {ds : List T}, RpA K H vs ds → OR K H (valV (ks.zip vs) k) (lookK ((ks.map kD).zip ds) k)
  | [], _, _, _ => trivial
  | _ :: _, _, _, .nil => trivial
  | k1 :: ks, _, _, .cons (v := v) (vs := vs) (d := d) (ds := ds) r t => by
    by_cases e : k1 = k
    · rw [List.zip_cons_cons, valV_pos (show (k1, v).1 = k from e)]
      have q : lookK (((k1 :: ks).map kD).zip (d :: ds)) k = some d := by
        unfold lookK
        rw [List.map_cons, List.zip_cons_cons, List.find?_cons_of_pos (by rw [keyT_k, e]; exact decide_eq_true rfl)]
        rfl
      rw [q]
      exact r
    · rw [List.zip_cons_cons, valV_neg (show ¬ (k1, v).1 = k from e)]
      have q : lookK (((k1 :: ks).map kD).zip (d :: ds)) k = lookK ((ks.map kD).zip ds) k := by
        unfold lookK
        rw [List.map_cons, List.zip_cons_cons, List.find?_cons_of_neg (by
          rw [keyT_k, decide_eq_true_eq]
          exact fun z => e (Option.some.inj z))]
      rw [q]
      exact val_k t
theorem val_t {k : List Key} : ∀ {ks : List (List Key)} {vs : List V} {ds : List T}, RpA K H vs ds → OR K H (valV (ks.zip vs) k) (lookT ((ks.map fun k => T.tuple (k.map kD)).zip ds) k)
  | [], _, _, _ => trivial
  | _ :: _, _, _, .nil => trivial
  | k1 :: ks, _, _, .cons (v := v) (vs := vs) (d := d) (ds := ds) r t => by
    by_cases e : k1 = k
    · rw [List.zip_cons_cons, valV_pos (show (k1, v).1 = k from e)]
      have q : lookT (((k1 :: ks).map fun k => T.tuple (k.map kD)).zip (d :: ds)) k = some d := by
        unfold lookT
        rw [List.map_cons, List.zip_cons_cons, List.find?_cons_of_pos (by rw [keysT_k, e]; exact decide_eq_true rfl)]
        rfl
      rw [q]
      exact r
    · rw [List.zip_cons_cons, valV_neg (show ¬ (k1, v).1 = k from e)]
      have q : lookT (((k1 :: ks).map fun k => T.tuple (k.map kD)).zip (d :: ds)) k = lookT ((ks.map fun k => T.tuple (k.map kD)).zip ds) k := by
        unfold lookT
        rw [List.map_cons, List.zip_cons_cons, List.find?_cons_of_neg (by
          rw [keysT_k, decide_eq_true_eq]
          exact fun z => e (Option.some.inj z))]
      rw [q]
      exact val_t t
/-- no key is a tuple; there are keys, and they are tuples -/
def flatKs : List (T × T) → Bool
  | (.tuple _, _) :: _ => false
  | _ => true
def lookD (ps : List (T × T)) (d : T) : Option (Option T) := match keyT d with
  | some k => if flatKs ps = true then some (lookK ps k) else none
  | none => match keysT d with
    | some k => if flatKs ps = true then none else some (lookT ps k)
    | none => none
theorem flat_k : ∀ (ks : List Key) (ds : List T), flatKs ((ks.map kD).zip ds) = true
  | [], _ => rfl
  | _ :: _, [] => rfl
  | .inl _ :: _, _ :: _ => rfl
  | .inr _ :: _, _ :: _ => rfl
theorem flat_t : ∀ {ks : List (List Key)} {vs : List V} {ds : List T}, ks ≠ [] → ks.length = vs.length → RpA K H vs ds → flatKs ((ks.map fun k => T.tuple (k.map kD)).zip ds) = false
  | [], _, _, n, _, _ => absurd rfl n
  | _ :: _, _, _, _, l, .nil => by cases l
  | _ :: _, _, _, _, _, .cons _ _ => rfl
/-- a dict that is a value, read at a key that is a value -/
theorem dget {S : List Addr} {x y : V} {ps : List (T × T)} {d : T} {o : Option T} (rx : Rp K (hide S H) x (.dict ps)) (ry : Rp K (hide S H) y d) (h : lookD ps d = some o) : ∃ a v, x = .ref a ∧ DGet H a y v ∧ OR K (hide S H) v o := by
  unfold lookD at h
  cases q : keyT d with
  | some k =>
    rw [q] at h
    rw [keyT_of q] at ry
    have ey := rp_key ry
    cases rx with
    | @dK a ob ks vs ds hd l r =>
      have h2 : (if flatKs ((ks.map kD).zip ds) = true then some (lookK ((ks.map kD).zip ds) k) else none) = some o := h
      rw [if_pos (flat_k ks ds)] at h2
      cases h2
      exact ⟨a, _, rfl, .inl ⟨ks.zip vs, k, .inr ⟨ob, hide_ex _ _ _ _ hd⟩, ey, rfl⟩, val_k r⟩
    | @dT a ob ks vs ds n hd l r =>
      have h2 : (if flatKs ((ks.map fun k => T.tuple (k.map kD)).zip ds) = true then some (lookK ((ks.map fun k => T.tuple (k.map kD)).zip ds) k) else none) = some o := h
      rw [if_neg (by rw [flat_t n l r]; decide)] at h2
      cases h2
  | none =>
    rw [q] at h
    cases q2 : keysT d with
    | none => rw [q2] at h; cases h
    | some k =>
      rw [q2] at h
      rw [keysT_of q2] at ry
      obtain ⟨b, ws, rfl, hb, rb⟩ := rp_tup ry
      rw [rp_keys rb] at hb
      cases rx with
      | @dK a ob ks vs ds hd l r =>
        have h2 : (if flatKs ((ks.map kD).zip ds) = true then none else some (lookT ((ks.map kD).zip ds) k)) = some o := h
        rw [if_pos (flat_k ks ds)] at h2
        cases h2
      | @dT a ob ks vs ds n hd l r =>
        have h2 : (if flatKs ((ks.map fun k => T.tuple (k.map kD)).zip ds) = true then none else some (lookT ((ks.map fun k => T.tuple (k.map kD)).zip ds) k)) = some o := h
        rw [if_neg (by rw [flat_t n l r]; decide)] at h2
        cases h2
        exact ⟨a, _, rfl, .inr ⟨ks.zip vs, k, b, .inr ⟨ob, hide_ex _ _ _ _ hd⟩, rfl, hide_ex _ _ _ _ hb, rfl⟩, val_t r⟩
end
/-! in, d[k] -/
abbrev rInK (neg : Bool) : R2 := fun x y H Q => ∃ a o, y = .ref a ∧ DGet H a x o ∧ Q (.bl (neg ^^ o.isSome)) H
theorem op_inK {X : Cx} (hu : X.A.units + 1 < cLine) : OpR X (compareOp .In) (rInK false) := by
  intro pins s σ H x y v u Q I rx ry ⟨a, o, ey, g, q⟩
  subst ey
  obtain rfl : u = Value.ref a := ry
  exact d_in hu I g rx fun s' I' => ⟨.bl o.isSome, H, I', rfl, by rw [Bool.false_xor] at q; exact q⟩
theorem op_notInK {X : Cx} (hu : X.A.units + 1 < cLine) : OpR X (compareOp .NotIn) (rInK true) := by
  intro pins s σ H x y v u Q I rx ry ⟨a, o, ey, g, q⟩
  subst ey
  obtain rfl : u = Value.ref a := ry
  exact d_notIn hu I g rx fun s' I' => ⟨.bl (!o.isSome), H, I', rfl, by rw [Bool.true_xor] at q; exact q⟩
abbrev rInA (K : PySem.W.Frag) : R2 := fun x y H Q => rInK false x y H Q ∨ rInD K x y H Q
abbrev rNotInA (K : PySem.W.Frag) : R2 := fun x y H Q => rInK true x y H Q ∨ rNotInD K x y H Q
theorem op_inA {X : Cx} (hu : X.A.units + 65 < cLine) : OpR X (compareOp .In) (rInA X.K) := (op_inK (Nat.lt_of_le_of_lt (Nat.add_le_add_left (by decide) _) hu)).or (op_inD hu)
theorem op_notInA {X : Cx} (hu : X.A.units + 65 < cLine) : OpR X (compareOp .NotIn) (rNotInA X.K) := (op_notInK (Nat.lt_of_le_of_lt (Nat.add_le_add_left (by decide) _) hu)).or (op_notInD hu)
def hasT (neg : Bool) : T → T → Option T
  | d, .list ds => if (shp d && shp (.list ds)) = true then some (.bool (neg ^^ ds.any fun z => eqP z d)) else none
  | d, .dict ps => (lookD ps d).map fun o => .bool (neg ^^ o.isSome)
  | _, _ => none
theorem or_some {K : PySem.W.Frag} {H : Hp} {v : Option V} {o : Option T} (h : OR K H v o) : v.isSome = o.isSome := by
  cases v <;> cases o <;> first | rfl | exact h.elim
theorem has_k {K : PySem.W.Frag} {S : List Addr} {H : Hp} {x y : V} {a : T} {ps : List (T × T)} {Q : VK} {neg : Bool} (rx : Rp K (hide S H) x a) (ry : Rp K (hide S H) y (.dict ps)) (h : PostO K S Q H (hasT neg a (.dict ps))) : rInK neg x y H Q := by
  have h' : PostO K S Q H ((lookD ps a).map fun o => .bool (neg ^^ o.isSome)) := h
  obtain ⟨o, e, p⟩ := map_some (Q := PostO K S Q H) h' nopost'
  obtain ⟨b, v, ey, g, r⟩ := dget ry rx e
  exact ⟨b, v, ey, g, by rw [or_some r]; exact ret p rfl (.bl _)⟩
theorem opd_in {K : PySem.W.Frag} : OpD K (rInA K) (hasT false) := by
  intro S H x y a b Q w rx ry h
  cases b with
  | list ds =>
    by_cases hz : (shp a && shp (.list ds)) = true
    · have hz' := hz
      rw [Bool.and_eq_true] at hz
      have ed : toP (.list ds) = .list (ds.map toP) := by rw [← toPs_map]; simp [toP]
      have h2 := lay_of hz.2
      have h3 : SeqAt.shaped (toP (.list ds)) = true := hz.2
      have ry' := toDp (ry.mono (hide_ex S H)) h2
      rw [ed] at h3 ry'
      exact .inr ⟨toP a, ds.map toP, toDp (rx.mono (hide_ex S H)) (lay_of hz.1), ry', hz.1, h3, ret h ((if_pos hz').trans (by rw [Bool.false_xor, List.any_map]; rfl)) (.bl _)⟩
    · have h' : PostO K S Q H (if (shp a && shp (.list ds)) = true then some (.bool (false ^^ ds.any fun z => eqP z a)) else none) := h
      rw [if_neg hz] at h'
      exact nopost h'
  | dict ps => exact .inl (has_k rx ry h)
  | _ => exact nopost h
theorem opd_notIn {K : PySem.W.Frag} : OpD K (rNotInA K) (hasT true) := by
  intro S H x y a b Q w rx ry h
  cases b with
  | list ds =>
    by_cases hz : (shp a && shp (.list ds)) = true
    · have hz' := hz
      rw [Bool.and_eq_true] at hz
      have ed : toP (.list ds) = .list (ds.map toP) := by rw [← toPs_map]; simp [toP]
      have h2 := lay_of hz.2
      have h3 : SeqAt.shaped (toP (.list ds)) = true := hz.2
      have ry' := toDp (ry.mono (hide_ex S H)) h2
      rw [ed] at h3 ry'
      exact .inr ⟨toP a, ds.map toP, toDp (rx.mono (hide_ex S H)) (lay_of hz.1), ry', hz.1, h3, ret h ((if_pos hz').trans (by rw [Bool.true_xor, List.any_map]; rfl)) (.bl _)⟩
    · have h' : PostO K S Q H (if (shp a && shp (.list ds)) = true then some (.bool (true ^^ ds.any fun z => eqP z a)) else none) := h
      rw [if_neg hz] at h'
      exact nopost h'
  | dict ps => exact .inl (has_k rx ry h)
  | _ => exact nopost h
abbrev rIxK : R2 := fun x y H Q => ∃ a v, x = .ref a ∧ DGet H a y (some v) ∧ Q v H
theorem ix_dict {X : Cx} (hu : X.A.units + 1 < cLine) : IxR X rIxK := by
  intro ve sl pins s σ H x y v u Q I rx ry ⟨a, z, ex, g, q⟩ hs
  subst ex
  obtain rfl : v = Value.ref a := rx
  have hT : s.TypeIs (.ref a) "dict" := dict_typeIs I g
  have fin := wpAny_operating (vs := [Value.ref a, u]) (d_getItem (E := X.xe) hu I g ry fun w' s' I' rw' => (⟨z, H, I', rw', q⟩ : EP X pins σ Q w' s'))
  unfold subscriptTail
  rw [getitemInPython_of_ne hT.not_modules]
  rw [← hs] at fin
  refine wpAny_bind (wpAny_bind (wpAny_specialOf hT PySem.F.slot_dict_getitem.lookup ?_))
  have fin2 : wpAny (model X.prog X.w) X.A (subscripted sl false (.ref a) u) (fun r t => wpAny (model X.prog X.w) X.A (letTemporaryGo ve (.ref a) r >>= fun _ => pure r) (EP X pins σ Q) X.xe t) X.xe s :=
    wpAny_mono fin (fun r t ht => wpAny_bind (wpAny_letTemporaryGo (wpAny_pure ht))) fun _ _ h => h
  first
    | exact wpAny_pure (wpAny_bind fin2)
    | exact wpAny_bind (wpAny_pure (wpAny_bind fin2))
    | exact wpAny_bind fin2
abbrev rIxA (K : PySem.W.Frag) : R2 := fun x y H Q => rIxLT K x y H Q ∨ rIxK x y H Q
theorem ix_all {X : Cx} (hu : X.A.units + 1 < cLine) : IxR X (rIxA X.K) := ix_LT.or (ix_dict hu)
def itT : T → T → Option T
  | .dict ps, d => (lookD ps d).bind id
  | a, b => ixT a b
theorem opd_it {K : PySem.W.Frag} : OpD K (rIxA K) itT := by
  intro S H x y a b Q w rx ry h
  cases a with
  | dict ps =>
    have h' : PostO K S Q H ((lookD ps b).bind id) := h
    cases q : lookD ps b with
    | none => rw [q] at h'; exact nopost h'
    | some o =>
      rw [q, Option.bind_some] at h'
      cases o with
      | none => exact nopost h'
      | some d =>
        obtain ⟨a, v, ex, g, r⟩ := dget rx ry q
        cases v with
        | none => exact r.elim
        | some v => exact .inr ⟨a, v, ex, g, ret h' rfl r⟩
  | _ => exact .inl (opd_ix S H x y _ b Q w rx ry h)
end TD

end
section

/-! TD12: comprehensions that are set; of two clauses; slices -/
namespace TD
open PySem PySem.Spec PyProof.Rows L2 Evl
variable [HasT]
section
variable {X : Cx} {P : List (Nat × Addr)} {W : WX} {elt tg iter : Expr} {ifs : List Expr} {scope : Scope} {own : List (Str × Nat)} {pos spos : Pos} {mi : M (List T)} {g : TG} {t : T → Env → Option Env} {c : M Bool} {m : M T} {ws : List Nat}
theorem d_setLc {i : Nat} {y : Str} {py : Pos} {vs : List Nat} (hc : X.calm = true) (hN : X.N.Nodup) (hy : X.N[i]? = some y) (hyl : X.env.scope.names.lookup y = some .local) (hpi : ∀ q ∈ P, q.1 ≠ i)
    (hsw : swapsWith (.ListComp elt [⟨tg, iter, ifs, 0⟩] scope pos) (some (.Name y py)) spos.line X.env = pure true) (hi : PI X tg iter (tI X.K P W mi)) (ok : BlkOk X.N X.env.scope scope own)
    (hg : ∀ (s : Shared) (H : Hp) (C : Addr) (cl : List (Str × Addr)) (fp : List Addr), PG (X.blk s H scope (compEnvC scope cl C X.env) fp) tg g) (ht : TgD X.K P ws g t) (hw : ∀ j ∈ ws, j ∈ vs) (hp : ∀ q ∈ P, q.1 ∉ vs)
    (htt : ∀ (s : Shared) (H : Hp) (C : Addr) (cl : List (Str × Addr)) (fp : List Addr), PTs (X.blk s H scope (compEnvC scope cl C X.env) fp) ifs (tDT X.K P W0 c))
    (he : ∀ (s : Shared) (H : Hp) (C : Addr) (cl : List (Str × Addr)) (fp : List Addr), PE (X.blk s H scope (compEnvC scope cl C X.env) fp) elt (tD X.K P W0 m)) (hvs : own.map (·.2) = vs := by rfl) (hs : ∀ x, foldedSetIterable iter X.env x = pure x := by intro _; rfl) :
    PS X (.Assign [.Name y py] (.ListComp elt [⟨tg, iter, ifs, 0⟩] scope pos) spos) (tS X.K P W (sAsg i (mLc mi t c m vs))) := by
  subst hvs
  exact d_setW (ps_setLc hc hN hy hyl hsw hi ok hg htt he hs) (fun σ H Q h => lc_ ht hw hp h) hpi
end
/-! two clauses -/
def lc2L (t : T → Env → Option Env) (c : M Bool) (mi1 : M (List T)) (t1 : T → Env → Option Env) (c1 : M Bool) (m : M T) (vs vs1 : List Nat) : List T → M (List T)
  | [], e => .ok [] e
  | x :: xs, e => match t x e with
    | none => .bad
    | some e1 => (noX (c e1)).bind fun k e2 => if k = true then (noX (mi1 e2)).bind fun ds e3 => if clearE e3 vs1 = true then (noX (lcL t1 c1 m vs1 ds (wipeE e3 vs1))).bind fun ys e4 =>
        if clearE e4 vs = true then (lc2L t c mi1 t1 c1 m vs vs1 xs (wipeE e4 vs)).bind fun zs e5 => .ok (ys ++ zs) e5 else .bad else .bad
      else if clearE e2 vs = true then lc2L t c mi1 t1 c1 m vs vs1 xs (wipeE e2 vs) else .bad
def mLc2 (mi : M (List T)) (t : T → Env → Option Env) (c : M Bool) (mi1 : M (List T)) (t1 : T → Env → Option Env) (c1 : M Bool) (m : M T) (vs vs1 : List Nat) : M T := fun e => (mi e).bind fun ds e1 =>
  if clearE e1 vs = true then (noX (lc2L t c mi1 t1 c1 m vs vs1 ds (wipeE e1 vs))).bind fun ys e2 => if ys.length ≤ 100000 then .ok (.list ys) (backE e1 e2 vs) else .bad else .bad
section
variable {X : Cx} {P : List (Nat × Addr)} {W : WX} {elt tg iter tg1 iter1 : Expr} {ifs ifs1 : List Expr} {scope : Scope} {own : List (Str × Nat)} {pos spos : Pos} {mi mi1 : M (List T)} {g g1 : TG} {t t1 : T → Env → Option Env} {c c1 : M Bool} {m : M T} {ws ws1 : List Nat}
theorem wipe_wipe_sub {σ : Sg} {vs vs1 : List Nat} (h : ∀ i ∈ vs1, i ∈ vs) : wipe (wipe σ vs1) vs = wipe σ vs := by
  apply List.ext_getElem?
  intro j
  rw [wipe_get, wipe_get, wipe_get]
  by_cases q : j ∈ vs
  · rw [if_pos q, if_pos q]
    by_cases q1 : j ∈ vs1
    · rw [if_pos q1]
      cases σ[j]? <;> rfl
    · rw [if_neg q1]
  · rw [if_neg q, if_neg q, if_neg fun z => q (h j z)]
/-- the turns of the outer loop -/
theorem lc2Loop {K : PySem.W.Frag} {vs vs1 : List Nat} (ht : TgD K P ws g t) (hw : ∀ j ∈ ws, j ∈ vs) (ht1 : TgD K P ws1 g1 t1) (hw1 : ∀ j ∈ ws1, j ∈ vs1) (hv : ∀ j ∈ vs1, j ∈ vs) (hp : ∀ q ∈ P, q.1 ∉ vs) {σ : Sg} {G : List Addr} {D : Addr} {ds : List T} {J : It} {H1 : Hp} {e1 ef : Env} {ys : List T}
    (s0 : SD K P (D :: G) (wipe σ vs) H1 e1) (c0 : clearE e1 vs = true) (hD : H1 D = some (.lst [])) (hok : lc2L t c mi1 t1 c1 m vs vs1 ds e1 = .ok ys ef) (hlen : ys.length ≤ 100000) (wk : Wk K (D :: G) (wipe σ vs) H1 e1 ds J)
    {Qd : Hp → Prop} (hQ : ∀ H' acc', SD K P (D :: G) (wipe σ vs) H' ef → clearE ef vs = true → Ex (hide (D :: (G ++ owns e1 (wipe σ vs))) H1) (hide (D :: (G ++ owns ef (wipe σ vs))) H') → (∀ a ∈ G, ∀ o, NoT o → H1 a = some o → H' a = some o) → H' D = some (.lst acc') →
      RpA K (hide (D :: (G ++ owns ef (wipe σ vs))) H') acc' ys → Qd H') :
    ∃ W : Nat → Nat → Hp → Prop, (∃ k, W 0 k H1) ∧ ∀ i k H, W i k H → (J.stop i H ∧ Qd H) ∨ (J.go i H ∧ ∃ Nx : Hp → Prop, (∀ H', Nx H' → ∃ k', k' < k ∧ W (i + 1) k' H') ∧ ∀ x H', J.yld i H x H' → g x (wipe σ vs) H' fun σ2 H2 => wipe σ2 vs = wipe σ vs ∧ tDT K P W0 c σ2 H2 fun b H3 =>
      if b = true then tI K P W0 mi1 σ2 H3 fun J1 H4 => ∃ W1 : Nat → Nat → Hp → Prop, (∃ m, W1 0 m H4) ∧ ∀ j k H, W1 j k H →
        (J1.stop j H ∧ Nx H) ∨ (J1.go j H ∧ ∃ Nx1 : Hp → Prop, (∀ H', Nx1 H' → ∃ k', k' < k ∧ W1 (j + 1) k' H') ∧ ∀ x H', J1.yld j H x H' → g1 x (wipe σ2 vs1) H' fun σ3 H5 => wipe σ3 vs1 = wipe σ2 vs1 ∧ tDT K P W0 c1 σ3 H5 fun b H6 =>
          if b = true then tD K P W0 m σ3 H6 fun y H7 => ∃ acc, H7 D = some (.lst acc) ∧ acc.length < sizeLine ∧ Nx1 (upd H7 D (.lst (acc ++ [y]))) else Nx1 H6)
      else Nx H3) := by
  refine ⟨fun i k H' => k = ds.length - i ∧ i ≤ ds.length ∧ ∃ e' acc dacc zs, SD K P (D :: G) (wipe σ vs) H' e' ∧ Ex (hide (D :: (G ++ owns e1 (wipe σ vs))) H1) (hide (D :: (G ++ owns e' (wipe σ vs))) H') ∧ (∀ a ∈ G, ∀ o, NoT o → H1 a = some o → H' a = some o) ∧ clearE e' vs = true ∧
    H' D = some (.lst acc) ∧ RpA K (hide (D :: (G ++ owns e' (wipe σ vs))) H') acc dacc ∧ lc2L t c mi1 t1 c1 m vs vs1 (ds.drop i) e' = .ok zs ef ∧ dacc ++ zs = ys, ⟨ds.length, rfl, Nat.zero_le _, e1, [], [], ys, s0, Ex.refl _, fun _ _ _ _ h => h, c0, hD, .nil, hok, rfl⟩, ?_⟩
  rintro i k H' ⟨rfl, hi, e', acc, dacc, zs, s', x', g', c', hDl, ra, heq, hsum⟩
  obtain ⟨wg, wst⟩ := wk i _ H' x' s'.wl
  have hal : dacc.length + zs.length ≤ 100000 := by
    have h1 := congrArg List.length hsum
    rw [List.length_append] at h1
    omega
  by_cases hlt : i < ds.length
  · have hd : ds.drop i = ds[i] :: ds.drop (i + 1) := List.drop_eq_getElem_cons hlt
    rw [hd] at heq
    obtain ⟨go, step⟩ := wg ds[i] (List.getElem?_eq_getElem hlt)
    refine .inr ⟨go, fun H2 => i + 1 ≤ ds.length ∧ ∃ e' acc dacc zs, SD K P (D :: G) (wipe σ vs) H2 e' ∧ Ex (hide (D :: (G ++ owns e1 (wipe σ vs))) H1) (hide (D :: (G ++ owns e' (wipe σ vs))) H2) ∧ (∀ a ∈ G, ∀ o, NoT o → H1 a = some o → H2 a = some o) ∧ clearE e' vs = true ∧
      H2 D = some (.lst acc) ∧ RpA K (hide (D :: (G ++ owns e' (wipe σ vs))) H2) acc dacc ∧ lc2L t c mi1 t1 c1 m vs vs1 (ds.drop (i + 1)) e' = .ok zs ef ∧ dacc ++ zs = ys, fun H2 ⟨h1, h2⟩ => ⟨ds.length - (i + 1), by omega, rfl, h1, h2⟩, fun x H2 y => ?_⟩
    obtain ⟨ex2, rx⟩ := step x H2 y
    have s2 := s'.ex ex2
    have xx2 : Ex (hide (D :: (G ++ owns e' (wipe σ vs))) H') (hide (D :: (G ++ owns e' (wipe σ vs))) H2) := hide_mono ex2
    cases q : t ds[i] e' with
    | none =>
      have z : lc2L t c mi1 t1 c1 m vs vs1 (ds[i] :: ds.drop (i + 1)) e' = .bad := by
        show (match t ds[i] e' with | none => R.bad | some e1 => _) = _
        rw [q]
      rw [z] at heq
      cases heq
    | some e2 =>
      refine ht (D :: G) (wipe σ vs) H2 e' e2 x ds[i] _ s2 rx q fun σ3 s3 x3 hout hlen3 => ?_
      have hwp : wipe σ3 vs = wipe σ vs := (wipe_eq (fun j hj => hout j fun z => hj (hw j z)) hlen3).trans wipe_wipe
      refine ⟨hwp, D :: G, e2, s3, ?_⟩
      have hl : lc2L t c mi1 t1 c1 m vs vs1 (ds[i] :: ds.drop (i + 1)) e' = (noX (c e2)).bind fun k e2 => if k = true then (noX (mi1 e2)).bind fun dd e3 => if clearE e3 vs1 = true then (noX (lcL t1 c1 m vs1 dd (wipeE e3 vs1))).bind fun ys e4 =>
          if clearE e4 vs = true then (lc2L t c mi1 t1 c1 m vs vs1 (ds.drop (i + 1)) (wipeE e4 vs)).bind fun zs e5 => .ok (ys ++ zs) e5 else .bad else .bad
          else if clearE e2 vs = true then lc2L t c mi1 t1 c1 m vs vs1 (ds.drop (i + 1)) (wipeE e2 vs) else .bad := by
        show (match t ds[i] e' with | none => R.bad | some e1 => _) = _
        rw [q]
      rw [hl] at heq
      obtain ⟨b, e3, qc, heq⟩ := bind_ok heq
      rw [noX_some qc]
      intro H3 r3 s3'
      have xx3 : Ex (hide (D :: (G ++ owns e' (wipe σ vs))) H') (hide (D :: (G ++ owns e3 σ3)) H3) := (xx2.trans x3.st).trans r3.st
      have gD3 : H3 D = some (.lst acc) := r3.gs D List.mem_cons_self _ plain_lst.1 (ex2 _ _ hDl)
      have gG3 : ∀ a ∈ G, ∀ o, NoT o → H1 a = some o → H3 a = some o := fun a ha o no ho => r3.gs a (List.mem_cons_of_mem _ ha) o no (ex2 _ _ (g' a ha o no ho))
      cases b with
      | false =>
        refine iteF ⟨hlt, wipeE e3 vs, acc, dacc, zs, ?_⟩
        rw [if_neg (by decide)] at heq
        by_cases hc3 : clearE e3 vs = true
        · rw [if_pos hc3] at heq
          have ow := owns_wipe (σ := σ3) s3'.sa.length hc3
          have sw := s3'.wipe hc3 hp
          rw [hwp] at ow sw
          refine ⟨sw, ?_, gG3, clear_wipe, gD3, ?_, heq, hsum⟩
          · rw [ow]
            exact x'.trans xx3
          · rw [ow]
            exact ra.mono xx3
        · rw [if_neg hc3] at heq
          cases heq
      | true =>
        refine iteT ⟨D :: G, e3, s3', ?_⟩
        rw [if_pos rfl] at heq
        obtain ⟨dd, e4, qi, heq⟩ := bind_ok heq
        rw [noX_some qi]
        intro H4 r4 s4 J1 wk1
        have gD4 : H4 D = some (.lst acc) := r4.gs D List.mem_cons_self _ plain_lst.1 gD3
        by_cases hc4 : clearE e4 vs1 = true
        · rw [if_pos hc4] at heq
          obtain ⟨yv, e5, qy, heq⟩ := bind_ok heq
          by_cases hc5 : clearE e5 vs = true
          · rw [if_pos hc5] at heq
            obtain ⟨zs', e6, hz6, hz⟩ := bind_ok heq
            have ez := hz
            cases ez
            have ow4 := owns_wipe (σ := σ3) s4.sa.length hc4
            have sw4 := s4.wipe hc4 fun q hq z => hp q hq (hv _ z)
            have ra4 : RpA K (hide (D :: (G ++ owns (wipeE e4 vs1) (wipe σ3 vs1))) H4) acc dacc := by
              rw [ow4]
              exact ra.mono (xx3.trans r4.st)
            have wk1' : Wk K (D :: G) (wipe σ3 vs1) H4 (wipeE e4 vs1) dd J1 := wk1.to (by
              show Ex (hide (D :: (G ++ owns e4 σ3)) H4) (hide (D :: (G ++ owns (wipeE e4 vs1) (wipe σ3 vs1))) H4)
              rw [ow4]
              exact Ex.refl _)
            have hz2 : dacc.length + (yv.length + zs'.length) ≤ 100000 := by rw [← List.length_append]; exact hal
            refine lcLoop ht1 hw1 (fun q hq z => hp q hq (hv _ z)) sw4 clear_wipe gD4 ra4 (noX_some qy) (by omega) wk1' fun H5 acc' s5 c5 x5 g5 hD5 ra5 => ⟨hlt, wipeE e5 vs, acc', dacc ++ yv, zs', ?_⟩
            have ow5 := owns_wipe (σ := wipe σ3 vs1) s5.sa.length hc5
            have sw5 := s5.wipe hc5 hp
            rw [wipe_wipe_sub hv, hwp] at ow5 sw5
            refine ⟨sw5, ?_, fun a ha o no ho => g5 a ha o no (r4.gs a (List.mem_cons_of_mem _ ha) o no (gG3 a ha o no ho)), clear_wipe, hD5, ?_, hz6, ?_⟩
            · rw [ow5]
              rw [ow4] at x5
              exact ((x'.trans xx3).trans r4.st).trans x5
            · rw [ow5]
              exact ra5
            · rw [List.append_assoc]
              exact hsum
          · rw [if_neg hc5] at heq
            cases heq
        · rw [if_neg hc4] at heq
          cases heq
  · have e : i = ds.length := by omega
    subst e
    rw [List.drop_length] at heq
    cases heq
    rw [List.append_nil] at hsum
    rw [hsum] at ra
    exact .inl ⟨wst (Nat.le_refl _) (Nat.le_refl _), hQ H' acc s' c' x' g' hDl ra⟩
theorem lc2_ {K : PySem.W.Frag} {vs vs1 : List Nat} (ht : TgD K P ws g t) (hw : ∀ j ∈ ws, j ∈ vs) (ht1 : TgD K P ws1 g1 t1) (hw1 : ∀ j ∈ ws1, j ∈ vs1) (hv : ∀ j ∈ vs1, j ∈ vs) (hp : ∀ q ∈ P, q.1 ∉ vs) {σ : Sg} {H : Hp} {Q : VK} (h : tD K P W (mLc2 mi t c mi1 t1 c1 m vs vs1) σ H Q) :
    tLc2 (tI K P W mi) g (tDT K P W0 c) (tI K P W0 mi1) g1 (tDT K P W0 c1) (tD K P W0 m) vs vs1 σ H Q := by
  obtain ⟨G, en, s, p⟩ := h
  refine ⟨G, en, s, stepG p fun ds e1 H1 x1 s1 p1 J wk D hD => ?_⟩
  by_cases hk : clearE e1 vs = true
  · rw [if_pos hk] at p1
    cases qb : lc2L t c mi1 t1 c1 m vs vs1 ds (wipeE e1 vs) with
    | ex _ _ _ => rw [qb] at p1; exact p1.elim
    | bad => rw [qb] at p1; exact p1.elim
    | ok ys ef =>
      rw [qb] at p1
      have p2 : Ps K P W (AV K Q G σ) G σ H1 e1 (if ys.length ≤ 100000 then .ok (.list ys) (backE e1 ef vs) else .bad) := p1
      by_cases hz : ys.length ≤ 100000
      · rw [if_pos hz] at p2
        obtain ⟨sg, xg, gg⟩ := lcStart (vs := vs) hp s1 hk hD
        exact lc2Loop ht hw ht1 hw1 hv hp sg clear_wipe upd_same qb hz (wk.to xg) fun H' acc s' c' x' g' hDl ra =>
          lcEnd hp s1 hk s' c' (xg.trans x') (fun a ha o no ho => g' a ha o no (gg a ha o no ho)) hDl ra p2
      · rw [if_neg hz] at p2
        exact p2.elim
  · rw [if_neg hk] at p1
    exact p1.elim
theorem de_lc2 {vs vs1 : List Nat} (hc : X.calm = true) (hN : X.N.Nodup) (hi : PI X tg iter (tI X.K P W mi)) (ok : BlkOk X.N X.env.scope scope own) (hv : ∀ i ∈ vs1, i ∈ own.map (·.2))
    (hg : ∀ (s : Shared) (H : Hp) (C : Addr) (cl : List (Str × Addr)) (fp : List Addr), PG (X.blk s H scope (compEnvC scope cl C X.env) fp) tg g) (ht : TgD X.K P ws g t) (hw : ∀ j ∈ ws, j ∈ own.map (·.2)) (hp : ∀ q ∈ P, q.1 ∉ own.map (·.2))
    (htt : ∀ (s : Shared) (H : Hp) (C : Addr) (cl : List (Str × Addr)) (fp : List Addr), PTs (X.blk s H scope (compEnvC scope cl C X.env) fp) ifs (tDT X.K P W0 c))
    (hi1 : ∀ (s : Shared) (H : Hp) (C : Addr) (cl : List (Str × Addr)) (fp : List Addr), PI (X.blk s H scope (compEnvC scope cl C X.env) fp) tg1 iter1 (tI X.K P W0 mi1))
    (hg1 : ∀ (s : Shared) (H : Hp) (C : Addr) (cl : List (Str × Addr)) (fp : List Addr), PG (X.blk s H scope (compEnvC scope cl C X.env) fp) tg1 g1) (ht1 : TgD X.K P ws1 g1 t1) (hw1 : ∀ j ∈ ws1, j ∈ vs1)
    (htt1 : ∀ (s : Shared) (H : Hp) (C : Addr) (cl : List (Str × Addr)) (fp : List Addr), PTs (X.blk s H scope (compEnvC scope cl C X.env) fp) ifs1 (tDT X.K P W0 c1))
    (he : ∀ (s : Shared) (H : Hp) (C : Addr) (cl : List (Str × Addr)) (fp : List Addr), PE (X.blk s H scope (compEnvC scope cl C X.env) fp) elt (tD X.K P W0 m)) (hvs : own.map (·.2) = vs := by rfl) (hs : ∀ x, foldedSetIterable iter X.env x = pure x := by intro _; rfl) (hs1 : ∀ env x, foldedSetIterable iter1 env x = pure x := by intro _ _; rfl) :
    PE X (.ListComp elt [⟨tg, iter, ifs, 0⟩, ⟨tg1, iter1, ifs1, 0⟩] scope pos) (tD X.K P W (mLc2 mi t c mi1 t1 c1 m vs vs1)) := by
  subst hvs
  exact (pe_lc2 hc hN hi ok hv hg htt hi1 hg1 htt1 he hs hs1).weak fun σ H Q h => lc2_ ht hw ht1 hw1 hv hp h
theorem d_setLc2 {i : Nat} {y : Str} {py : Pos} {vs vs1 : List Nat} (hc : X.calm = true) (hN : X.N.Nodup) (hy : X.N[i]? = some y) (hyl : X.env.scope.names.lookup y = some .local) (hpi : ∀ q ∈ P, q.1 ≠ i)
    (hsw : swapsWith (.ListComp elt [⟨tg, iter, ifs, 0⟩, ⟨tg1, iter1, ifs1, 0⟩] scope pos) (some (.Name y py)) spos.line X.env = pure true) (hi : PI X tg iter (tI X.K P W mi)) (ok : BlkOk X.N X.env.scope scope own) (hv : ∀ i ∈ vs1, i ∈ own.map (·.2))
    (hg : ∀ (s : Shared) (H : Hp) (C : Addr) (cl : List (Str × Addr)) (fp : List Addr), PG (X.blk s H scope (compEnvC scope cl C X.env) fp) tg g) (ht : TgD X.K P ws g t) (hw : ∀ j ∈ ws, j ∈ own.map (·.2)) (hp : ∀ q ∈ P, q.1 ∉ own.map (·.2))
    (htt : ∀ (s : Shared) (H : Hp) (C : Addr) (cl : List (Str × Addr)) (fp : List Addr), PTs (X.blk s H scope (compEnvC scope cl C X.env) fp) ifs (tDT X.K P W0 c))
    (hi1 : ∀ (s : Shared) (H : Hp) (C : Addr) (cl : List (Str × Addr)) (fp : List Addr), PI (X.blk s H scope (compEnvC scope cl C X.env) fp) tg1 iter1 (tI X.K P W0 mi1))
    (hg1 : ∀ (s : Shared) (H : Hp) (C : Addr) (cl : List (Str × Addr)) (fp : List Addr), PG (X.blk s H scope (compEnvC scope cl C X.env) fp) tg1 g1) (ht1 : TgD X.K P ws1 g1 t1) (hw1 : ∀ j ∈ ws1, j ∈ vs1)
    (htt1 : ∀ (s : Shared) (H : Hp) (C : Addr) (cl : List (Str × Addr)) (fp : List Addr), PTs (X.blk s H scope (compEnvC scope cl C X.env) fp) ifs1 (tDT X.K P W0 c1))
    (he : ∀ (s : Shared) (H : Hp) (C : Addr) (cl : List (Str × Addr)) (fp : List Addr), PE (X.blk s H scope (compEnvC scope cl C X.env) fp) elt (tD X.K P W0 m)) (hvs : own.map (·.2) = vs := by rfl) (hs : ∀ x, foldedSetIterable iter X.env x = pure x := by intro _; rfl) (hs1 : ∀ env x, foldedSetIterable iter1 env x = pure x := by intro _ _; rfl) :
    PS X (.Assign [.Name y py] (.ListComp elt [⟨tg, iter, ifs, 0⟩, ⟨tg1, iter1, ifs1, 0⟩] scope pos) spos) (tS X.K P W (sAsg i (mLc2 mi t c mi1 t1 c1 m vs vs1))) := by
  subst hvs
  exact d_setW (ps_setLc2 hc hN hy hyl hsw hi ok hv hg htt hi1 hg1 htt1 he hs hs1) (fun σ H Q h => lc2_ ht hw ht1 hw1 hv hp h) hpi
end
end TD

end
section

/-! TD13: slices; len of a dict; a dict locked for good; own lists and dicts -/
namespace TD
open PySem PySem.Spec PyProof.Rows L2 Evl
variable [HasT]
/-! slices -/
def cutT (xs : List T) (lo hi : Option Int) : List T := (xs.drop (HT.sIx xs.length 0 lo)).take (HT.sIx xs.length xs.length hi - HT.sIx xs.length 0 lo)
def sliT : T → Option Int → Option Int → Option T
  | .list xs, lo, hi => some (.list (cutT xs lo hi))
  | .tuple xs, lo, hi => some (.tuple (cutT xs lo hi))
  | .scr ns, lo, hi => some (.list (cutT (ns.map T.int) lo hi))
  | _, _, _ => none
def mNo : M (Option Int) := fun e => .ok none e
def asI : T → Option Int
  | .int i => some i
  | _ => none
def mSo (m : M T) : M (Option Int) := fun e => (m e).bind fun d e => (ofO (asI d) e).bind fun i e => .ok (some i) e
def mSli (m : M T) (lo hi : M (Option Int)) : M T := fun e => (m e).bind fun x e => (lo e).bind fun l e => (hi e).bind fun h e => ofO (sliT x l h) e
def tDO (K : PySem.W.Frag) (P : List (Nat × Addr)) (W : WX) (m : M (Option Int)) : TO := fun σ H Q => ∃ G e, SD K P G σ H e ∧ Ps K P W (fun d _ H' => Q d H') G σ H e (m e)
theorem _root_.L2.PO.weak {X : Cx} {e : Option Expr} {t t' : TO} (h : PO X e t) (k : ∀ σ H Q, t' σ H Q → t σ H Q) : PO X e t' := ⟨fun pins s σ H Q I q => h.run pins s σ H Q I (k σ H Q q)⟩
theorem cut_rp {K : PySem.W.Frag} {H : Hp} {vs : List V} {ds : List T} {lo hi : Option Int} (r : RpA K H vs ds) : RpA K H (cutV vs lo hi) (cutT ds lo hi) := by
  unfold cutV cutT
  rw [r.length]
  exact (r.drop _).take _
abbrev rSlA' (K : PySem.W.Frag) : V → Option Int → Option Int → Hp → VK → Prop := fun x lo hi H Q => rSlL K x lo hi H Q ∨ rSlA K x lo hi H Q
theorem sli_ok {K : PySem.W.Frag} {S : List Addr} {H : Hp} {x : V} {d : T} {lo hi : Option Int} {Q : VK} (w : Wl S H) (r : Rp K (hide S H) x d) (p : PostO K S Q H (sliT d lo hi)) : rSlA' K x lo hi H Q := by
  cases r with
  | lst q r => exact .inl ⟨_, _, rfl, sq_of (hide_ex _ _ _ _ q), fun b hb => retL w p rfl hb (cut_rp r)⟩
  | @tup a xs ds q r =>
    refine .inr ⟨_, _, rfl, st_of (hide_ex _ _ _ _ q), fun hw => ?_, fun _ b hb => retU w p rfl hb (cut_rp r)⟩
    refine ret p rfl ?_
    have e : cutT ds lo hi = ds := by
      unfold cutT
      rw [← r.length, hw.1, hw.2, List.drop_zero, Nat.sub_zero, r.length, List.take_length]
    rw [e]
    exact .tup q r
  | scr q => exact .inl ⟨_, _, rfl, SqL.mono (hide_ex _ _) q, fun b hb => retL w p rfl hb (cut_rp (rpa_ints _))⟩
  | _ => exact nopost p
section
variable {X : Cx} {P : List (Nat × Addr)} {W : WX} {e : Expr} {lo hi : Option Expr} {m : M T} {ml mh : M (Option Int)} {pos p2 : Pos}
theorem do_none : PO X none (tDO X.K P W mNo) := po_none.weak fun σ H Q ⟨G, en, s, p⟩ => p H .refl s
theorem do_some (h : PE X e (tD X.K P W m)) : PO X (some e) (tDO X.K P W (mSo m)) := (po_some h).weak fun σ H Q ⟨G, en, s, p⟩ => step s p fun d e1 v H1 x1 s1 r1 p1 => by
  cases d with
  | int i =>
    rw [rp_int r1]
    exact ⟨i, rfl, p1 H1 .refl s1⟩
  | _ => exact p1.elim
theorem de_sli (he : PE X e (tD X.K P W m)) (hl : PO X lo (tDO X.K P W ml)) (hh : PO X hi (tDO X.K P W mh)) : PE X (.Subscript e (.Slice lo hi none p2) pos) (tD X.K P W (mSli m ml mh)) :=
  (pe_slice (sl_list.or sl_tupA) he hl hh).weak fun σ H Q ⟨G, en, s, p⟩ => step s p fun d e1 v H1 x1 s1 r1 p1 =>
    ⟨G, e1, s1, stepG p1 fun l e2 H2 x2 s2 p2 => ⟨G, e2, s2, stepG p2 fun h e3 H3 x3 s3 p3 => sli_ok s3.wl ((x2.trans x3).rp r1) (post_o s3 p3)⟩⟩
end
/-! len -/
theorem cr_lenK {X : Cx} : CallR X (.builtin "len") (fun xs H Q => ∃ a kvs, xs = [V.ref a] ∧ Rd H a (.dK kvs) ∧ Q (.int kvs.length) H) := by
  intro pins s σ H xs us Q I r ⟨a, kvs, ex, ha, q⟩
  subst ex
  rw [Vals.ref1 r]
  exact d_len I ha fun t s' I' => ⟨.int kvs.length, H, I', ⟨t, rfl⟩, q⟩
def lenA : T → Option T
  | .dict ps => if flatKs ps = true then some (.int ps.length) else none
  | d => lenT d
abbrev rLenA (K : PySem.W.Frag) : List V → Hp → VK → Prop := fun xs H Q => rLenT K xs H Q ∨ ∃ a kvs, xs = [V.ref a] ∧ Rd H a (.dK kvs) ∧ Q (.int kvs.length) H
theorem cr_lenA {X : Cx} : CallR X (.builtin "len") (rLenA X.K) := call_len_seq.or cr_lenK
theorem zip_len {α β : Type} {xs : List α} {ys : List β} (h : xs.length = ys.length) : (xs.zip ys).length = ys.length := by rw [List.length_zip, h, Nat.min_self]
theorem cad_lenA {K : PySem.W.Frag} : CaD K (rLenA K) (un1 lenA) := cad_un fun S H v d Q w r p => by
  cases r with
  | lst q r => exact .inl ⟨_, _, rfl, .inl (sq_of (hide_ex _ _ _ _ q)), ret p (by rw [r.length]; rfl) (.int _)⟩
  | tup q r => exact .inl ⟨_, _, rfl, .inr (st_of (hide_ex _ _ _ _ q)), ret p (by rw [r.length]; rfl) (.int _)⟩
  | @dK a o ks vs ds q l r =>
    refine .inr ⟨_, _, rfl, .inr ⟨o, hide_ex _ _ _ _ q⟩, ret p ?_ (.int _)⟩
    have e : (if flatKs ((ks.map kD).zip ds) = true then some (.int ((ks.map kD).zip ds).length) else none) = some (T.int (((ks.zip vs).length : Nat))) := by
      rw [if_pos (flat_k ks ds), zip_len l, zip_len (by rw [List.length_map, l, r.length]), r.length]
    exact e
  | @dT a o ks vs ds n q l r =>
    have h : PostO K S Q H (if flatKs ((ks.map fun k => T.tuple (k.map kD)).zip ds) = true then some (.int ((ks.map fun k => T.tuple (k.map kD)).zip ds).length) else none) := p
    rw [if_neg (by rw [flat_t n l r]; decide)] at h
    exact nopost h
  | scr q => exact .inl ⟨_, _, rfl, .inl (SqL.mono (hide_ex _ _) q), ret p (by rw [List.length_map]; rfl) (.int _)⟩
  | _ => exact nopost p
end TD

end
section

/-! TD14: own lists and dicts: changed, read, given up -/
namespace TD
open PySem PySem.Spec PyProof.Rows L2 Evl
variable [HasT]
theorem own1_own {t t' : T} {o : Option V} : own1 (.own t) o = own1 (.own t') o := by
  cases o with
  | none => rfl
  | some v => cases v <;> rfl
theorem own1_mem {a : Sl} {o : Option V} {c : Addr} (h : c ∈ own1 a o) : ∃ t, a = .own t ∧ o = some (.ref c) := by
  cases a with
  | un => rw [own1_un] at h; cases h
  | val t => rw [own1_val] at h; cases h
  | own t =>
    cases o with
    | none => cases h
    | some v =>
      cases v with
      | ref b =>
        have e : c = b := List.mem_singleton.mp h
        exact ⟨t, rfl, by rw [e]⟩
      | _ => cases h
theorem owns_mem : ∀ {e : Env} {σ : Sg} {c : Addr}, c ∈ owns e σ → ∃ (j : Nat) (t : T), e[j]? = some (.own t) ∧ σ[j]? = some (some (.ref c))
  | [], _, _, h => by simp [owns] at h
  | _ :: _, [], _, h => by simp [owns] at h
  | a :: e, o :: σ, c, h => by
    rcases List.mem_append.mp (show c ∈ own1 a o ++ owns e σ from h) with h | h
    · obtain ⟨t, rfl, rfl⟩ := own1_mem h
      exact ⟨0, t, rfl, rfl⟩
    · obtain ⟨j, t, h1, h2⟩ := owns_mem (e := e) (σ := σ) h
      exact ⟨j + 1, t, by simpa using h1, by simpa using h2⟩
theorem mem_owns : ∀ {e : Env} {σ : Sg} {c : Addr} {j : Nat} {t : T}, e[j]? = some (.own t) → σ[j]? = some (some (.ref c)) → c ∈ owns e σ
  | [], _, _, _, _, h, _ => by simp at h
  | _ :: _, [], _, _, _, _, h => by simp at h
  | a :: e, o :: σ, c, 0, t, h1, h2 => by
    simp at h1 h2
    subst h1 h2
    exact List.mem_append_left _ List.mem_cons_self
  | a :: e, o :: σ, c, j + 1, t, h1, h2 => List.mem_append_right _ (mem_owns (e := e) (σ := σ) (j := j) (t := t) (by simpa using h1) (by simpa using h2))
theorem own_uniq : ∀ {e : Env} {σ : Sg} {i j : Nat} {t t' : T} {a : Addr}, (owns e σ).Nodup → e[i]? = some (.own t) → e[j]? = some (.own t') → σ[i]? = some (some (.ref a)) → σ[j]? = some (some (.ref a)) → i = j
  | [], _, _, _, _, _, _, _, h, _, _, _ => by simp at h
  | _ :: _, [], _, _, _, _, _, _, _, _, h, _ => by simp at h
  | b :: e, o :: σ, 0, 0, _, _, _, _, _, _, _, _ => rfl
  | b :: e, o :: σ, 0, j + 1, t, t', a, n, h1, h2, h3, h4 => by
    simp at h1 h3
    subst h1 h3
    have n' : (own1 (.own t) (some (.ref a)) ++ owns e σ).Nodup := n
    exact absurd rfl ((List.nodup_append.mp n').2.2 a List.mem_cons_self a (mem_owns (j := j) (t := t') (by simpa using h2) (by simpa using h4)))
  | b :: e, o :: σ, i + 1, 0, t, t', a, n, h1, h2, h3, h4 => by
    simp at h2 h4
    subst h2 h4
    have n' : (own1 (.own t') (some (.ref a)) ++ owns e σ).Nodup := n
    exact absurd rfl ((List.nodup_append.mp n').2.2 a List.mem_cons_self a (mem_owns (j := i) (t := t) (by simpa using h1) (by simpa using h3)))
  | b :: e, o :: σ, i + 1, j + 1, t, t', a, n, h1, h2, h3, h4 => by
    have n' : (own1 b o ++ owns e σ).Nodup := n
    exact congrArg Nat.succ (own_uniq (e := e) (σ := σ) (List.nodup_append.mp n').2.1 (by simpa using h1) (by simpa using h2) (by simpa using h3) (by simpa using h4))
theorem owns_setO : ∀ {e : Env} {σ : Sg} {i : Nat} {t t' : T}, e[i]? = some (.own t) → owns (e.set i (.own t')) σ = owns e σ
  | [], _, _, _, _, h => by simp at h
  | _ :: _, [], _, _, _, _ => by cases ‹Nat› <;> rfl
  | b :: e, o :: σ, 0, t, t', h => by
    simp at h
    subst h
    show own1 (.own t') o ++ owns e σ = own1 (.own t) o ++ owns e σ
    rw [own1_own]
  | b :: e, o :: σ, i + 1, t, t', h => by
    show own1 b o ++ owns (e.set i (.own t')) σ = own1 b o ++ owns e σ
    rw [owns_setO (e := e) (by simpa using h)]
section
variable {K : PySem.W.Frag} {P : List (Nat × Addr)} {G : List Addr} {σ : Sg} {H : Hp} {e : Env} {i : Nat} {t t' : T} {a : Addr} {o' : HO}
theorem tabs_but {H H' : Hp} {a : Addr} {o : HO} (tb : LamX.Tabs HasT.T H) (h : H a = some o) (n : Plain o) (k : ∀ b, b ≠ a → H' b = H b) : LamX.Tabs HasT.T H' := fun p hp => by
  obtain ⟨ps, h1, h2, h3⟩ := tb p hp
  refine ⟨ps, by rw [k _ (tabs_ne tb h n p hp)]; exact h1, h2, fun pos cv hc => ?_⟩
  obtain ⟨c, e1, e2⟩ := h3 pos cv hc
  refine ⟨c, e1, ?_⟩
  rw [k _ fun z => ?_]
  · exact e2
  · rw [z, h] at e2
    exact n.2 _ _ (Option.some.inj e2)
/-- an own thing gets other content -/
theorem SD.put (s : SD K P G σ H e) (he : e[i]? = some (.own t)) (hs : σ[i]? = some (some (.ref a))) (ho : Own K (hide (G ++ owns e σ) H) (upd H a o') a t') :
    SD K P G σ (upd H a o') (e.set i (.own t')) ∧ Rel G σ H e σ (upd H a o') (e.set i (.own t')) := by
  have ow : owns (e.set i (.own t')) σ = owns e σ := owns_setO he
  have am : a ∈ owns e σ := mem_owns he hs
  have hu : hide (G ++ owns e σ) (upd H a o') = hide (G ++ owns e σ) H := hide_upd (List.mem_append_right _ am)
  have nd2 := List.nodup_append.mp s.nd
  have ga : ∀ b ∈ G, b ≠ a := fun b hb z => nd2.2.2 b hb a am z
  obtain ⟨o1, hp1, pl1⟩ := s.sa.pl a am
  refine ⟨⟨?_, by rw [ow]; exact s.nd, fun b hb => by rw [upd_ne (ga b hb)]; exact s.gl b hb, fun q hq => ?_, tabs_upd s.tb hp1 pl1, s.th⟩, ⟨by rw [ow, hu]; exact Ex.refl _, fun b hb u _ hu2 => by rw [upd_ne (ga b hb)]; exact hu2⟩⟩
  · rw [ow, hu]
    refine SA.of (by rw [List.length_set]; exact s.sa.length) fun j b o h1 h2 => ?_
    by_cases hj : i = j
    · subst hj
      rw [List.getElem?_set_self (List.getElem?_eq_some_iff.mp he).1] at h1
      cases h1
      rw [hs] at h2
      cases h2
      exact .own ho
    · rw [List.getElem?_set_ne hj] at h1
      refine (s.sa.at h1 h2).mono (Ex.refl _) fun c hc u hu2 => ?_
      obtain ⟨tc, e1, e2⟩ := own1_mem hc
      rw [e1] at h1
      rw [e2] at h2
      rw [upd_ne fun z => hj (own_uniq nd2.2.1 he h1 hs (by rw [← z]; exact h2))]
      exact hu2
  · obtain ⟨h1, t1, h2⟩ := s.pr q hq
    refine ⟨h1, ?_⟩
    by_cases hj : i = q.1
    · rw [← hj]
      exact ⟨t', List.getElem?_set_self (List.getElem?_eq_some_iff.mp he).1⟩
    · exact ⟨t1, by rw [List.getElem?_set_ne hj]; exact h2⟩
theorem set_self {σ : Sg} {i : Nat} {o : Option V} (h : σ[i]? = some o) : σ.set i o = σ := by
  apply List.ext_getElem?
  intro j
  by_cases hj : i = j
  · subst hj
    rw [List.getElem?_set_self (List.getElem?_eq_some_iff.mp h).1, h]
  · rw [List.getElem?_set_ne hj]
/-- what is own is given up: from here on it is a value -/
theorem SD.give (s : SD K P G σ H e) (hp : ∀ q ∈ P, q.1 ≠ i) (he : e[i]? = some (.own t)) (hs : σ[i]? = some (some (.ref a))) {H' : Hp} (hH : ∀ b, b ≠ a → H' b = H b) (hr : Rp K (hide (G ++ owns (e.set i (.val t)) σ) H') (.ref a) t) :
    SD K P G σ H' (e.set i (.val t)) ∧ Rel G σ H e σ H' (e.set i (.val t)) := by
  have am : a ∈ owns e σ := mem_owns he hs
  have nd2 := List.nodup_append.mp s.nd
  have ga : ∀ b ∈ G, b ≠ a := fun b hb z => nd2.2.2 b hb a am z
  have sub : (owns (e.set i (.val t)) σ).Sublist (owns e σ) := by
    have q := owns_sub (i := i) (x := .val t) (o := some (.ref a)) own1_val (e := e) (σ := σ)
    rw [set_self hs] at q
    exact q
  have x : Ex (hide (G ++ owns e σ) H) (hide (G ++ owns (e.set i (.val t)) σ) H') := fun b u hb => by
    unfold hide at hb ⊢
    split at hb
    · cases hb
    · rename_i n
      have hne : b ≠ a := fun z => n (by rw [z]; exact List.mem_append_right _ am)
      rw [if_neg fun z => n ?_, hT_eq (hH b hne)]
      · exact hb
      · rcases List.mem_append.mp z with z | z
        · exact List.mem_append_left _ z
        · exact List.mem_append_right _ (sub.subset z)
  obtain ⟨o1, hp1, pl1⟩ := s.sa.pl a am
  refine ⟨⟨SA.of (by rw [List.length_set]; exact s.sa.length) fun j b o h1 h2 => ?_, s.nd.sublist ((List.Sublist.refl G).append sub), fun b hb => by rw [hH b (ga b hb)]; exact s.gl b hb, fun q hq => ?_, tabs_but s.tb hp1 pl1 hH, s.th⟩, ⟨x, fun b hb u _ hu => by rw [hH b (ga b hb)]; exact hu⟩⟩
  · by_cases hj : i = j
    · subst hj
      rw [List.getElem?_set_self (List.getElem?_eq_some_iff.mp he).1] at h1
      cases h1
      rw [hs] at h2
      cases h2
      exact .val hr
    · rw [List.getElem?_set_ne hj] at h1
      refine (s.sa.at h1 h2).mono x fun c hc u hu2 => ?_
      obtain ⟨tc, e1, e2⟩ := own1_mem hc
      rw [e1] at h1
      rw [e2] at h2
      rw [hH c fun z => hj (own_uniq nd2.2.1 he h1 hs (by rw [← z]; exact h2))]
      exact hu2
  · obtain ⟨h1, t1, h2⟩ := s.pr q hq
    exact ⟨h1, t1, by rw [List.getElem?_set_ne (Ne.symm (hp q hq))]; exact h2⟩
theorem SD.give_notin (s : SD K P G σ H e) (he : e[i]? = some (.own t)) (hs : σ[i]? = some (some (.ref a))) : a ∉ G ++ owns (e.set i (.val t)) σ := fun z => by
  have am : a ∈ owns e σ := mem_owns he hs
  have nd2 := List.nodup_append.mp s.nd
  rcases List.mem_append.mp z with z | z
  · exact nd2.2.2 a z a am rfl
  · obtain ⟨j, tj, h1, h2⟩ := owns_mem z
    by_cases hj : i = j
    · subst hj
      rw [List.getElem?_set_self (List.getElem?_eq_some_iff.mp he).1] at h1
      cases h1
    · rw [List.getElem?_set_ne hj] at h1
      exact hj (own_uniq nd2.2.1 he h1 hs h2)
end
/-! ### given up ahead of a statement -/
def sFrz (i : Nat) (m : MS) : MS := fun e => match e[i]? with
  | some (.own t) => m (e.set i (.val t))
  | some (.val _) => m e
  | _ => .bad
theorem ps_lockd {X : Cx} {st : Stmt} {t : TS} (h : PS X st t) : PS X st (fun D σ H => t D σ H ∨ ∃ d u, H d = some u ∧ Mut (some u) ∧ ∀ od, t D σ (upd H d (.frz od u))) := ⟨fun pins s σ H D I q => by
  rcases q with q | ⟨d, u, hd, mu, q⟩
  · exact h.run pins s σ H D I q
  · obtain ⟨od, I1⟩ := I.lock hd mu
    exact h.run pins s σ _ D I1 (q od)⟩
theorem d_frz {X : Cx} {P : List (Nat × Addr)} {W : WX} {st : Stmt} {m : MS} {i : Nat} (hp : ∀ q ∈ P, q.1 ≠ i) (h : PS X st (tS X.K P W m)) : PS X st (tS X.K P W (sFrz i m)) := (ps_lockd h).weak fun D σ H ⟨G, en, s, p⟩ => by
  cases q : en[i]? with
  | none =>
    have p' : PsS X.K P W D G σ H en (match en[i]? with | some (.own t) => m (en.set i (.val t)) | some (.val _) => m en | _ => .bad) := p
    rw [q] at p'
    exact p'.elim
  | some sl =>
    have p' : PsS X.K P W D G σ H en (match en[i]? with | some (.own t) => m (en.set i (.val t)) | some (.val _) => m en | _ => .bad) := p
    rw [q] at p'
    cases sl with
    | un => exact p'.elim
    | val t => exact .inl ⟨G, en, s, p'⟩
    | own t =>
      obtain ⟨a, hs, ho, hm⟩ := s.sa.ownAt q
      have nin := s.give_notin q hs
      have sub : Ex (hide (G ++ owns en σ) H) (hide (G ++ owns (en.set i (.val t)) σ) H) := hide_sub fun b hb => by
        have w := owns_sub (i := i) (x := .val t) (o := some (.ref a)) own1_val (e := en) (σ := σ)
        rw [set_self hs] at w
        rcases List.mem_append.mp hb with hb | hb
        · exact List.mem_append_left _ hb
        · exact List.mem_append_right _ (w.subset hb)
      have subF : ∀ u : HO, Ex (hide (G ++ owns en σ) H) (hide (G ++ owns (en.set i (.val t)) σ) (upd H a u)) := fun u b o hb => by
        have h1 := sub b o hb
        have hne : b ≠ a := fun z => by
          rw [z] at hb
          unfold hide at hb
          rw [if_pos (List.mem_append_right _ hm)] at hb
          cases hb
        unfold hide at h1 ⊢
        split at h1
        · cases h1
        · rename_i n
          rw [if_neg n, hT_upd hne]
          exact h1
      cases ho with
      | lst h1 r =>
        obtain ⟨s2, r2⟩ := s.give hp q hs (fun _ _ => rfl) (.lst (hide_at h1 nin) (r.mono sub))
        exact .inl ⟨G, _, s2, PsS.go r2 p'⟩
      | dK h1 l r =>
        refine .inr ⟨a, _, h1, trivial, fun od => ?_⟩
        obtain ⟨s2, r2⟩ := s.give (H' := upd H a (.frz od _)) hp q hs (fun b hb => upd_ne hb) (.dK (hide_at upd_same nin) l (r.mono (subF _)))
        exact ⟨G, _, s2, PsS.go r2 p'⟩
      | dT n h1 l r =>
        refine .inr ⟨a, _, h1, trivial, fun od => ?_⟩
        obtain ⟨s2, r2⟩ := s.give (H' := upd H a (.frz od _)) hp q hs (fun b hb => upd_ne hb) (.dT n (hide_at upd_same nin) l (r.mono (subF _)))
        exact ⟨G, _, s2, PsS.go r2 p'⟩
/-! ### x.append(e) -/
def sApp (i : Nat) (m : M T) : MS := fun e => match e[i]? with
  | some (.own (.list _)) => (m e).st fun d e1 => match e1[i]? with
    | some (.own (.list ds)) => if ds.length < 100000 then .nx (e1.set i (.own (.list (ds ++ [d])))) else .bad
    | _ => .bad
  | _ => .bad
theorem own_list {K : PySem.W.Frag} {H0 H : Hp} {a : Addr} {ds : List T} (h : Own K H0 H a (.list ds)) : ∃ vs, H a = some (.lst vs) ∧ RpA K H0 vs ds := by
  cases h with
  | lst h r => exact ⟨_, h, r⟩
section
variable {X : Cx} {P : List (Nat × Addr)} {W : WX} {o v : Expr} {m : M T} {apos cpos pos : Pos} {i : Nat}
theorem d_app (ho : PE X o (tVar i)) (hv : PE X v (tD X.K P W m)) (hbase : attributeBase o "append" X.env (eval o X.env) = eval o X.env := by rfl)
    (hfew : ((backTo cpos (starEach [v] X.env)).all (fun x => !x.1) && (backToKw cpos (keywordEach [] X.env)).all (fun x => x.1.isSome)
      && decide (([v] : List Expr).length + ([] : List Keyword).length + (if ([] : List Keyword).isEmpty then 0 else 1) < 30)) = true := by rfl)
    (hline : (apos.endLine == cpos.line) = true := by rfl) (hs : starEach [v] X.env = (false, eval v X.env) :: starEach [] X.env := by rfl) (hplain : (backTo cpos (starEach [] X.env)).any (·.1) = false := by rfl)
    (hsw : swapsWith (.Call (.Attribute o "append" apos) [v] [] cpos) none pos.line X.env = pure false := by rfl) : PS X (.Expr (.Call (.Attribute o "append" apos) [v] [] cpos) pos) (tS X.K P W (sApp i m)) :=
  (ps_expr (pe_bm PySem.F.plainAttrs_list PySem.F.slot_list_append PySem.F.type_list_append mt_append ho (pa_cons hv pa_nil hs) hbase hfew hline hs hplain) hsw).weak fun D σ H ⟨G, en, s, p⟩ => by
    unfold sApp at p
    split at p
    · rename_i ds0 q
      obtain ⟨a, hs, ho, hm⟩ := s.sa.ownAt q
      obtain ⟨vs0, h0, r0⟩ := own_list ho
      refine ⟨.ref a, hs, .inl ⟨rfl, _, sq_of h0⟩, ?_⟩
      refine ⟨G, en, s, stepS p fun d e1 H1 x1 s1 p1 y ry => ?_⟩
      split at p1
      · rename_i ds q1
        obtain ⟨a', hs', ho', hm'⟩ := s1.sa.ownAt q1
        have ea : a' = a := by
          rw [hs] at hs'
          cases hs'
          rfl
        subst ea
        obtain ⟨vs, h1, r1⟩ := own_list ho'
        by_cases hz : ds.length < 100000
        · rw [if_pos hz] at p1
          refine ⟨a', vs, y, rfl, rfl, h1, sz_lt (by rw [r1.length]; exact hz), ?_⟩
          obtain ⟨s2, r2⟩ := s1.put (o' := .lst (vs ++ [y])) q1 hs (.lst upd_same (r1.append (.cons ry .nil)))
          exact p1 σ _ r2 s2
        · rw [if_neg hz] at p1
          exact p1.elim
      · exact p1.elim
    · exact p.elim
end
end TD

end
section

/-! TD15: own things made, read, changed -/
namespace TD
open PySem PySem.Spec PyProof.Rows L2 Evl
variable [HasT]
section
variable (K : PySem.W.Frag) (P : List (Nat × Addr)) (W : WX)
/-- a new list or dict at an address that nothing else names -/
def PsF (A : T → Env → Addr → Hp → Prop) (G : List Addr) (σ : Sg) (H : Hp) (e : Env) : R T → Prop
  | .ok d e' => ∀ a H', Ex (hide (G ++ owns e σ) H) (hide (a :: (G ++ owns e' σ)) H') → (∀ b ∈ G, ∀ o, NoT o → H b = some o → H' b = some o) → SD K P (a :: G) σ H' e' → Own K (hide (a :: (G ++ owns e' σ)) H') H' a d → A d e' a H'
  | .ex c fs e' => ∀ dd H', Rel G σ H e σ H' e' → SD K P G σ H' e' → XR K (hide (G ++ owns e' σ) H') H' dd fs → W (.ref (He.ga K c)) (some dd) σ H'
  | .bad => False
def tDF (m : M T) : TE := fun σ H Q => ∃ G e, SD K P G σ H e ∧ PsF K P W (fun _ _ a H' => Q (.ref a) H') G σ H e (m e)
end
section
variable {K : PySem.W.Frag} {P : List (Nat × Addr)} {W : WX} {G : List Addr} {σ : Sg} {H H1 : Hp} {e e1 : Env}
theorem PsF.go {A : T → Env → Addr → Hp → Prop} {r : R T} (x : Rel G σ H e σ H1 e1) (p : PsF K P W A G σ H e r) : PsF K P W A G σ H1 e1 r := by
  cases r with
  | ok d e2 => exact fun a H2 y g s o => p a H2 (x.st.trans y) (fun b hb u n hu => g b hb u n (x.gs b hb u n hu)) s o
  | ex c fs e2 => exact fun dd H2 y s => p dd H2 (x.trans y) s
  | bad => exact p
theorem stepF {α : Type} {A : T → Env → Addr → Hp → Prop} {B : α → Env → Hp → Prop} {m : M α} {f : α → Env → R T} (p : PsF K P W A G σ H e (R.bind (m e) f))
    (k : ∀ d e1 H', Rel G σ H e σ H' e1 → SD K P G σ H' e1 → PsF K P W A G σ H' e1 (f d e1) → B d e1 H') : Ps K P W B G σ H e (m e) := by
  cases q : m e with
  | ok d e1 =>
    rw [q] at p
    exact fun H' x s1 => k d e1 H' x s1 (PsF.go x p)
  | ex c fs e1 =>
    rw [q] at p
    exact p
  | bad =>
    rw [q] at p
    exact p
/-- what was laid just now -/
theorem PsF.new {A : T → Env → Addr → Hp → Prop} {d : T} {a : Addr} {u : HO} (s : SD K P G σ H e) (p : PsF K P W A G σ H e (.ok d e)) (h : H a = none) (ho : Own K (hide (G ++ owns e σ) H) (upd H a u) a d) : A d e a (upd H a u) := by
  have x : Ex (hide (G ++ owns e σ) H) (hide (a :: (G ++ owns e σ)) (upd H a u)) := hide_add h (hide_mono (Ex.new h))
  obtain ⟨o1, e1, pl⟩ := plain_own ho
  rw [upd_same] at e1
  cases e1
  exact p a _ x (fun b hb o _ q => by rw [upd_ne (ne_of_none q h)]; exact q) (s.ghost h pl) (ho.mono x fun o q => q)
theorem owns_new : ∀ {e : Env} {σ : Sg} {i : Nat} {t : T} {a : Addr}, (owns e σ).Nodup → a ∉ owns e σ → (owns (e.set i (.own t)) (σ.set i (some (.ref a)))).Nodup
  | [], _, _, _, _, _, _ => by simp [owns]
  | _ :: _, [], i, _, _, _, _ => by cases i <;> simp [owns]
  | b :: e, o :: σ, 0, t, a, n, h => by
    have n' : (own1 b o ++ owns e σ).Nodup := n
    show ([a] ++ owns e σ).Nodup
    exact List.nodup_cons.mpr ⟨fun z => h (List.mem_append_right _ z), (List.nodup_append.mp n').2.1⟩
  | b :: e, o :: σ, i + 1, t, a, n, h => by
    have n' : (own1 b o ++ owns e σ).Nodup := n
    have q := List.nodup_append.mp n'
    show (own1 b o ++ owns (e.set i (.own t)) (σ.set i (some (.ref a)))).Nodup
    refine List.nodup_append.mpr ⟨q.1, owns_new q.2.1 fun z => h (List.mem_append_right _ z), fun x hx y hy => ?_⟩
    rcases owns_set y hy with z | z
    · have e1 : y = a := List.mem_singleton.mp z
      rw [e1]
      intro e2
      exact h (List.mem_append_left _ (by rw [← e2]; exact hx))
    · exact q.2.2 x hx y z
/-- it gets a name -/
theorem SD.name {i : Nat} {t : T} {a : Addr} (s : SD K P (a :: G) σ H e) (hp : ∀ q ∈ P, q.1 ≠ i) (ho : Own K (hide (a :: (G ++ owns e σ)) H) H a t) :
    SD K P G (σ.set i (some (.ref a))) H (e.set i (.own t)) ∧ Ex (hide (a :: (G ++ owns e σ)) H) (hide (G ++ owns (e.set i (.own t)) (σ.set i (some (.ref a)))) H) := by
  have sub : Ex (hide (a :: (G ++ owns e σ)) H) (hide (G ++ owns (e.set i (.own t)) (σ.set i (some (.ref a)))) H) := hide_sub fun b hb => by
    rcases List.mem_append.mp hb with z | z
    · exact List.mem_cons_of_mem _ (List.mem_append_left _ z)
    · rcases owns_set b z with z | z
      · rw [List.mem_singleton.mp z]
        exact List.mem_cons_self
      · exact List.mem_cons_of_mem _ (List.mem_append_right _ z)
  have na : a ∉ G ++ owns e σ := s.notin
  have nd1 := List.nodup_append.mp (List.nodup_cons.mp s.nd).2
  obtain ⟨o1, hp1, pl1⟩ := plain_own ho
  refine ⟨⟨SA.of (by rw [List.length_set, List.length_set]; exact s.sa.length) fun j b o h1 h2 => ?_, ?_, fun b hb => s.gl b (List.mem_cons_of_mem _ hb), fun q hq => ?_, s.tb, fun p hp => (List.mem_cons.mp (s.th p hp)).resolve_left (tabs_ne s.tb hp1 pl1 p hp)⟩, sub⟩
  · by_cases hj : i = j
    · subst hj
      have l1 : i < e.length := by
        have := (List.getElem?_eq_some_iff.mp h1).1
        rwa [List.length_set] at this
      have l2 : i < σ.length := by rw [← s.sa.length]; exact l1
      rw [List.getElem?_set_self l1] at h1
      rw [List.getElem?_set_self l2] at h2
      cases h1
      cases h2
      exact .own (ho.mono sub fun _ q => q)
    · rw [List.getElem?_set_ne hj] at h1 h2
      exact (s.sa.at h1 h2).mono sub fun _ _ _ q => q
  · refine List.nodup_append.mpr ⟨nd1.1, owns_new nd1.2.1 fun z => na (List.mem_append_right _ z), fun x hx y hy => ?_⟩
    rcases owns_set y hy with z | z
    · rw [List.mem_singleton.mp z]
      intro e2
      exact na (List.mem_append_left _ (by rw [← e2]; exact hx))
    · exact nd1.2.2 x hx y z
  · obtain ⟨h1, t1, h2⟩ := s.pr q hq
    exact ⟨by rw [List.getElem?_set_ne (Ne.symm (hp q hq))]; exact h1, t1, by rw [List.getElem?_set_ne (Ne.symm (hp q hq))]; exact h2⟩
end
/-! ### expressions that make something new -/
def sOwn (i : Nat) (m : M T) : MS := fun e => (m e).st fun t e1 => .nx (e1.set i (.own t))
def mDict : M T := fun e => .ok (.dict []) e
section
variable {X : Cx} {P : List (Nat × Addr)} {W : WX} {e a b : Expr} {es : List Expr} {m ma mb : M T} {ml : M (List T)} {pos : Pos} {k : ExprContext} {i : Nat}
theorem df_lst (ha : PA X es (tDA X.K P W ml)) (h : ∀ {t : TA}, PA X es t → PE X e (tLst t)) : PE X e (tDF X.K P W (mkLst ml)) := (h ha).weak fun σ H Q ⟨G, en, s, p⟩ => ⟨G, en, s, stepF p fun d e1 H1 x1 s1 p1 v r1 => by
  by_cases hz : d.length ≤ 100000
  · rw [if_pos hz] at p1
    exact ⟨sz_of (by rw [r1.length]; exact hz), fun l hl => p1.new s1 hl (.lst upd_same r1)⟩
  · rw [if_neg hz] at p1
    exact p1.elim⟩
theorem df_dict : PE X (.Dict [] [] pos) (tDF X.K P W mDict) := pe_dnewK.weak fun σ H Q ⟨G, en, s, p⟩ l hl => p.new s hl (.dK (ks := []) (vs := []) (ds := []) upd_same rfl .nil)
/-- a + b of two lists -/
def catT : T → T → Option T
  | .list xs, .list ys => if xs.length + ys.length ≤ 100000 then some (.list (xs ++ ys)) else none
  | _, _ => none
theorem df_cat (ha : PE X a (tD X.K P W ma)) (hb : PE X b (tD X.K P W mb)) : PE X (.BinOp a .Add b pos) (tDF X.K P W (mOp catT ma mb)) := (pe_op op_cat ha hb).weak fun σ H Q ⟨G, en, s, p⟩ =>
  ⟨G, en, s, stepF p fun d e1 H1 x1 s1 p1 v r1 => ⟨G, e1, s1, stepF p1 fun d2 e2 H2 x2 s2 p2 v2 r2 => by
    have r1' := x2.rp r1
    cases r1' with
    | @lst p1' xs ds q1 rA => cases r2 with
      | @lst p2' ys es q2 rB =>
        have p3 : PsF X.K P W (fun _ _ a H' => Q (.ref a) H') G σ H2 e2 (ofO (if ds.length + es.length ≤ 100000 then some (.list (ds ++ es)) else none) e2) := p2
        by_cases hz : ds.length + es.length ≤ 100000
        · rw [if_pos hz] at p3
          exact ⟨p1', p2', xs, ys, rfl, rfl, hide_ex _ _ _ _ q1, hide_ex _ _ _ _ q2, sz_of (by rw [rA.length, rB.length]; exact hz), fun l hl => p3.new s2 hl (.lst upd_same (rA.append rB))⟩
        · rw [if_neg hz] at p3
          exact p3.elim
      | _ => exact p2.elim
    | _ => cases r2 <;> exact p2.elim⟩⟩
/-- name = something new, kept as own -/
theorem d_own {x : Str} {pos' : Pos} (hN : X.N.Nodup) (hi : X.N[i]? = some x) (hx : Loc X.env.scope x) (hp : ∀ q ∈ P, q.1 ≠ i) (he : PE X e (tDF X.K P W m)) (hs : swapsWith e (some (.Name x pos')) pos.line X.env = pure false := by rfl)
    (hf : X.fn x = true ∨ X.env.scope.names.lookup x = some .local := by first | exact .inl rfl | exact .inr rfl | assumption) : PS X (.Assign [.Name x pos'] e pos) (tS X.K P W (sOwn i m)) := (ps_set hN hi hx he hs hf).weak fun D σ H ⟨G, en, s, p⟩ => ⟨G, en, s, by
  have p' : PsS X.K P W D G σ H en ((m en).st fun t e1 => .nx (e1.set i (.own t))) := p
  cases q : m en with
  | ok d e1 =>
    rw [q] at p'
    intro a H' x g s1 o
    obtain ⟨s2, x2⟩ := s1.name hp o
    exact p' _ H' ⟨x.trans x2, g⟩ s2
  | ex c fs e1 =>
    rw [q] at p'
    exact fun dd H' x s1 => p' dd σ H' x s1
  | bad =>
    rw [q] at p'
    exact p'⟩
end
/-! ### own things read -/
section
variable {X : Cx} {P : List (Nat × Addr)} {W : WX} {E o b : Expr} {m : M T} {pos p : Pos} {i : Nat}
def mIxO (i : Nat) (m : M T) : M T := fun e => match e[i]? with
  | some (.own (.list _)) => (m e).bind fun k e1 => match e1[i]? with
    | some (.own (.list ds)) => ofO (ixT (.list ds) k) e1
    | _ => .bad
  | _ => .bad
theorem de_ixO (ho : PE X o (tVar i)) (hb : PE X b (tD X.K P W m)) (hs : PlainIx b) : PE X (.Subscript o b pos) (tD X.K P W (mIxO i m)) := (pe_ix ix_list ho hb hs).weak fun σ H Q ⟨G, en, s, p⟩ => by
  unfold mIxO at p
  split at p
  · rename_i ds0 q
    obtain ⟨a, hs, _, _⟩ := s.sa.ownAt q
    refine ⟨.ref a, hs, step s p fun k e1 v H1 x1 s1 r1 p1 => ?_⟩
    split at p1
    · rename_i ds q1
      obtain ⟨a', hs', ho', _⟩ := s1.sa.ownAt q1
      have ea : a' = a := by
        rw [hs] at hs'
        cases hs'
        rfl
      subst ea
      obtain ⟨vs, h1, rs⟩ := own_list ho'
      cases k with
      | int j =>
        rw [rp_int r1]
        cases qa : atI ds j with
        | none =>
          have p2 : Ps X.K P W (AV X.K Q G σ) G σ H1 e1 (ofO (atI ds j) e1) := p1
          rw [qa] at p2
          exact p2.elim
        | some d =>
          have p2 : Ps X.K P W (AV X.K Q G σ) G σ H1 e1 (ofO (atI ds j) e1) := p1
          rw [qa] at p2
          obtain ⟨z, hz, rz⟩ := atI_rp rs qa
          exact ⟨a', vs, j, z, rfl, rfl, sq_of h1, hz, p2 H1 .refl s1 z rz⟩
      | _ => exact p1.elim
    · exact p1.elim
  · exact p.elim
/-- a builtin of an own list: len, sum -/
def mUnO (f : List T → Option T) (i : Nat) : M T := fun e => match e[i]? with
  | some (.own (.list ds)) => ofO (f ds) e
  | _ => .bad
theorem de_unO {r : List V → Hp → VK → Prop} {f : List T → Option T} (ho : PE X o (tVar i)) (hd : ∀ (H0 H : Hp) (a : Addr) (vs : List V) (ds : List T) (Q : VK), H a = some (.lst vs) → RpA X.K H0 vs ds → (∃ d v, f ds = some d ∧ (∀ H0, Rp X.K H0 v d) ∧ (Q v H → r [.ref a] H Q)) ∨ f ds = none) (h : ∀ {t : TA}, PA X [o] t → PE X E (tCB r t)) (hs : starEach [o] X.env = (false, eval o X.env) :: starEach [] X.env := by rfl) : PE X E (tD X.K P W (mUnO f i)) :=
  (h (pa_cons ho pa_nil hs)).weak fun σ H Q ⟨G, en, s, p⟩ => by
    unfold mUnO at p
    split at p
    · rename_i ds q
      obtain ⟨a, hs, ho, _⟩ := s.sa.ownAt q
      obtain ⟨vs, h1, rs⟩ := own_list ho
      refine ⟨.ref a, hs, ?_⟩
      rcases hd _ H a vs ds Q h1 rs with ⟨d, v, e1, rv, k⟩ | e1
      · rw [e1] at p
        exact k (p H .refl s v (rv _))
      · rw [e1] at p
        exact p.elim
    · exact p.elim
def lenL (ds : List T) : Option T := some (.int ds.length)
def sumL (ds : List T) : Option T := (intsT ds).map fun ns => .int ns.sum
theorem dd_lenO (T : Nm X.mg) (ho : PE X o (tVar i)) (hg : Gl X "len" := by rfl) (hs : starEach [o] X.env = (false, eval o X.env) :: starEach [] X.env := by rfl) (hpl : (backTo pos (starEach [] X.env)).any (·.1) = false := by rfl) : PE X (.Call (.Name "len" p) [o] [] pos) (tD X.K P W (mUnO lenL i)) :=
  de_unO (r := rLenT X.K) ho (fun H0 H a vs ds Q h r => .inl ⟨_, .int vs.length, rfl, fun _ => by rw [r.length]; exact .int _, fun q => ⟨a, vs, rfl, .inl (sq_of h), q⟩⟩) (fun h => pe_callB call_len_seq hg T.len PySem.boot_len h (by decide) (by decide) hs hpl) hs
theorem dd_sumO (T : Nm X.mg) (hc : X.calm = true) (ho : PE X o (tVar i)) (hg : Gl X "sum" := by rfl) (hs : starEach [o] X.env = (false, eval o X.env) :: starEach [] X.env := by rfl) (hpl : (backTo pos (starEach [] X.env)).any (·.1) = false := by rfl) : PE X (.Call (.Name "sum" p) [o] [] pos) (tD X.K P W (mUnO sumL i)) :=
  de_unO (r := rSumT X.K) ho (fun H0 H a vs ds Q h r => by
    cases q : intsT ds with
    | none => exact .inr (by unfold sumL; rw [q]; rfl)
    | some ns =>
      obtain ⟨e1, _⟩ := ints_of r q
      exact .inl ⟨.int ns.sum, .int ns.sum, by unfold sumL; rw [q]; rfl, fun _ => .int _, fun z => .inl ⟨a, ns, rfl, by rw [← e1]; exact sq_of h, z⟩⟩) (fun h => pe_callB (cr_sumT hc) hg T.sum PyProof.Rows.boot_sum h (by decide) (by decide) hs hpl) hs
end
end TD

end
section

/-! TD16: defs that change their first argument -/
namespace TD
open PySem PySem.Spec PyProof.Rows L2 Evl
variable [HasT]
inductive RQ where
  | ok (t d : T)
  | bad
abbrev FQ := T → List T → RQ
def PQ (K : PySem.W.Frag) (S : List Addr) (H : Hp) (a : Addr) (Q : VK) : RQ → Prop
  | .ok t' d => ∀ v H', Ex (hide (a :: S) H) (hide (a :: S) H') → (∀ b ∈ S, ∀ o, NoT o → H b = some o → H' b = some o) → LamX.Tabs HasT.T H' → Own K (hide (a :: S) H') H' a t' → Rp K (hide (a :: S) H') v d → Q v H'
  | .bad => False
def spQ (K : PySem.W.Frag) (n : Nat) (f : FQ) : Sp := fun vs H Q E => vs.length = n + 1 ∧ ∃ (a : Addr) (ws : List V) (S : List Addr) (ds : List T) (t : T), vs = .ref a :: ws ∧ (GL S H ∧ LamX.Tabs HasT.T H ∧ ∀ p ∈ HasT.T, p.1 ∈ S) ∧ (a :: S).Nodup ∧ Own K (hide (a :: S) H) H a t ∧ RpA K (hide (a :: S) H) ws ds ∧ PQ K S H a Q (f t ds)
def outQ : RS → RQ
  | .nx e => match e[(0 : Nat)]? with
    | some (.own t) => .ok t .none
    | _ => .bad
  | .rt d e => match e[(0 : Nat)]? with
    | some (.own t) => .ok t d
    | _ => .bad
  | _ => .bad
/-- a body as a function: the first argument is changed; N slots -/
def runQ (N : Nat) (b : MS) : FQ := fun t ds => outQ (b (.own t :: (ds.map .val ++ List.replicate (N - (ds.length + 1)) .un)))
theorem hide_same {S S' : List Addr} {H : Hp} (h : ∀ a, a ∈ S ↔ a ∈ S') : hide S H = hide S' H := by
  funext a
  unfold hide
  by_cases q : a ∈ S
  · rw [if_pos q, if_pos ((h a).mp q)]
  · rw [if_neg q, if_neg fun z => q ((h a).mpr z)]
theorem hide_snoc {S : List Addr} {a : Addr} {H : Hp} : hide (S ++ [a]) H = hide (a :: S) H := hide_same fun b => by simp [or_comm]
section
variable {P : Program} {w : World} {K : PySem.W.Frag} {mg : Str → Option Value} {base : Heap} {x qual : Str} {params : Arguments} {body : List Stmt} {scope : Scope} {f : Addr} {fd : FuncData}
theorem fun_tq {N ps : List Str} {k n : Nat} {b : MS} (F : FunD K x qual params body scope [] [] f fd) (S : FnScope N ps scope) (hps : ps.length = n + 1)
    (hb : ∀ (cdv : Value) (A : Around) (outer : List PySem.Env) (s : Shared) (H : Hp) (E : XK) (a : Addr), Room k (A.deeper (envOfC qual scope s.heap.objs.size f cdv)) →
      PSs (BX P w K mg base N qual scope f cdv A outer s H E) body (tS K [(0, a)] W0 b)) : FnOk P w K mg base (CX P w) (k + 1) f fd ps (spQ K n (runQ N.length b)) := by
  refine F.ok S (fun vs H Q E h => h.1.trans hps.symm) fun cdv A outer s H vs Q E hr h => ?_
  obtain ⟨hl, a, ws, G, ds, t, rfl, ⟨wl, tb, th⟩, nd, ho, ra, p⟩ := h
  refine ⟨_, hb cdv A outer s H E a hr, ?_⟩
  have hd : ds.length = ws.length := ra.length.symm
  have est : L2.start N (.ref a :: ws) = some (.ref a) :: (ws.map some ++ List.replicate (N.length - (ds.length + 1)) none) := by
    unfold L2.start
    rw [hd]
    rfl
  have how : owns (.own t :: (ds.map .val ++ List.replicate (N.length - (ds.length + 1)) .un)) (some (.ref a) :: (ws.map some ++ List.replicate (N.length - (ds.length + 1)) none)) = [a] := by
    show [a] ++ owns (ds.map .val ++ List.replicate (N.length - (ds.length + 1)) .un) (ws.map some ++ List.replicate (N.length - (ds.length + 1)) none) = [a]
    rw [owns_start ra.length]
    rfl
  rw [est]
  refine ⟨G, .own t :: (ds.map .val ++ List.replicate (N.length - (ds.length + 1)) .un), ⟨?_, ?_, wl, fun q hq => ?_, tb, th⟩, ?_⟩
  · rw [how, hide_snoc]
    exact .cons (.own ho) (sa_start ra)
  · rw [how]
    exact List.nodup_append.mpr ⟨(List.nodup_cons.mp nd).2, List.nodup_cons.mpr ⟨by simp, List.nodup_nil⟩, fun b hb c hc e => (List.nodup_cons.mp nd).1 (by rw [← List.mem_singleton.mp hc, ← e]; exact hb)⟩
  · have e := List.mem_singleton.mp hq
    subst e
    exact ⟨rfl, t, rfl⟩
  · have fin : ∀ {σ' : Sg} {H' : Hp} {e' : Env} {v : V} {d : T}, Rel G (some (.ref a) :: (ws.map some ++ List.replicate (N.length - (ds.length + 1)) none)) H (.own t :: (ds.map .val ++ List.replicate (N.length - (ds.length + 1)) .un)) σ' H' e' →
        SD K [(0, a)] G σ' H' e' → Rp K (hide (G ++ owns e' σ') H') v d → PQ K G H a Q (match e'[(0 : Nat)]? with | some (.own t) => .ok t d | _ => .bad) → Q v H' := fun {σ' H' e' v d} r s' rv p => by
      obtain ⟨h1, t1, h2⟩ := s'.pr (0, a) List.mem_cons_self
      obtain ⟨a', h3, o', hm⟩ := s'.sa.ownAt h2
      have ea : a' = a := by
        have h4 := h1.symm.trans h3
        cases h4
        rfl
      subst ea
      rw [h2] at p
      have sub : Ex (hide (G ++ owns e' σ') H') (hide (a' :: G) H') := hide_sub fun b hb => by
        rcases List.mem_cons.mp hb with z | z
        · rw [z]; exact List.mem_append_right _ hm
        · exact List.mem_append_left _ z
      have r1 := r.st
      rw [how, hide_snoc] at r1
      exact p v H' (r1.trans sub) r.gs s'.tb (o'.mono sub fun _ q => q) (rv.mono sub)
    have p' : PQ K G H a Q (outQ (b (.own t :: (ds.map .val ++ List.replicate (N.length - (ds.length + 1)) .un)))) := p
    cases q : b (.own t :: (ds.map .val ++ List.replicate (N.length - (ds.length + 1)) .un)) with
    | nx e' =>
      rw [q] at p'
      exact fun σ' H' r s' => fin r s' .non p'
    | rt d e' =>
      rw [q] at p'
      exact fun v σ' H' r s' rv => fin r s' rv p'
    | ex c fs e' => rw [q] at p'; exact p'.elim
    | bk e' => rw [q] at p'; exact p'.elim
    | ct e' => rw [q] at p'; exact p'.elim
    | bad => rw [q] at p'; exact p'.elim
end
section
variable {K : PySem.W.Frag} {P : List (Nat × Addr)} {G : List Addr} {σ : Sg} {H H' : Hp} {e : Env} {i : Nat} {t t' : T} {a : Addr}
theorem SD.put' (s : SD K P G σ H e) (he : e[i]? = some (.own t)) (hs : σ[i]? = some (some (.ref a))) (x : Ex (hide (G ++ owns e σ) H) (hide (G ++ owns e σ) H')) (g : ∀ b ∈ G ++ owns e σ, b ≠ a → ∀ o, NoT o → H b = some o → H' b = some o) (tb : LamX.Tabs HasT.T H') (ho : Own K (hide (G ++ owns e σ) H') H' a t') :
    SD K P G σ H' (e.set i (.own t')) ∧ Rel G σ H e σ H' (e.set i (.own t')) := by
  have ow : owns (e.set i (.own t')) σ = owns e σ := owns_setO he
  have am : a ∈ owns e σ := mem_owns he hs
  have nd2 := List.nodup_append.mp s.nd
  have ga : ∀ b ∈ G, b ≠ a := fun b hb z => nd2.2.2 b hb a am z
  refine ⟨⟨?_, by rw [ow]; exact s.nd, s.gl.go fun b hb => g b (List.mem_append_left _ hb) (ga b hb), fun q hq => ?_, tb, s.th⟩, ⟨by rw [ow]; exact x, fun b hb => g b (List.mem_append_left _ hb) (ga b hb)⟩⟩
  · rw [ow]
    refine SA.of (by rw [List.length_set]; exact s.sa.length) fun j b o h1 h2 => ?_
    by_cases hj : i = j
    · subst hj
      rw [List.getElem?_set_self (List.getElem?_eq_some_iff.mp he).1] at h1
      cases h1
      rw [hs] at h2
      cases h2
      exact .own ho
    · rw [List.getElem?_set_ne hj] at h1
      refine (s.sa.at h1 h2).mono x fun c hc u hu2 => ?_
      obtain ⟨tc, e1, e2⟩ := own1_mem hc
      rw [e1] at h1
      rw [e2] at h2
      obtain ⟨o3, h3, p3⟩ := s.sa.pl c (mem_owns h1 h2)
      have e3 := h3.symm.trans hu2
      cases e3
      exact g c (List.mem_append_right _ (mem_owns h1 h2)) (fun z => hj (own_uniq nd2.2.1 he h1 hs (by rw [← z]; exact h2))) _ p3.1 h3
  · obtain ⟨h1, t1, h2⟩ := s.pr q hq
    refine ⟨h1, ?_⟩
    by_cases hj : i = q.1
    · rw [← hj]
      exact ⟨t', List.getElem?_set_self (List.getElem?_eq_some_iff.mp he).1⟩
    · exact ⟨t1, by rw [List.getElem?_set_ne hj]; exact h2⟩
end
/-- a call: the i-th slot's own thing first, then values -/
def mFQ (f : FQ) (i : Nat) (ml : M (List T)) : M T := fun e => match e[i]? with
  | some (.own _) => (ml e).bind fun ds e1 => match e1[i]? with
    | some (.own t) => match f t ds with
      | .ok t' d => .ok d (e1.set i (.own t'))
      | .bad => .bad
    | _ => .bad
  | _ => .bad
section
variable {X : Cx} {P : List (Nat × Addr)} {W : WX} {es : List Expr} {ml : M (List T)} {o e : Expr} {f : FQ} {n i : Nat}
theorem de_fnQ (hn : ∀ {e1 : Env} {ds : List T} {e : Env}, ml e = .ok ds e1 → ds.length = n) (ho : PE X o (tVar i)) (ha : PA X es (tDA X.K P W ml)) (hs : starEach (o :: es) X.env = (false, eval o X.env) :: starEach es X.env) (h : ∀ {t : TA}, PA X (o :: es) t → PE X e (tCallS (spQ X.K n f) (WE W) t)) :
    PE X e (tD X.K P W (mFQ f i ml)) := (h (pa_cons ho ha hs)).weak fun σ H Q ⟨G, en, s, p⟩ => by
  unfold mFQ at p
  split at p
  · rename_i t0 q
    obtain ⟨a, hs, _, _⟩ := s.sa.ownAt q
    refine ⟨.ref a, hs, stepAq s p fun ds e1 vs H1 hq x1 s1 r1 p1 => ?_⟩
    split at p1
    · rename_i t q1
      obtain ⟨a', hs', ho', hm'⟩ := s1.sa.ownAt q1
      have ea : a' = a := by
        rw [hs] at hs'
        cases hs'
        rfl
      subst ea
      have hmL : a' ∈ G ++ owns e1 σ := List.mem_append_right _ hm'
      have hsame : ∀ H : Hp, hide (a' :: (G ++ owns e1 σ).erase a') H = hide (G ++ owns e1 σ) H := fun H => hide_same fun b => by
        by_cases hb : b = a'
        · rw [hb]
          exact ⟨fun _ => hmL, fun _ => List.mem_cons_self⟩
        · constructor
          · intro z
            rcases List.mem_cons.mp z with z | z
            · exact absurd z hb
            · exact List.mem_of_mem_erase z
          · intro z
            exact List.mem_cons_of_mem _ ((List.mem_erase_of_ne hb).mpr z)
      obtain ⟨oa, hpa, pla⟩ := s1.sa.pl a' hm'
      refine ⟨by rw [List.length_cons, r1.length, hn hq], a', vs, (G ++ owns e1 σ).erase a', ds, t, rfl, ⟨fun b hb => s1.gla b (List.mem_of_mem_erase hb), s1.tb, fun p hp => (List.mem_erase_of_ne (tabs_ne s1.tb hpa pla p hp)).mpr (s1.tha p hp)⟩, List.nodup_cons.mpr ⟨fun z => (s1.nd.mem_erase_iff.mp z).1 rfl, s1.nd.erase _⟩, by rw [hsame]; exact ho', by rw [hsame]; exact r1, ?_⟩
      · cases qf : f t ds with
        | bad =>
          rw [qf] at p1
          exact p1.elim
        | ok t' d =>
          rw [qf] at p1
          intro v H' x g tb' o' rv
          rw [hsame, hsame] at x
          rw [hsame] at o' rv
          obtain ⟨s2, r2⟩ := s1.put' q1 hs x (fun b hb hne => g b ((List.mem_erase_of_ne hne).mpr hb)) tb' o'
          exact p1 H' r2 s2 v (by rw [owns_setO q1]; exact rv)
    · exact p1.elim
  · exact p.elim
end
structure DefQ (P : Program) (w : World) (K : PySem.W.Frag) (mg : Str → Option Value) (base : Heap) (x : Str) (lv n : Nat) (f : FQ) : Prop where
  ex : ∃ (fa : Addr) (fd : FuncData) (ps : List Str), FnOk P w K mg base (CX P w) lv fa fd ps (spQ K n f) ∧ mg x = some (.ref fa) ∧ PySem.W.keepIn K (.ref fa) = true ∧ Binds K fd ps []
section
variable {X : Cx} {P : List (Nat × Addr)} {W : WX} {o : Expr} {es : List Expr} {ml : M (List T)} {p pos : Pos} {i : Nat}
theorem dd_fnQ {x : Str} {lv n : Nat} {f : FQ} (D : DefQ X.prog X.w X.K X.mg X.base x lv n f) (hr : Room lv X.A) (lt : Lets X W) (hn : ∀ {e : Env} {ds : List T} {e1 : Env}, ml e = .ok ds e1 → ds.length = n) (ho : PE X o (tVar i)) (ha : PA X es (tDA X.K P W ml)) (hg : Gl X x := by rfl) (hdb : (x == ("__debug__" : Str)) = false := by decide)
    (hs : starEach (o :: es) X.env = (false, eval o X.env) :: starEach es X.env := by rfl) (hpl : (backTo pos (starEach es X.env)).any (·.1) = false := by rfl) : PE X (.Call (.Name x p) (o :: es) [] pos) (tD X.K P W (mFQ f i ml)) := by
  obtain ⟨fa, fd, ps, F1, g, kp, bd⟩ := D.ex
  exact de_fnQ (fun h => hn h) ho ha hs fun h => pe_callS F1 hr hg g kp bd lt h hdb hs hpl
end
end TD

end
section

/-! TD17: dicts: max, min, sorted of keys; walks over keys and pairs; own dicts -/
namespace TD
open PySem PySem.Spec PyProof.Rows L2 Evl
variable [HasT]
/-! max(d), min(d) of whole numbers as keys -/
section
variable {X : Cx}
/-- the walk over a dict's keys, whole numbers -/
theorem keys_walk {pins : List (Addr × Obj)} {s : Shared} {σ : L2.St} {H : Hp} {a : Addr} {kvs : List (Key × V)} {ms : List Int} (hc : X.calm = true) (I : Inv X pins σ H s) (hd : Rd H a (.dK kvs)) (hk : kvs.map (·.1) = ms.map Sum.inl) (h0 : ms ≠ []) {E : Value → Shared → Prop} {R : Value → Shared → Prop}
    (h : ∀ (n : Nat) (N : Addr) (Pk : Nat → Value → Prop) (St : Nat → Heap → Prop), n = ms.length → Walks X.prog X.w X.A.in1 s.heap.objs.size [s.heap.objs.size, a] [s.heap.objs.size] n Pk St → (∀ i v, Pk i v → ∃ t, v = Value.int (ms.getD i 0) t) →
      ∀ h1 : Heap, St 0 h1 → (∀ b ∈ [s.heap.objs.size, a], b < h1.objs.size) → (∀ b o, s.heap.get? b = some o → h1.get? b = some o ∧ b ≠ s.heap.objs.size) → R (.ref s.heap.objs.size) { s with heap := h1 }) : wpAny (model X.prog X.w) X.A.in1 (pyIter (.ref a)) R E s := by
  obtain ⟨_, hsys, vs, rel, dof⟩ := dk_rd I.hok hd
  obtain ⟨ep, dat⟩ := dof.dictAt
  have ho : ∃ o, s.heap.get? a = some o := by
    obtain ⟨ob, _, e, _⟩ := id dat
    exact ⟨ob, e⟩
  obtain ⟨oa, hoa⟩ := ho
  have la : a < s.heap.objs.size := Heap.lt_size hoa
  have ek : vs.map (·.1) = ms.map Sum.inl := (KV.keys rel).symm.trans hk
  have el : vs.length = ms.length := by
    have q := congrArg List.length ek
    simpa only [List.length_map] using q
  refine wpAny_pyIter_dict (knd := mixKind X.prog X.w) hsys dat ?_
  refine h vs.length a _ _ el (Walks.dictKeys (knd := mixKind X.prog X.w) (A := X.A.in1) (I.ok.hd hc) s.heap.objs.size a (Nat.ne_of_lt la) vs ep) (fun i v ⟨k, x, q1, q2⟩ => ?_) _
    ⟨⟨_, Heap.get?_push_size _ rfl, rfl, rfl⟩, dat.keep fun b u e => Heap.get?_push_of_some _ e⟩ (fun b hb => ?_) fun b o e => ⟨Heap.get?_push_of_some _ e, Nat.ne_of_lt (Heap.lt_size e)⟩
  · have z : (vs.map (·.1))[i]? = some k := by rw [List.getElem?_map, q1]; rfl
    rw [ek, List.getElem?_map] at z
    obtain ⟨j, z1, z2⟩ := Option.map_eq_some_iff.mp z
    subst z2
    obtain ⟨t, z3⟩ := Value.isInt_shape (k := j) (v := v) (show Value.isInt j v = true from q2)
    exact ⟨t, by rw [z3, List.getD_eq_getElem?_getD, z1]; rfl⟩
  · rw [Heap.size_push]
    rcases List.mem_cons.mp hb with z | z
    · rw [z]; exact Nat.lt_succ_self _
    · rw [List.mem_singleton.mp z]; exact Nat.lt_succ_of_lt la
abbrev rMaxK : List V → Hp → VK → Prop := fun xs H Q => ∃ (a : Addr) (kvs : List (Key × V)) (ms : List Int), xs = [V.ref a] ∧ Rd H a (.dK kvs) ∧ kvs.map (·.1) = ms.map Sum.inl ∧ ms ≠ [] ∧ ∀ m, m ∈ ms → (∀ j ∈ ms, j ≤ m) → Q (.int m) H
abbrev rMinK' : List V → Hp → VK → Prop := fun xs H Q => ∃ (a : Addr) (kvs : List (Key × V)) (ms : List Int), xs = [V.ref a] ∧ Rd H a (.dK kvs) ∧ kvs.map (·.1) = ms.map Sum.inl ∧ ms ≠ [] ∧ ∀ m, m ∈ ms → (∀ j ∈ ms, m ≤ j) → Q (.int m) H
theorem getD_mem {ms : List Int} {i : Nat} (h : i < ms.length) : ms.getD i 0 ∈ ms := by
  rw [List.getD_eq_getElem?_getD, List.getElem?_eq_getElem h]
  exact List.getElem_mem h
theorem cr_maxK (hc : X.calm = true) : CallR X (.builtin "max") rMaxK := by
  intro pins s σ H xs us Q I r ⟨a, kvs, ms, ex, hd, hk, h0, q⟩
  subst ex
  rw [Vals.ref1 r]
  have hp : 0 < ms.length := List.length_pos_iff.mpr h0
  refine call_max_walk (keys_walk hc I hd hk h0 fun n N Pk St en W hv h1 st fp kp => ⟨_, _, _, n, Pk, St, _, rfl, W, st, fp, by omega, CmpOf.ints_gt (fun i => ms.getD i 0) hv, fun v h' tk hP hkk => ?_⟩)
  obtain ⟨t, rfl⟩ := hv _ v hP
  obtain ⟨b1, b2⟩ := argBest_gt (fun i => ms.getD i 0) (n - 1)
  refine ⟨.int _, H, I.kept (t' := tk) fun b u e => hkk b u (fun z => (kp b u e).2 (List.mem_singleton.mp z)) (kp b u e).1, ⟨t, rfl⟩, q _ (getD_mem (by omega)) fun j hj => ?_⟩
  obtain ⟨i, hi, e⟩ := List.mem_iff_getElem.mp hj
  have e2 : ms.getD i 0 = j := by rw [List.getD_eq_getElem?_getD, List.getElem?_eq_getElem hi, ← e]; rfl
  rw [← e2]
  exact b2 i (by omega)
theorem cr_minK' (hc : X.calm = true) : CallR X (.builtin "min") rMinK' := by
  intro pins s σ H xs us Q I r ⟨a, kvs, ms, ex, hd, hk, h0, q⟩
  subst ex
  rw [Vals.ref1 r]
  have hp : 0 < ms.length := List.length_pos_iff.mpr h0
  refine call_min_walk (keys_walk hc I hd hk h0 fun n N Pk St en W hv h1 st fp kp => ⟨_, _, _, n, Pk, St, _, rfl, W, st, fp, by omega, CmpOf.ints_lt (fun i => ms.getD i 0) hv, fun v h' tk hP hkk => ?_⟩)
  obtain ⟨t, rfl⟩ := hv _ v hP
  obtain ⟨b1, b2⟩ := argBest_lt (fun i => ms.getD i 0) (n - 1)
  refine ⟨.int _, H, I.kept (t' := tk) fun b u e => hkk b u (fun z => (kp b u e).2 (List.mem_singleton.mp z)) (kp b u e).1, ⟨t, rfl⟩, q _ (getD_mem (by omega)) fun j hj => ?_⟩
  obtain ⟨i, hi, e⟩ := List.mem_iff_getElem.mp hj
  have e2 : ms.getD i 0 = j := by rw [List.getD_eq_getElem?_getD, List.getElem?_eq_getElem hi, ← e]; rfl
  rw [← e2]
  exact b2 i (by omega)
end
end TD

end
section

/-! TD18: dicts that are values: max, min, sorted, walks -/
namespace TD
open PySem PySem.Spec PyProof.Rows L2 Evl
variable [HasT]
section
variable {K : PySem.W.Frag} {H : Hp}
def keyIs' (ps : List (T × T)) : Option (List Int) := intsT (ps.map (·.1))
theorem intsT_int : ∀ {ds : List T} {ns : List Int}, intsT ds = some ns → ds = ns.map T.int
  | [], _, h => by cases h; rfl
  | .int i :: ds, ns, h => by
    have h' : (intsT ds).map (i :: ·) = some ns := h
    cases q : intsT ds with
    | none => rw [q] at h'; cases h'
    | some ms =>
      rw [q] at h'
      cases h'
      rw [intsT_int q]
      rfl
  | .none :: _, _, h => by cases h
  | .bool _ :: _, _, h => by cases h
  | .str _ :: _, _, h => by cases h
  | .list _ :: _, _, h => by cases h
  | .tuple _ :: _, _, h => by cases h
  | .dict _ :: _, _, h => by cases h
theorem kD_ints : ∀ {ks : List Key} {ns : List Int}, ks.map kD = ns.map T.int → ks = ns.map Sum.inl
  | [], [], _ => rfl
  | [], _ :: _, h => by cases h
  | _ :: _, [], h => by cases h
  | .inl i :: ks, n :: ns, h => by
    rw [List.map_cons, List.map_cons] at h
    injection h with h1 h2
    cases h1
    rw [kD_ints h2]
    rfl
  | .inr i :: ks, n :: ns, h => by
    rw [List.map_cons, List.map_cons] at h
    injection h with h1 h2
    cases h1
theorem fst_zip {α β : Type} {xs : List α} {ys : List β} (h : xs.length = ys.length) : (xs.zip ys).map (·.1) = xs := List.map_fst_zip (Nat.le_of_eq h)
/-- a dict that is a value, its keys whole numbers -/
theorem keys_of {S : List Addr} {v : V} {ps : List (T × T)} {ns : List Int} (r : Rp K (hide S H) v (.dict ps)) (h : keyIs' ps = some ns) : ∃ a kvs, v = .ref a ∧ Rd H a (.dK kvs) ∧ kvs.map (·.1) = ns.map Sum.inl := by
  cases r with
  | @dK a o ks vs ds q l r =>
    refine ⟨a, _, rfl, .inr ⟨o, hide_ex _ _ _ _ q⟩, ?_⟩
    rw [fst_zip l]
    have e := intsT_int h
    rw [fst_zip (by rw [List.length_map, l, r.length])] at e
    exact kD_ints e
  | @dT a o ks vs ds n q l r =>
    have e := intsT_int h
    rw [fst_zip (by rw [List.length_map, l, r.length])] at e
    cases ks with
    | nil => exact absurd rfl n
    | cons k ks =>
      cases ns with
      | nil => cases e
      | cons i ns =>
        rw [List.map_cons, List.map_cons] at e
        injection e with e1 e2
        cases e1
def maxKT : T → Option T
  | .dict ps => (keyIs' ps).bind fun ns => ns.max?.map .int
  | .list ds => (intsT ds).bind fun ns => ns.max?.map .int
  | _ => none
def minKT : T → Option T
  | .dict ps => (keyIs' ps).bind fun ns => ns.min?.map .int
  | .list ds => (intsT ds).bind fun ns => ns.min?.map .int
  | _ => none
theorem max_is {ns : List Int} {m k : Int} (h : ns.max? = some m) (h1 : k ∈ ns) (h2 : ∀ j ∈ ns, j ≤ k) : k = m := by
  have q := List.max?_eq_some_iff.mp h
  exact Int.le_antisymm (q.2 k h1) (h2 m q.1)
theorem min_is {ns : List Int} {m k : Int} (h : ns.min? = some m) (h1 : k ∈ ns) (h2 : ∀ j ∈ ns, k ≤ j) : k = m := by
  have q := List.min?_eq_some_iff.mp h
  exact Int.le_antisymm (h2 m q.1) (q.2 k h1)
theorem max_ne {ns : List Int} {m : Int} (h : ns.max? = some m) : ns ≠ [] := fun z => by
  rw [z] at h
  cases h
theorem min_ne {ns : List Int} {m : Int} (h : ns.min? = some m) : ns ≠ [] := fun z => by
  rw [z] at h
  cases h
abbrev rMaxA (K : PySem.W.Frag) : List V → Hp → VK → Prop := fun xs H Q => rMaxK xs H Q ∨ rMax K xs H Q
abbrev rMinA (K : PySem.W.Frag) : List V → Hp → VK → Prop := fun xs H Q => rMinK' xs H Q ∨ rMin K xs H Q
theorem cr_maxA {X : Cx} (hc : X.calm = true) : CallR X (.builtin "max") (rMaxA X.K) := (cr_maxK hc).or (cr_max hc)
theorem cr_minA {X : Cx} (hc : X.calm = true) : CallR X (.builtin "min") (rMinA X.K) := (cr_minK' hc).or (cr_min hc)
theorem bind_some2 {α β : Type} {o : Option α} {f : α → Option β} {S : List Addr} {Q : VK} {g : β → T} (h : PostO K S Q H (o.bind fun a => (f a).map g)) : ∃ a b, o = some a ∧ f a = some b ∧ PostO K S Q H (some (g b)) := by
  cases o with
  | none => exact nopost h
  | some a =>
    rw [Option.bind_some] at h
    cases q : f a with
    | none => rw [q] at h; exact nopost h
    | some b =>
      rw [q] at h
      exact ⟨a, b, rfl, q, h⟩
theorem cad_maxA : CaD K (rMaxA K) (un1 maxKT) := cad_un fun S H v d Q w r p => by
  cases d with
  | dict ps =>
    obtain ⟨ns, m, h1, h2, p⟩ := bind_some2 p
    obtain ⟨a, kvs, rfl, hd, hk⟩ := keys_of r h1
    exact .inl ⟨a, kvs, ns, rfl, hd, hk, max_ne h2, fun k h3 h4 => by rw [max_is h2 h3 h4]; exact ret p rfl (.int _)⟩
  | list ds =>
    obtain ⟨ns, m, h1, h2, p⟩ := bind_some2 p
    cases r with
    | lst q r =>
      obtain ⟨e1, _⟩ := ints_of r h1
      exact .inr ⟨_, ns, rfl, by rw [← e1]; exact sq_of (hide_ex _ _ _ _ q), List.length_pos_iff.mpr (max_ne h2), fun k h3 h4 => by rw [max_is h2 h3 h4]; exact ret p rfl (.int _)⟩
  | _ => exact nopost p
theorem cad_minA : CaD K (rMinA K) (un1 minKT) := cad_un fun S H v d Q w r p => by
  cases d with
  | dict ps =>
    obtain ⟨ns, m, h1, h2, p⟩ := bind_some2 p
    obtain ⟨a, kvs, rfl, hd, hk⟩ := keys_of r h1
    exact .inl ⟨a, kvs, ns, rfl, hd, hk, min_ne h2, fun k h3 h4 => by rw [min_is h2 h3 h4]; exact ret p rfl (.int _)⟩
  | list ds =>
    obtain ⟨ns, m, h1, h2, p⟩ := bind_some2 p
    cases r with
    | lst q r =>
      obtain ⟨e1, _⟩ := ints_of r h1
      exact .inr ⟨_, ns, rfl, by rw [← e1]; exact sq_of (hide_ex _ _ _ _ q), List.length_pos_iff.mpr (min_ne h2), fun k h3 h4 => by rw [min_is h2 h3 h4]; exact ret p rfl (.int _)⟩
  | _ => exact nopost p
/-! sorted(d) -/
def sortI (ns : List Int) : List Int := ns.mergeSort fun a b => decide (a ≤ b)
theorem sortI_perm (ns : List Int) : (sortI ns).Perm ns := List.mergeSort_perm ns _
theorem sortI_is {ns ys : List Int} (p : ys.Perm ns) (s : ys.Pairwise (· ≤ ·)) : ys = sortI ns := by
  have q : (sortI ns).Pairwise (· ≤ ·) := (List.pairwise_mergeSort (le := fun a b : Int => decide (a ≤ b)) (fun a b c h1 h2 => decide_eq_true (Int.le_trans (of_decide_eq_true h1) (of_decide_eq_true h2))) (fun a b => by
    rcases Int.le_total a b with h | h
    · rw [decide_eq_true h]; rfl
    · rw [decide_eq_true h, Bool.or_true]) ns).imp fun h => of_decide_eq_true h
  exact List.Perm.eq_of_pairwise (fun a b _ _ h1 h2 => Int.le_antisymm h1 h2) s q (p.trans (sortI_perm ns).symm)
def sortKT : T → Option T
  | .dict ps => (keyIs' ps).bind fun ns => if ns.length < 64 then some (.list ((sortI ns).map .int)) else none

  | _ => none
abbrev rSortK : List V → Hp → VK → Prop := fun xs H Q => ∃ (a : Addr) (kvs : List (Key × V)) (ks : List Int), xs = [V.ref a] ∧ Rd H a (.dK kvs) ∧ kvs.map (·.1) = ks.map Sum.inl ∧ ks.length < 64 ∧ ∀ (ys : List Int) (p : Addr), ys.Perm ks → ys.Pairwise (· ≤ ·) → H p = none → Q (.ref p) (upd H p (.lst (ys.map V.int)))
theorem rpA_ints {H : Hp} : ∀ ns : List Int, RpA K H (ns.map V.int) (ns.map .int)
  | [] => .nil
  | n :: ns => .cons (.int n) (rpA_ints ns)
theorem cad_sortK : CaD K rSortK (un1 sortKT) := cad_un fun S H v d Q w r p => by
  cases d with
  | dict ps =>
    have p' : PostO K S Q H ((keyIs' ps).bind fun ns => if ns.length < 64 then some (.list ((sortI ns).map .int)) else none) := p
    cases h1 : keyIs' ps with
    | none => rw [h1] at p'; exact nopost p'
    | some ns =>
      rw [h1, Option.bind_some] at p'
      by_cases hz : ns.length < 64
      · obtain ⟨a, kvs, rfl, hd, hk⟩ := keys_of r h1
        exact ⟨a, kvs, ns, rfl, hd, hk, hz, fun ys b hp hs hb => by rw [sortI_is hp hs]; exact retL w p' (if_pos hz) hb (rpA_ints _)⟩
      · rw [if_neg hz] at p'
        exact nopost p'
  | _ => exact nopost p
end
end TD

end
section

/-! TD19: walks over dicts; dicts made, changed -/
namespace TD
open PySem PySem.Spec PyProof.Rows L2 Evl
variable [HasT]
theorem rp_kV {K : PySem.W.Frag} {H : Hp} : ∀ k : Key, Rp K H (kV k) (kD k)
  | .inl i => .int i
  | .inr x => .str x
section
variable {K : PySem.W.Frag} {G : List Addr} {σ : Sg} {H : Hp} {e : Env} {a : Addr} {o : Obj} {ks : List Key} {vs : List V} {ds : List T}
theorem zip_at {α β : Type} {xs : List α} {ys : List β} {i : Nat} {x : α} {y : β} (h : (xs.zip ys)[i]? = some (x, y)) : xs[i]? = some x ∧ ys[i]? = some y := List.getElem?_zip_eq_some.mp h
theorem wk_keys (q : hide (G ++ owns e σ) H a = some (.frz o (.dK (ks.zip vs)))) (l : ks.length = vs.length) : Wk K G σ H e (ks.map kD) (Itk a o (ks.zip vs)) := fun i S H' x w => by
  have h' : H' a = some (.frz o (.dK (ks.zip vs))) := hide_ex _ _ _ _ (x _ _ q)
  have el : (ks.zip vs).length = ks.length := by rw [zip_len l, l]
  refine ⟨fun d hd => ?_, fun hl _ => ⟨h', by rw [el]; rwa [List.length_map] at hl⟩⟩
  rw [List.getElem?_map] at hd
  obtain ⟨k, hk, rfl⟩ := Option.map_eq_some_iff.mp hd
  have hi : i < ks.length := (List.getElem?_eq_some_iff.mp hk).1
  refine ⟨⟨h', by rw [el]; exact hi⟩, fun v H2 ⟨e2, k2, v2, z, ev⟩ => ?_⟩
  subst e2
  have e3 := (zip_at z).1.symm.trans hk
  cases e3
  rw [ev]
  exact ⟨Ex.refl _, rp_kV k⟩
theorem wk_items (q : hide (G ++ owns e σ) H a = some (.frz o (.dK (ks.zip vs)))) (l : ks.length = vs.length) (r : RpA K (hide (G ++ owns e σ) H) vs ds) : Wk K G σ H e (((ks.map kD).zip ds).map fun p => .tuple [p.1, p.2]) (Iti a o (ks.zip vs)) := fun i S H' x w => by
  have h' : H' a = some (.frz o (.dK (ks.zip vs))) := hide_ex _ _ _ _ (x _ _ q)
  have el : (ks.zip vs).length = ks.length := by rw [zip_len l, l]
  have ed : ((ks.map kD).zip ds).length = ks.length := by rw [zip_len (by rw [List.length_map, l, r.length]), ← r.length, l]
  refine ⟨fun d hd => ?_, fun hl _ => ⟨h', by rw [el]; rwa [List.length_map, ed] at hl⟩⟩
  rw [List.getElem?_map] at hd
  obtain ⟨⟨d1, d2⟩, hk, rfl⟩ := Option.map_eq_some_iff.mp hd
  have hi : i < ks.length := by rw [← ed]; exact (List.getElem?_eq_some_iff.mp hk).1
  obtain ⟨z1, z2⟩ := zip_at hk
  obtain ⟨v, hv, rv⟩ := r.at z2
  refine ⟨⟨h', by rw [el]; exact hi⟩, fun y H2 ⟨b, k2, v2, z, ev, hb, eh⟩ => ?_⟩
  subst eh
  obtain ⟨z3, z4⟩ := zip_at z
  have e4 := z4.symm.trans hv
  cases e4
  rw [List.getElem?_map, z3] at z1
  cases z1
  rw [ev]
  exact ⟨Ex.new hb, new_tup w hb (.cons (rp_kV k2) (.cons (rv.mono x) .nil))⟩
end
def keysD : T → Option (List T)
  | .list xs => some xs
  | .tuple xs => some xs
  | .dict ps => if flatKs ps = true then some (ps.map (·.1)) else none
  | _ => none
/-- over a list, a tuple, a dict's keys -/
def iSeqK (m : M T) : M (List T) := fun e => (m e).bind fun d e => ofO (keysD d) e
def itemsD : T → Option (List T)
  | .dict ps => if flatKs ps = true then some (ps.map fun p => .tuple [p.1, p.2]) else none
  | _ => none
def iItm (m : M T) : M (List T) := fun e => (m e).bind fun d e => ofO (itemsD d) e
section
variable {X : Cx} {P : List (Nat × Addr)} {W : WX} {tg e : Expr} {m : M T} {pos p : Pos}
theorem di_seqK (he : PE X e (tD X.K P W m)) : PI X tg e (tI X.K P W (iSeqK m)) := (((pi_list he).or (pi_tup he)).or (pi_keys he)).weak fun σ H Q ⟨G, en, s, p⟩ => by
  have p0 : Ps X.K P W (fun ds e1 H1 => ∀ J, Wk X.K G σ H1 e1 ds J → Q J H1) G σ H en ((m en).bind fun d e => ofO (keysD d) e) := p
  by_cases hd : ∃ ps e1, m en = .ok (.dict ps) e1
  · obtain ⟨ps0, e0, hl⟩ := hd
    refine .inr (stepq s p0 fun d e1 v H1 hq x1 s1 r1 p1 => ?_)
    rw [hl] at hq
    cases hq
    cases r1 with
    | @dK a o ks vs ds q l r =>
      have p2 : Ps X.K P W (fun ds e1 H1 => ∀ J, Wk X.K G σ H1 e1 ds J → Q J H1) G σ H1 e0 (ofO (if flatKs ((ks.map kD).zip ds) = true then some (((ks.map kD).zip ds).map (·.1)) else none) e0) := p1
      rw [if_pos (flat_k ks ds), fst_zip (by rw [List.length_map, l, r.length])] at p2
      exact ⟨_, o, rfl, .inl ⟨_, hide_ex _ _ _ _ q, p2 H1 .refl s1 _ (wk_keys q l)⟩⟩
    | @dT a o ks vs ds n q l r =>
      have p2 : Ps X.K P W (fun ds e1 H1 => ∀ J, Wk X.K G σ H1 e1 ds J → Q J H1) G σ H1 e0 (ofO (if flatKs ((ks.map fun k => T.tuple (k.map kD)).zip ds) = true then some (((ks.map fun k => T.tuple (k.map kD)).zip ds).map (·.1)) else none) e0) := p1
      rw [if_neg (by rw [flat_t n l r]; decide)] at p2
      exact p2.elim
  · by_cases hl : ∃ ds e1, m en = .ok (.tuple ds) e1
    · obtain ⟨ds0, e0, hl⟩ := hl
      refine .inl (.inr (stepq s p0 fun d e1 v H1 hq x1 s1 r1 p1 => ?_))
      rw [hl] at hq
      cases hq
      cases r1 with
      | tup q r => exact ⟨_, rfl, ⟨_, st_of (hide_ex _ _ _ _ q)⟩, p1 H1 .refl s1 _ (wk_tup q r)⟩
    · refine .inl (.inl (stepq s p0 fun d e1 v H1 hq x1 s1 r1 p1 => ?_))
      cases d with
      | list ds =>
        cases r1 with
        | lst q r => exact ⟨_, rfl, ⟨_, sq_of (hide_ex _ _ _ _ q)⟩, p1 H1 .refl s1 _ (wk_list (sq_of q) r)⟩
      | tuple ds => exact absurd ⟨_, _, hq⟩ hl
      | dict ps => exact absurd ⟨_, _, hq⟩ hd
      | _ => exact p1.elim
theorem di_items {elts : List Expr} {kk : Nat} {tpos apos cpos : Pos} (he : PE X e (tD X.K P W m)) (hbase : attributeBase e "items" X.env (eval e X.env) = eval e X.env := by rfl) (hline : (apos.endLine == cpos.line) = true := by rfl) :
    PI X (.Tuple elts kk tpos) (.Call (.Attribute e "items" apos) [] [] cpos) (tI X.K P W (iItm m)) := (pi_items he hbase hline).weak fun σ H Q ⟨G, en, s, p⟩ => by
  have p0 : Ps X.K P W (fun ds e1 H1 => ∀ J, Wk X.K G σ H1 e1 ds J → Q J H1) G σ H en ((m en).bind fun d e => ofO (itemsD d) e) := p
  refine stepq s p0 fun d e1 v H1 hq x1 s1 r1 p1 => ?_
  cases d with
  | dict ps =>
    cases r1 with
    | @dK a o ks vs ds q l r =>
      have p2 : Ps X.K P W (fun ds e1 H1 => ∀ J, Wk X.K G σ H1 e1 ds J → Q J H1) G σ H1 e1 (ofO (if flatKs ((ks.map kD).zip ds) = true then some (((ks.map kD).zip ds).map fun p => .tuple [p.1, p.2]) else none) e1) := p1
      rw [if_pos (flat_k ks ds)] at p2
      exact ⟨_, o, _, rfl, hide_ex _ _ _ _ q, p2 H1 .refl s1 _ (wk_items q l r)⟩
    | @dT a o ks vs ds n q l r =>
      have p2 : Ps X.K P W (fun ds e1 H1 => ∀ J, Wk X.K G σ H1 e1 ds J → Q J H1) G σ H1 e1 (ofO (if flatKs ((ks.map fun k => T.tuple (k.map kD)).zip ds) = true then some (((ks.map fun k => T.tuple (k.map kD)).zip ds).map fun p => .tuple [p.1, p.2]) else none) e1) := p1
      rw [if_neg (by rw [flat_t n l r]; decide)] at p2
      exact p2.elim
  | _ => exact p1.elim
end
/-! ### a new dict that is a value: locked for good -/
theorem pe_lockp {X : Cx} {e : Expr} {t : TE} (h : PE X e t) : PE X e (fun σ H Q => t σ H fun v H1 => ∃ d u, v = .ref d ∧ H1 d = some u ∧ Mut (some u) ∧ ∀ od, Q v (upd H1 d (.frz od u))) := ⟨fun pins s σ H Q I q => thn (h.run pins s σ H _ I q) fun u s1 ⟨x, H1, I1, rx, d, o, ex, hd, mu, k⟩ => by
  obtain ⟨od, I2⟩ := I1.lock hd mu
  exact ⟨x, _, I2, rx, k od⟩⟩
/-- .. of an expression that makes something new: a list stays as it is -/
theorem d_val {X : Cx} {P : List (Nat × Addr)} {W : WX} {e : Expr} {m : M T} (h : PE X e (tDF X.K P W m)) (hm : ∀ en d e1, m en = .ok d e1 → ∃ ps, d = .dict ps) : PE X e (tD X.K P W m) := (pe_lockp h).weak fun σ H Q ⟨G, en, s, p⟩ => ⟨G, en, s, by
  cases q : m en with
  | ex c fs e1 => rw [q] at p; exact p
  | bad => rw [q] at p; exact p
  | ok d e1 =>
    rw [q] at p
    obtain ⟨ps, rfl⟩ := hm en d e1 q
    intro a H' x g s1 o
    have nin : a ∉ G ++ owns e1 σ := s1.notin
    have sub : ∀ u : HO, Ex (hide (a :: (G ++ owns e1 σ)) H') (hide (G ++ owns e1 σ) (upd H' a u)) := fun u b w hb => by
      unfold hide at hb ⊢
      split at hb
      · cases hb
      · rename_i n
        rw [if_neg fun z => n (List.mem_cons_of_mem _ z), hT_upd fun z => n (by rw [z]; exact List.mem_cons_self)]
        exact hb
    obtain ⟨oa, hpa, pla⟩ := plain_own o
    have s2 : ∀ u : HO, SD X.K P G σ (upd H' a u) e1 := fun u => ⟨s1.sa.mono (sub u) fun b hb w hw => by
        rw [upd_ne fun z => nin (by rw [← z]; exact List.mem_append_right _ hb)]
        exact hw, (List.nodup_cons.mp s1.nd).2, fun b hb => by
        rw [upd_ne fun z => nin (by rw [← z]; exact List.mem_append_left _ hb)]
        exact s1.gl b (List.mem_cons_of_mem _ hb), s1.pr, tabs_upd s1.tb hpa pla, fun p hp => (List.mem_cons.mp (s1.th p hp)).resolve_left (tabs_ne s1.tb hpa pla p hp)⟩
    have r2 : ∀ u : HO, Rel G σ H en σ (upd H' a u) e1 := fun u => ⟨x.trans (sub u), fun b hb w nw hw => by
      rw [upd_ne fun z => nin (by rw [← z]; exact List.mem_append_left _ hb)]
      exact g b hb w nw hw⟩
    cases o with
    | dK h1 l r => exact ⟨a, _, rfl, h1, trivial, fun od => p _ (r2 _) (s2 _) _ (.dK (hide_at upd_same nin) l (r.mono (sub _)))⟩
    | dT n h1 l r => exact ⟨a, _, rfl, h1, trivial, fun od => p _ (r2 _) (s2 _) _ (.dT n (hide_at upd_same nin) l (r.mono (sub _)))⟩⟩
end TD

end
section

/-! TD20: dicts changed, copied, displayed; a, b = e; x[i] = e -/
namespace TD
open PySem PySem.Spec PyProof.Rows L2 Evl
variable [HasT]
inductive KVR (K : PySem.W.Frag) (H : Hp) : List (Key × V) → List (T × T) → Prop
  | nil : KVR K H [] []
  | cons {k : Key} {v : V} {d : T} {kvs : List (Key × V)} {ps : List (T × T)} : Rp K H v d → KVR K H kvs ps → KVR K H ((k, v) :: kvs) ((kD k, d) :: ps)
section
variable {K : PySem.W.Frag} {H : Hp}
theorem kvr_of : ∀ {ks : List Key} {vs : List V} {ds : List T}, ks.length = vs.length → RpA K H vs ds → KVR K H (ks.zip vs) ((ks.map kD).zip ds)
  | [], [], _, _, .nil => .nil
  | k :: ks, _, _, l, .cons r t => .cons r (kvr_of (by simpa using l) t)
  | [], _ :: _, _, l, _ => by cases l
  | _ :: _, [], _, l, _ => by cases l
theorem KVR.zip : ∀ {kvs : List (Key × V)} {ps : List (T × T)}, KVR K H kvs ps → ∃ (ks : List Key) (vs : List V) (ds : List T), kvs = ks.zip vs ∧ ps = (ks.map kD).zip ds ∧ ks.length = vs.length ∧ RpA K H vs ds
  | _, _, .nil => ⟨[], [], [], rfl, rfl, rfl, .nil⟩
  | _, _, .cons (k := k) (v := v) (d := d) r t => by
    obtain ⟨ks, vs, ds, e1, e2, e3, e4⟩ := KVR.zip t
    exact ⟨k :: ks, v :: vs, d :: ds, by rw [e1]; rfl, by rw [e2]; rfl, congrArg Nat.succ e3, .cons r e4⟩
def putD (ps : List (T × T)) (k : Key) (d : T) : List (T × T) :=
  if (ps.any fun p => decide (keyT p.1 = some k)) = true then ps.map fun p => if keyT p.1 = some k then (p.1, d) else p else ps ++ [(kD k, d)]
theorem KVR.any {k : Key} : ∀ {kvs : List (Key × V)} {ps : List (T × T)}, KVR K H kvs ps → (kvs.any fun kv => decide (kv.1 = k)) = ps.any fun p => decide (keyT p.1 = some k)
  | _, _, .nil => rfl
  | _, _, .cons (k := k1) r t => by
    rw [List.any_cons, List.any_cons, KVR.any t]
    congr 1
    show decide (k1 = k) = decide (keyT (kD k1) = some k)
    rw [keyT_k]
    by_cases e : k1 = k
    · rw [decide_eq_true e, decide_eq_true (by rw [e])]
    · rw [decide_eq_false e, decide_eq_false fun z => e (Option.some.inj z)]
theorem KVR.repl {k : Key} {v : V} {d : T} (rv : Rp K H v d) : ∀ {kvs : List (Key × V)} {ps : List (T × T)}, KVR K H kvs ps → KVR K H (kvs.map fun kv => if kv.1 = k then (kv.1, v) else kv) (ps.map fun p => if keyT p.1 = some k then (p.1, d) else p)
  | _, _, .nil => .nil
  | _, _, .cons (k := k1) (v := v1) (d := d1) r t => by
    rw [List.map_cons, List.map_cons]
    by_cases e : k1 = k
    · rw [if_pos (show (k1, v1).1 = k from e), if_pos (show keyT (kD k1, d1).1 = some k by show keyT (kD k1) = _; rw [keyT_k, e])]
      exact .cons rv (KVR.repl rv t)
    · rw [if_neg (show ¬ (k1, v1).1 = k from e), if_neg (show ¬ keyT (kD k1, d1).1 = some k by show ¬ keyT (kD k1) = _; rw [keyT_k]; exact fun z => e (Option.some.inj z))]
      exact .cons r (KVR.repl rv t)
theorem KVR.snoc {k : Key} {v : V} {d : T} (rv : Rp K H v d) : ∀ {kvs : List (Key × V)} {ps : List (T × T)}, KVR K H kvs ps → KVR K H (kvs ++ [(k, v)]) (ps ++ [(kD k, d)])
  | _, _, .nil => .cons rv .nil
  | _, _, .cons r t => .cons r (KVR.snoc rv t)
theorem KVR.put {k : Key} {v : V} {d : T} {kvs : List (Key × V)} {ps : List (T × T)} (r : KVR K H kvs ps) (rv : Rp K H v d) : KVR K H (putK kvs k v) (putD ps k d) := by
  unfold putK putD
  rw [r.any]
  by_cases h : (ps.any fun p => decide (keyT p.1 = some k)) = true
  · rw [if_pos h, if_pos h]
    exact r.repl rv
  · rw [if_neg h, if_neg h]
    exact r.snoc rv
theorem KVR.length {kvs : List (Key × V)} {ps : List (T × T)} (r : KVR K H kvs ps) : kvs.length = ps.length := by
  induction r with
  | nil => rfl
  | cons _ _ ih => exact congrArg Nat.succ ih
theorem KVR.flat {kvs : List (Key × V)} {ps : List (T × T)} (r : KVR K H kvs ps) : flatKs ps = true := by
  cases r with
  | nil => rfl
  | cons _ _ => rename_i k _ _ _ _ _ _; cases k <;> rfl
theorem own_kvr {H0 : Hp} {a : Addr} {ps : List (T × T)} (h : Own K H0 H a (.dict ps)) (f : flatKs ps = true) : ∃ kvs, H a = some (.dK kvs) ∧ KVR K H0 kvs ps := by
  cases h with
  | dK h l r => exact ⟨_, h, kvr_of l r⟩
  | dT n h l r => rw [flat_t n l r] at f; cases f
theorem kvr_own {H0 : Hp} {a : Addr} {kvs : List (Key × V)} {ps : List (T × T)} (h : H a = some (.dK kvs)) (r : KVR K H0 kvs ps) : Own K H0 H a (.dict ps) := by
  obtain ⟨ks, vs, ds, rfl, rfl, l, ra⟩ := r.zip
  exact .dK h l ra
end
/-! d[k] = v, d own -/
def sPut (i : Nat) (mk mv : M T) : MS := fun e => (mv e).st fun d e1 => match e1[i]? with
  | some (.own (.dict _)) => (mk e1).st fun k e2 => match e2[i]? with
    | some (.own (.dict ps)) => match keyT k with
      | some k => if flatKs ps = true ∧ ps.length < 100000 then .nx (e2.set i (.own (.dict (putD ps k d)))) else .bad
      | none => .bad
    | _ => .bad
  | _ => .bad
section
variable {X : Cx} {P : List (Nat × Addr)} {W : WX} {o ke ve : Expr} {mk mv : M T} {i : Nat} {pos pos' : Pos}
theorem d_put (hu : X.A.units + 1 < cLine) (ho : PE X o (tVar i)) (hk : PE X ke (tD X.K P W mk)) (hv : PE X ve (tD X.K P W mv)) (hs : swapsWith ve (some (.Subscript o ke pos')) pos.line X.env = pure false := by rfl) :
    PS X (.Assign [.Subscript o ke pos'] ve pos) (tS X.K P W (sPut i mk mv)) := (ps_dput hu ho hk hv hs).weak fun D σ H ⟨G, en, s, p⟩ => ⟨G, en, s, stepS p fun d e1 H1 x1 s1 p1 v rv => by
  split at p1
  · rename_i ps0 q
    obtain ⟨a, hs, _, _⟩ := s1.sa.ownAt q
    refine ⟨.ref a, hs, G, e1, s1, stepS p1 fun k e2 H2 x2 s2 p2 y ry => ?_⟩
    split at p2
    · rename_i ps q2
      split at p2
      · rename_i k' qk
        obtain ⟨a', hs', ho', _⟩ := s2.sa.ownAt q2
        have ea : a' = a := by
          rw [hs] at hs'
          cases hs'
          rfl
        subst ea
        by_cases hz : flatKs ps = true ∧ ps.length < 100000
        · rw [if_pos hz] at p2
          obtain ⟨kvs, hd, rk⟩ := own_kvr ho' hz.1
          rw [keyT_of qk] at ry
          rw [rp_key ry]
          refine ⟨a', _, rfl, DPut.k hd (sz_lt (by rw [rk.length]; exact hz.2)), ?_⟩
          obtain ⟨s3, r3⟩ := s2.put (o' := .dK (putK kvs k' v)) q2 hs (kvr_own upd_same (rk.put (x2.rp rv)))
          exact p2 σ _ r3 s3
        · rw [if_neg hz] at p2
          exact p2.elim
      · exact p2.elim
    · exact p2.elim
  · exact p1.elim⟩
end
/-! dict(d), {k: v} -/
def mDictOf (m : M T) : M T := fun e => (m e).bind fun d e => match d with
  | .dict ps => if flatKs ps = true then .ok (.dict ps) e else .bad
  | _ => .bad
def mDisp1 (mk mv : M T) : M T := fun e => (mk e).bind fun k e => (mv e).bind fun v e => match keyT k with
  | some k => .ok (.dict [(kD k, v)]) e
  | none => .bad
theorem cr_dictOf {X : Cx} : CallR X (.type "dict") (fun xs H Q => ∃ a kvs, xs = [V.ref a] ∧ Rd H a (.dK kvs) ∧ ∀ p, H p = none → Q (.ref p) (upd H p (.dK kvs))) := by
  intro pins s σ H xs us Q I r ⟨a, kvs, ex, hd, q⟩
  subst ex
  rw [Vals.ref1 r]
  exact d_copyOf I hd fun p s' hp I' => ⟨.ref p, _, I', rfl, q p hp⟩
theorem val_kvr {K : PySem.W.Frag} {S : List Addr} {H : Hp} {v : V} {ps : List (T × T)} (r : Rp K (hide S H) v (.dict ps)) (f : flatKs ps = true) : ∃ a kvs, v = .ref a ∧ Rd H a (.dK kvs) ∧ KVR K (hide S H) kvs ps := by
  cases r with
  | @dK a o ks vs ds q l r => exact ⟨a, _, rfl, .inr ⟨o, hide_ex _ _ _ _ q⟩, kvr_of l r⟩
  | dT n q l r => rw [flat_t n l r] at f; cases f
section
variable {X : Cx} {P : List (Nat × Addr)} {W : WX} {e ke ve E : Expr} {m mk mv : M T} {pos p : Pos}
theorem df_dictOf (T : Nm X.mg) (he : PE X e (tD X.K P W m)) (hg : Gl X "dict" := by rfl) (hs : starEach [e] X.env = (false, eval e X.env) :: starEach [] X.env := by rfl) (hpl : (backTo pos (starEach [] X.env)).any (·.1) = false := by rfl) : PE X (.Call (.Name "dict" p) [e] [] pos) (tDF X.K P W (mDictOf m)) :=
  (pe_callTy cr_dictOf hg T.dict PyProof.Rows.boot_dict (pa_cons he pa_nil hs) (by decide) (by decide) hs hpl).weak fun σ H Q ⟨G, en, s, p⟩ => ⟨G, en, s, stepF p fun d e1 H1 x1 s1 p1 v rv => by
    cases d with
    | dict ps =>
      have p2 : PsF X.K P W (fun _ _ a H' => Q (.ref a) H') G σ H1 e1 (if flatKs ps = true then .ok (.dict ps) e1 else .bad) := p1
      by_cases f : flatKs ps = true
      · rw [if_pos f] at p2
        obtain ⟨a, kvs, rfl, hd, rk⟩ := val_kvr rv f
        exact ⟨a, kvs, rfl, hd, fun b hb => p2.new s1 hb (kvr_own upd_same rk)⟩
      · rw [if_neg f] at p2
        exact p2.elim
    | _ => exact p1.elim⟩
theorem df_disp1 (hk : PE X ke (tD X.K P W0 mk)) (hv : PE X ve (tD X.K P W0 mv)) : PE X (.Dict [some ke] [ve] pos) (tDF X.K P W (mDisp1 (fun e => noX (mk e)) fun e => noX (mv e))) := (pe_disp (pps_cons hk hv pps_nil) (by rfl) (by rfl) (fun z => by cases z) (by show 1 ≤ 15; omega)).weak fun σ H Q ⟨G, en, s, p⟩ a ha => by
  have sg := s.ghost (o := .dK []) ha plain_dK
  have xg : Ex (hide (G ++ owns en σ) H) (hide (a :: (G ++ owns en σ)) (upd H a (.dK []))) := hide_add ha (hide_mono (Ex.new ha))
  have gg : ∀ b ∈ G, ∀ o, NoT o → H b = some o → (upd H a (.dK [])) b = some o := fun b hb o _ q => by rw [upd_ne (ne_of_none q ha)]; exact q
  have p0 : PsF X.K P W (fun _ _ a H' => Q (.ref a) H') G σ H en ((noX (mk en)).bind fun k e => (noX (mv e)).bind fun v e => match keyT k with | some k => .ok (.dict [(kD k, v)]) e | none => .bad) := p
  refine ⟨a :: G, en, sg, ?_⟩
  cases q1 : mk en with
  | ex _ _ _ => rw [q1] at p0; exact p0.elim
  | bad => rw [q1] at p0; exact p0.elim
  | ok k e1 =>
    rw [q1] at p0
    intro H1 x1 s1 y ry
    refine ⟨a :: G, e1, s1, ?_⟩
    have p1 : PsF X.K P W (fun _ _ a H' => Q (.ref a) H') G σ H en ((noX (mv e1)).bind fun v e => match keyT k with | some k => .ok (.dict [(kD k, v)]) e | none => .bad) := p0
    cases q2 : mv e1 with
    | ex _ _ _ => rw [q2] at p1; exact p1.elim
    | bad => rw [q2] at p1; exact p1.elim
    | ok v e2 =>
      rw [q2] at p1
      have p2 : PsF X.K P W (fun _ _ a H' => Q (.ref a) H') G σ H en (match keyT k with | some k => .ok (.dict [(kD k, v)]) e2 | none => .bad) := p1
      cases q3 : keyT k with
      | none => rw [q3] at p2; exact p2.elim
      | some k' =>
        rw [q3] at p2
        intro H2 x2 s2 z rz
        rw [keyT_of q3] at ry
        rw [rp_key ry]
        have hD : H2 a = some (.dK []) := x2.gs a List.mem_cons_self _ plain_dK.1 (x1.gs a List.mem_cons_self _ plain_dK.1 upd_same)
        refine ⟨hD, [(k', z)], rfl, by show 1 ≤ 15; omega, ?_⟩
        have em : mergeK [] [(k', z)] = [(k', z)] := rfl
        rw [em]
        have hu : hide (a :: (G ++ owns e2 σ)) (upd H2 a (.dK [(k', z)])) = hide (a :: (G ++ owns e2 σ)) H2 := hide_upd List.mem_cons_self
        refine p2 a _ ?_ (fun b hb o no q => ?_) (s2.ghostUpd hD plain_dK plain_dK) (kvr_own upd_same ?_)
        · rw [hu]
          exact (xg.trans x1.st).trans x2.st
        · rw [upd_ne fun z => s2.notin (by rw [← z]; exact List.mem_append_left _ hb)]
          exact x2.gs b (List.mem_cons_of_mem _ hb) o no (x1.gs b (List.mem_cons_of_mem _ hb) o no (gg b hb o no q))
        · rw [hu]
          exact .cons rz .nil
end
end TD

end
section

/-! TD21: zip of two sequences, each a list or a tuple -/
namespace TD
open PySem PySem.Spec PyProof.Rows L2 Evl
variable [HasT]
def qn : Bool → String
  | true => "tuple_iterator"
  | false => "list_iterator"
def SeqQ (h : Heap) (l : Addr) (xs : Array Value) : Bool → Prop
  | true => h.IsTuple l xs
  | false => h.IsList l xs
def IterQ (b : Bool) (h : Heap) (it l : Addr) (i : Nat) : Prop := ∃ o, h.get? it = some o ∧ o.cls = .type (qn b) ∧ o.data = .fields #[.ref l, .int i 0]
theorem drawQ {P : Program} {w : World} {A : Around} (hh : A.handled = none) (it l : Addr) (hne : l ≠ it) (xs : Array Value) : ∀ b : Bool, Draws P w A it [it, l] xs.size (fun i v => xs[i]? = some v) (fun i h => IterQ b h it l i ∧ SeqQ h l xs b)
  | true => Draws.tuple hh it l hne xs
  | false => Draws.list hh it l hne xs
def SqQ (K : PySem.W.Frag) (H : Hp) (a : Addr) (xs : List V) : Bool → Prop
  | true => SqT K H a xs
  | false => SqL K H a xs
theorem inv_q {X : Cx} {pins : List (Addr × Obj)} {s : Shared} {σ : L2.St} {H : Hp} {a : Addr} {xs : List V} (I : Inv X pins σ H s) : ∀ {b : Bool}, SqQ X.K H a xs b → ∃ its : List Value, Vals xs its ∧ SeqQ s.heap a its.toArray b
  | true, h => by
    obtain ⟨its, r, p, _⟩ := I.tuple h
    exact ⟨its, r, p⟩
  | false, h => by
    obtain ⟨its, r, p, _⟩ := I.list h
    exact ⟨its, r, p.isList⟩
theorem seqQ_lt {h : Heap} {l : Addr} {xs : Array Value} : ∀ {b : Bool}, SeqQ h l xs b → l < h.objs.size
  | true, ⟨_, e, _⟩ => Heap.lt_size e
  | false, ⟨_, e, _⟩ => Heap.lt_size e
theorem iterQ_lt {b : Bool} {h : Heap} {it l : Addr} {i : Nat} (x : IterQ b h it l i) : it < h.objs.size := by
  obtain ⟨_, e, _⟩ := x
  exact Heap.lt_size e
/-- what stands at a and b, turn by turn -/
def ItQ (K : PySem.W.Frag) (p q : Bool) (a b : Addr) (xs ys : List V) : It :=
  ⟨fun i H => SqQ K H a xs p ∧ SqQ K H b ys q ∧ i < xs.length ∧ i < ys.length,
    fun i H v H' => ∃ T x y, v = .ref T ∧ H T = none ∧ H' = upd H T (.tup [x, y]) ∧ xs[i]? = some x ∧ ys[i]? = some y,
    fun i H => SqQ K H a xs p ∧ SqQ K H b ys q ∧ i ≤ xs.length ∧ i ≤ ys.length ∧ (i = xs.length ∨ i = ys.length)⟩
abbrev StQ (p q : Bool) (a b z TI TO i1 i2 : Addr) : Nat → Heap → Prop := fun i h => IsZip h z TI TO .none ∧ IsPair h TI (.ref i1) (.ref i2) ∧ (∃ x y, IsPair h TO x y) ∧ IterQ p h i1 a i ∧ IterQ q h i2 b i
/-- the cells lie apart -/
structure ApQ (a b z TI TO i1 i2 : Addr) : Prop where
  s : ZipSep2 z TI TO i1 i2 [i1, a] [i2, b]
  a1 : a ≠ i1
  b2 : b ≠ i2
theorem turnQ {P : Program} {w : World} {K : PySem.W.Frag} {elts : List Expr} {kk : Nat} {tpos : Pos} {p q : Bool} {a b z TI TO i1 i2 : Addr} {xs ys : List V} (D : ApQ a b z TI TO i1 i2) :
    Turn P w K (.Tuple elts kk tpos) (ItQ K p q a b xs ys) [z, TI, TO, i1, i2] z (StQ p q a b z TI TO i1 i2) where
  mem := by simp
  obj := fun i h st c hc => by
    obtain ⟨hz, hTI, ⟨x, y, hTO⟩, ⟨o1, e1, _, d1⟩, ⟨o2, e2, _, d2⟩⟩ := st
    rcases (show c = z ∨ c = TI ∨ c = TO ∨ c = i1 ∨ c = i2 by simpa using hc) with e | e | e | e | e <;> subst e
    · exact ⟨_, hz, fun v k => nomatch k⟩
    · exact ⟨_, hTI, fun v k => nomatch k⟩
    · exact ⟨_, hTO, fun v k => nomatch k⟩
    · exact ⟨o1, e1, fun v k => by rw [d1] at k; cases k⟩
    · exact ⟨o2, e2, fun v k => by rw [d2] at k; cases k⟩
  keep := fun i h h' ⟨hz, hTI, ⟨x, y, hTO⟩, ⟨o1, e1, c1, d1⟩, ⟨o2, e2, c2, d2⟩⟩ k =>
    ⟨k z (by simp) _ hz, k TI (by simp) _ hTI, ⟨x, y, k TO (by simp) _ hTO⟩, ⟨o1, k i1 (by simp) _ e1, c1, d1⟩, ⟨o2, k i2 (by simp) _ e2, c2, d2⟩⟩
  item := by
    intro X hP hw hK hc i pins s σ H E I hf st ⟨ga, gb, la, lb⟩
    subst hP hw hK
    obtain ⟨hz, hTI, ⟨x0, y0, hTO⟩, h1, h2⟩ := st
    obtain ⟨us, r1, q1⟩ := inv_q I ga
    obtain ⟨ws, r2, q2⟩ := inv_q I gb
    have lu : us.length = xs.length := r1.length.symm
    have lw : ws.length = ys.length := r2.length.symm
    have zl : z < s.heap.objs.size := Heap.lt_size hz
    have tl : TI < s.heap.objs.size := Heap.lt_size hTI
    have ol : TO < s.heap.objs.size := Heap.lt_size hTO
    have l1 := iterQ_lt h1
    have l2 := iterQ_lt h2
    have D1 := drawQ (P := X.prog) (w := X.w) (A := X.A.in1) (I.ok.hd hc) i1 a D.a1 us.toArray p
    have D2 := drawQ (P := X.prog) (w := X.w) (A := X.A.in1) (I.ok.hd hc) i2 b D.b2 ws.toArray q
    refine wpAny_pyNext_zipD2_item D.s D1 D2 hz hTI hTO ⟨h1, q1⟩ ⟨h2, q2⟩ (by rw [List.size_toArray, lu]; exact la) (by rw [List.size_toArray, lw]; exact lb)
      fun x1 x2 h' tk m1 m2 hz' hTO' st1 st2 hT hsz hk => ⟨_, rfl, wpAny_letOwnedTupleGo_zip (s := { s with heap := h', toks := tk }) hz' fun h2' hz2 sb => ?_⟩
    have g1 : xs[i]? = some xs[i] := List.getElem?_eq_getElem la
    have g2 : ys[i]? = some ys[i] := List.getElem?_eq_getElem lb
    obtain ⟨u1, m3, ru1⟩ := r1.get g1
    obtain ⟨u2, m4, ru2⟩ := r2.get g2
    have n1 : u1 = x1 := by
      have : us[i]? = some x1 := by simpa using m1
      rw [m3] at this
      cases this
      rfl
    have n2 : u2 = x2 := by
      have : ws[i]? = some x2 := by simpa using m2
      rw [m4] at this
      cases this
      rfl
    subst n1
    subst n2
    have hT2 : h2'.get? s.heap.objs.size = some { cls := .type "tuple", data := .seq #[u1, u2] } := (sb.2 _ (Nat.ne_of_gt zl)).trans hT
    have I1 : Inv X pins σ (upd H s.heap.objs.size (.tup [xs[i], ys[i]])) { s with heap := h2', toks := tk } :=
      I.turnedNew (t' := tk) (ch := [z, TI, TO, i1, i2]) (fun c o hb e => (sb.2 c fun e1 => hb (by simp [e1])).trans (hk c o (fun e1 => hb (by simp [e1])) (fun e1 => hb (by simp [e1])) (fun e1 => hb (by simp [e1])) (fun e1 => hb (by simp [e1])) e)) hf (Nat.le_refl _)
        ⟨by show 2 ≤ sizeLine; decide, [u1, u2], .cons ru1 (.cons ru2 .nil), ⟨_, hT2, rfl, _, rfl⟩⟩
    obtain ⟨⟨o1, e1, c1, d1⟩, _⟩ := st1
    obtain ⟨⟨o2, e2, c2, d2⟩, _⟩ := st2
    refine ⟨.ref s.heap.objs.size, _, I1, rfl, ⟨_, _, _, rfl, I.hok.fresh (Nat.le_refl _), rfl, g1, g2⟩, ⟨hz2, (sb.2 _ D.s.TIz).trans (hk _ _ D.s.TIz D.s.TITO D.s.TIi1 D.s.TIi2 hTI), ⟨u1, u2, (sb.2 _ D.s.TOz).trans hTO'⟩, ⟨o1, (sb.2 _ (Ne.symm D.s.zi1)).trans e1, c1, d1⟩, ⟨o2, (sb.2 _ (Ne.symm D.s.zi2)).trans e2, c2, d2⟩⟩, fun c hcm => ?_⟩
    have hlt : c < s.heap.objs.size := by
      rcases (show c = z ∨ c = TI ∨ c = TO ∨ c = i1 ∨ c = i2 by simpa using hcm) with e | e | e | e | e <;> rw [e] <;> assumption
    rw [upd_ne (Nat.ne_of_lt hlt)]
    exact (hf c hcm).1
  done := by
    intro X hP hw hK hc i pins s σ H E I hf st ⟨ga, gb, la, lb, le⟩
    subst hP hw hK
    obtain ⟨hz, hTI, ⟨x0, y0, hTO⟩, h1, h2⟩ := st
    obtain ⟨us, r1, q1⟩ := inv_q I ga
    obtain ⟨ws, r2, q2⟩ := inv_q I gb
    have lu : us.length = xs.length := r1.length.symm
    have lw : ws.length = ys.length := r2.length.symm
    have D1 := drawQ (P := X.prog) (w := X.w) (A := X.A.in1) (I.ok.hd hc) i1 a D.a1 us.toArray p
    have D2 := drawQ (P := X.prog) (w := X.w) (A := X.A.in1) (I.ok.hd hc) i2 b D.b2 ws.toArray q
    exact wpAny_pyNext_zipD2_end D.s D1 D2 hz hTI hTO ⟨h1, q1⟩ ⟨h2, q2⟩ (by rw [List.size_toArray, lu]; exact la) (by rw [List.size_toArray, lw]; exact lb) (by rw [List.size_toArray, List.size_toArray, lu, lw]; exact le)
      fun h' tk hk => ⟨rfl, I.turnedL (t' := tk) (ch := [z, TI, TO, i1, i2]) (fun c o hb e => hk c o (fun e1 => hb (by simp [e1])) (fun e1 => hb (by simp [e1])) (fun e1 => hb (by simp [e1])) (fun e1 => hb (by simp [e1])) e) hf⟩
  self := fun A i s Q E st h => wpAny_pyIter_zip st.1 h
end TD

end
section

/-! TD22: zip called -/
namespace TD
open PySem PySem.Spec PyProof.Rows L2 Evl
variable [HasT]
abbrev qi (b : Bool) (l : Addr) : Obj := { cls := .type (qn b), data := .fields #[.ref l, .int 0 0] }
abbrev qH2 (p q : Bool) (h : Heap) (a b : Addr) : Heap := (h.push (qi p a)).push (qi q b)
abbrev qH4 (p q : Bool) (h : Heap) (a b : Addr) : Heap := ((qH2 p q h a b).push { cls := .type "tuple", data := .seq #[.ref h.objs.size, .ref (h.push (qi p a)).objs.size] }).push { cls := .type "tuple", data := .seq #[.none, .none] }
abbrev qZ (n : Nat) : Obj := { cls := .type "zip", data := .fields #[.none, .bool false, .bool false, .ref (n + 2), .ref (n + 3)] }
theorem qs1 {h : Heap} {o : Obj} : (h.push o).objs.size = h.objs.size + 1 := Heap.size_push ..
theorem seqQ_push {h : Heap} {o : Obj} {l : Addr} {xs : Array Value} : ∀ {b : Bool}, SeqQ h l xs b → SeqQ (h.push o) l xs b
  | true, x => Heap.IsTuple.push x _
  | false, x => Heap.IsList.push x _
theorem pyIter_q {P : Program} {w : World} {A : Around} {E : Value → Shared → Prop} {s : Shared} {l : Addr} {xs : Array Value} {Q : Value → Shared → Prop} : ∀ {b : Bool}, SeqQ s.heap l xs b → Q (.ref s.heap.objs.size) { s with heap := s.heap.push (qi b l) } → wpAny (model P w) A (pyIter (.ref l)) Q E s
  | true, x, q => wpAny_pyIter_tuple x q
  | false, x, q => wpAny_pyIter_list x q
theorem meetsQ (p q : Bool) (a b : Addr) (xs ys : Array Value) : Meets (Builtin.«zip.__new__» ⟨[.type "zip", .ref a, .ref b], []⟩) (fun _ R s => SeqQ s.heap a xs p ∧ SeqQ s.heap b ys q ∧
    R (.ok (.ret (.ref (qH4 p q s.heap a b).objs.size))) { s with heap := (qH4 p q s.heap a b).push { cls := .type "zip", data := .fields #[.none, .bool false, .bool false, .ref (qH2 p q s.heap a b).objs.size, .ref ((qH2 p q s.heap a b).push { cls := .type "tuple", data := .seq #[.ref s.heap.objs.size, .ref (s.heap.push (qi p a)).objs.size] }).objs.size] } }) :=
  .of_wp fun prog w A R s ⟨h1, h2, h⟩ => by
    obtain ⟨hp, g, d, tk, os⟩ := s
    have hsub := sub_zip
    have i1 : SeqQ (Shared.heap ⟨hp, g, d, tk, os⟩) a xs p := h1
    have i2 : SeqQ (Shared.heap ⟨hp.push (qi p a), g, d, tk, os⟩) b ys q := seqQ_push h2
    wp_walk using pyIter_q i1, pyIter_q i2
    exact ⟨_, rfl, h⟩
theorem call_zipQ {P : Program} {w : World} {A : Around} {E : Value → Shared → Prop} {s : Shared} {p q : Bool} {a b : Addr} {xs ys : Array Value} {Q : Value → Shared → Prop} (h1 : SeqQ s.heap a xs p) (h2 : SeqQ s.heap b ys q)
    (h : ∀ h', StQ p q a b (s.heap.objs.size + 4) (s.heap.objs.size + 2) (s.heap.objs.size + 3) s.heap.objs.size (s.heap.objs.size + 1) 0 h' → (∀ c o, s.heap.get? c = some o → h'.get? c = some o) → Q (.ref (s.heap.objs.size + 4)) { s with heap := h' }) :
    wpAny (model P w) A (call (.type "zip") [.ref a, .ref b]) Q E s := by
  refine callType_new F.called_zip (by decide) (F.typeCall_zip_2 _ _) (F.newCall_zip_2 _ _) (fun obj => F.args_object_init_3 obj _ _) F.entry_zip_new (meetsQ p q a b xs ys) ⟨h1, h2, ?_⟩
  have up : ∀ {h : Heap} {c : Addr} {o o' : Obj}, h.get? c = some o → (h.push o').get? c = some o := fun x => Heap.get?_push_of_some _ x
  have at' : ∀ {h : Heap} {n : Nat} {o : Obj}, h.objs.size = n → (hf : o.isFreed = false := by rfl) → (h.push o).get? n = some o := fun e hf => by
    rw [← e]
    exact Heap.get?_push_size _ hf
  show _ ∧ _
  rw [show (qH4 p q s.heap a b).objs.size = s.heap.objs.size + 4 by simp only [qs1], show (qH2 p q s.heap a b).objs.size = s.heap.objs.size + 2 by simp only [qs1], show ((qH2 p q s.heap a b).push _).objs.size = s.heap.objs.size + 3 by simp only [qs1]]
  refine ⟨⟨_, at' (by simp only [qs1]), rfl⟩, h _ ⟨at' (by simp only [qs1]), ?_, ⟨.none, .none, up (at' (by simp only [qs1]))⟩, ⟨_, up (up (up (up (at' rfl)))), rfl, rfl⟩, ⟨_, up (up (up (at' (by simp only [qs1])))), rfl, rfl⟩⟩ fun c o x => up (up (up (up (up x))))⟩
  have z := up (o' := qZ s.heap.objs.size) (up (o' := { cls := .type "tuple", data := .seq #[.none, .none] }) (at' (h := qH2 p q s.heap a b) (n := s.heap.objs.size + 2) (o := { cls := .type "tuple", data := .seq #[.ref s.heap.objs.size, .ref (s.heap.push (qi p a)).objs.size] }) (by simp only [qs1])))
  have e : (s.heap.push (qi p a)).objs.size = s.heap.objs.size + 1 := qs1
  show Heap.get? _ _ = some { cls := .type "tuple", data := .seq #[.ref s.heap.objs.size, .ref (s.heap.objs.size + 1)] }
  rw [← e]
  exact z
theorem apQ (n a b : Nat) (h1 : a < n) (h2 : b < n) : ApQ a b (n + 4) (n + 2) (n + 3) n (n + 1) := by
  have ne : ∀ {i j : Nat}, i ≠ j → (i : Addr) ≠ (j : Addr) := fun h => h
  refine ⟨⟨?_, ?_, ?_, ?_, ?_, ?_, ?_, ?_, ?_, ?_, ?_, ?_, ?_⟩, ?_, ?_⟩ <;> first
    | exact List.mem_cons_self
    | (refine ne ?_; omega)
    | (intro z
       rcases List.mem_cons.mp z with z | z
       · exact ne (by omega) z
       · exact ne (by omega) (List.mem_singleton.mp z))
/-- the rule -/
def iZipQ (K : PySem.W.Frag) (ta : TA) : TI := fun σ H R => ta σ H fun vs H1 => ∃ a b xs ys p q, vs = [.ref a, .ref b] ∧ SqQ K H1 a xs p ∧ SqQ K H1 b ys q ∧ R (ItQ K p q a b xs ys) H1
theorem pi_zipQ {X : Cx} {e e2 : Expr} {ta : TA} {p pos tpos : Pos} {elts : List Expr} {kk : Nat} (hg : Gl X "zip") (hm : X.mg "zip" = none) (ha : PA X [e, e2] ta)
    (hs : starEach [e, e2] X.env = (false, eval e X.env) :: starEach [e2] X.env := by rfl) (hpl : (backTo pos (starEach [e2] X.env)).any (·.1) = false := by rfl) :
    PI X (.Tuple elts kk tpos) (.Call (.Name "zip" p) [e, e2] [] pos) (iZipQ X.K ta) := ⟨fun pins s σ H R I h =>
  Call_ (ld_blt I hg hm PyProof.Rows.boot_zip (PyProof.Rows.callWith_type1 (thn (ha.run pos pins s σ H _ I h) fun us s1 ⟨vs, H1, I1, r1, a, b, xs, ys, p, q, ex, ga, gb, k⟩ => by
    subst ex
    obtain ⟨us1, rv1, q1⟩ := inv_q I1 ga
    obtain ⟨us2, rv2, q2⟩ := inv_q I1 gb
    have eu : us = [.ref a, .ref b] := by
      cases r1 with
      | cons r t =>
        cases t with
        | cons r2 t2 =>
          cases t2
          cases r
          cases r2
          rfl
    subst eu
    have la := seqQ_lt q1
    have lb := seqQ_lt q2
    refine call_zipQ q1 q2 fun h' st hk => wpAny_pyIter_zip st.1 ?_
    refine ⟨s1.heap.objs.size + 4, [s1.heap.objs.size + 4, s1.heap.objs.size + 2, s1.heap.objs.size + 3, s1.heap.objs.size, s1.heap.objs.size + 1], _, _, H1, rfl, I1.kept (t' := s1.toks) hk, turnQ (apQ s1.heap.objs.size a b la lb), st, fun c hcm => ?_, k⟩
    have hle : s1.heap.objs.size ≤ c := by
      rcases (show c = s1.heap.objs.size + 4 ∨ c = s1.heap.objs.size + 2 ∨ c = s1.heap.objs.size + 3 ∨ c = s1.heap.objs.size ∨ c = s1.heap.objs.size + 1 by simpa using hcm) with z | z | z | z | z <;> rw [z] <;> first | exact Nat.le_refl _ | exact Nat.le_add_right _ _
    exact I1.fpOk hle (I1.hok.fresh hle)) hs hpl))⟩
end TD

end
section

/-! TD23: zip over data -/
namespace TD
open PySem PySem.Spec PyProof.Rows L2 Evl
variable [HasT]
def seqU : T → Option (List T)
  | .list xs => some xs
  | .tuple xs => some xs
  | _ => none
def zipT : List T → Option (List T)
  | [x, y] => (seqU x).bind fun xs => (seqU y).map fun ys => (xs.zip ys).map fun p => .tuple [p.1, p.2]
  | _ => none
def iZp (ml : M (List T)) : M (List T) := fun e => (ml e).bind fun ds e => ofO (zipT ds) e
section
variable {K : PySem.W.Frag} {G : List Addr} {σ : Sg} {H : Hp} {e : Env}
theorem sq_at {S : List Addr} {H : Hp} {a : Addr} {xs : List V} : ∀ {p : Bool}, hide S H a = some (if p = true then .tup xs else .lst xs) → SqQ K H a xs p
  | true, h => st_of (hide_ex _ _ _ _ h)
  | false, h => sq_of (hide_ex _ _ _ _ h)
theorem seq_rp {S : List Addr} {H : Hp} {v : V} {d : T} {ds : List T} (r : Rp K (hide S H) v d) (h : seqU d = some ds) : ∃ (a : Addr) (p : Bool) (xs : List V), v = .ref a ∧ hide S H a = some (if p = true then .tup xs else .lst xs) ∧ RpA K (hide S H) xs ds := by
  cases r with
  | lst q r => cases h; exact ⟨_, false, _, rfl, q, r⟩
  | tup q r => cases h; exact ⟨_, true, _, rfl, q, r⟩
  | _ => cases h
theorem wk_zip {a b : Addr} {p q : Bool} {xs ys : List V} {ds es : List T} (h1 : hide (G ++ owns e σ) H a = some (if p = true then .tup xs else .lst xs)) (h2 : hide (G ++ owns e σ) H b = some (if q = true then .tup ys else .lst ys))
    (r1 : RpA K (hide (G ++ owns e σ) H) xs ds) (r2 : RpA K (hide (G ++ owns e σ) H) ys es) : Wk K G σ H e ((ds.zip es).map fun p => .tuple [p.1, p.2]) (ItQ K p q a b xs ys) := fun i S H' x w => by
  have g1 : SqQ K H' a xs p := sq_at (x _ _ h1)
  have g2 : SqQ K H' b ys q := sq_at (x _ _ h2)
  have l1 := r1.length
  have l2 := r2.length
  refine ⟨fun d hd => ?_, fun ha hb => ?_⟩
  · rw [List.getElem?_map] at hd
    obtain ⟨⟨d1, d2⟩, hz, rfl⟩ := Option.map_eq_some_iff.mp hd
    obtain ⟨z1, z2⟩ := zip_at hz
    obtain ⟨v1, hv1, rv1⟩ := r1.at z1
    obtain ⟨v2, hv2, rv2⟩ := r2.at z2
    refine ⟨⟨g1, g2, (List.getElem?_eq_some_iff.mp hv1).1, (List.getElem?_eq_some_iff.mp hv2).1⟩, fun y H2 ⟨c, y1, y2, ey, hc, eh, e1, e2⟩ => ?_⟩
    rw [hv1] at e1
    rw [hv2] at e2
    cases e1
    cases e2
    subst eh
    rw [ey]
    exact ⟨Ex.new hc, new_tup w hc (.cons (rv1.mono x) (.cons (rv2.mono x) .nil))⟩
  · rw [List.length_map, List.length_zip] at ha hb
    exact ⟨g1, g2, by omega, by omega, by omega⟩
end
theorem di_zip {X : Cx} {P : List (Nat × Addr)} {W : WX} {e e2 : Expr} {ml : M (List T)} {p pos tpos : Pos} {elts : List Expr} {kk : Nat} (T : Nm X.mg) (ha : PA X [e, e2] (tDA X.K P W ml)) (hg : Gl X "zip" := by rfl)
    (hs : starEach [e, e2] X.env = (false, eval e X.env) :: starEach [e2] X.env := by rfl) (hpl : (backTo pos (starEach [e2] X.env)).any (·.1) = false := by rfl) :
    PI X (.Tuple elts kk tpos) (.Call (.Name "zip" p) [e, e2] [] pos) (tI X.K P W (iZp ml)) := (pi_zipQ hg T.zip ha hs hpl).weak fun σ H Q ⟨G, en, s, p⟩ => by
  refine stepA s p fun ds e1 vs H1 x1 s1 r1 p1 => ?_
  match ds, r1, p1 with
  | [d1, d2], r1, p1 =>
    obtain ⟨v1, v2, rfl, ra, rb⟩ := rp2 r1
    have p2 : Ps X.K P W (fun ds e1 H1 => ∀ J, Wk X.K G σ H1 e1 ds J → Q J H1) G σ H1 e1 (ofO ((seqU d1).bind fun xs => (seqU d2).map fun ys => (xs.zip ys).map fun p => .tuple [p.1, p.2]) e1) := p1
    cases q1 : seqU d1 with
    | none => rw [q1] at p2; exact p2.elim
    | some xs =>
      cases q2 : seqU d2 with
      | none => rw [q1, q2] at p2; exact p2.elim
      | some ys =>
        rw [q1, q2] at p2
        obtain ⟨a, p, ws, rfl, h1, rA⟩ := seq_rp ra q1
        obtain ⟨b, q, zs, rfl, h2, rB⟩ := seq_rp rb q2
        exact ⟨a, b, ws, zs, p, q, rfl, sq_at h1, sq_at h2, p2 H1 .refl s1 _ (wk_zip h1 h2 rA rB)⟩
  | [], _, p1 => exact p1.elim
  | [_], _, p1 => exact p1.elim
  | _ :: _ :: _ :: _, _, p1 => exact p1.elim
end TD

end
section

/-! TD24: errors with fields: made, raised, taken -/
namespace TD
open PySem PySem.Spec PyProof.Rows L2 Evl
variable [HasT]
def Bt (s : Addr) (H H' : Hp) : Prop := ∀ b o, b ≠ s → H b = some o → H' b = some o
def spInit (C : Addr) (fs : List Str) : Sp := fun vs H Q _ => ∃ (a : Addr) (ws : List V), vs = .ref a :: ws ∧ ws.length = fs.length ∧ H a = some (exo a C none) ∧
  ∀ (H' : Hp) (dx : Addr), Bt a H H' → H dx = none → H' a = some (exo a C (some dx)) → H' dx = some (exd dx ((fs.zip ws).reverse)) → Q .non H'
theorem len1 {ws : List V} (h : ws.length = 1) : ∃ v, ws = [v] := match ws, h with | [v], _ => ⟨v, rfl⟩
theorem len2 {ws : List V} (h : ws.length = 2) : ∃ v1 v2, ws = [v1, v2] := match ws, h with | [v1, v2], _ => ⟨v1, v2, rfl⟩
theorem len3 {ws : List V} (h : ws.length = 3) : ∃ v1 v2 v3, ws = [v1, v2, v3] := match ws, h with | [v1, v2, v3], _ => ⟨v1, v2, v3, rfl⟩
/-! one store, two, three: the readings of the inits -/
section
variable {K : PySem.W.Frag} {C : Addr} {D : Ends}
theorem init1 {f : Str} (O : OexC K C) (n1 : PySem.W.findIn K (.ref C) f = some none) {vs : List V} {H : Hp} {Q : VK} {E : XK} (h : spInit C [f] vs H Q E) {N : List Str} (hN : N = ([("self" : Str), f] : List Str)) :
    tOst K f (tVar 0) (tVar 1) { nx := fun _ H' => Q .non H', rt := Q } (start N vs) H := by
  subst hN
  obtain ⟨a, ws, rfl, hl, ha, k⟩ := h
  obtain ⟨v, rfl⟩ := len1 hl
  refine ⟨_, rfl, _, rfl, a, C, rfl, O, n1, .inl ⟨ha, fun dx hdx ne => ?_⟩⟩
  exact k _ dx (fun b o hb e => by rw [upd_ne hb, upd_ne (ne_of_none e hdx)]; exact e) hdx upd_same (by rw [upd_ne ne, upd_same]; rfl)
theorem init2 {f g : Str} (O : OexC K C) (n1 : PySem.W.findIn K (.ref C) f = some none) (n2 : PySem.W.findIn K (.ref C) g = some none) {vs : List V} {H : Hp} {Q : VK} {E : XK} (h : spInit C [f, g] vs H Q E) {N : List Str} (hN : N = ([("self" : Str), f, g] : List Str)) :
    tSeq (tOst K f (tVar 0) (tVar 1)) (tOst K g (tVar 0) (tVar 2)) { nx := fun _ H' => Q .non H', rt := Q } (start N vs) H := by
  subst hN
  obtain ⟨a, ws, rfl, hl, ha, k⟩ := h
  obtain ⟨v, v2, rfl⟩ := len2 hl
  refine ⟨_, rfl, _, rfl, a, C, rfl, O, n1, .inl ⟨ha, fun dx hdx ne => ?_⟩⟩
  refine ⟨_, rfl, _, rfl, a, C, rfl, O, n2, .inr ⟨dx, _, upd_same, (by rw [upd_ne ne, upd_same]), by simp, ?_⟩⟩
  exact k _ dx (fun b o hb e => by rw [upd_ne (ne_of_none e hdx), upd_ne hb, upd_ne (ne_of_none e hdx)]; exact e) hdx (by rw [upd_ne ne.symm, upd_same]) upd_same
theorem init3 {f g l : Str} (O : OexC K C) (n1 : PySem.W.findIn K (.ref C) f = some none) (n2 : PySem.W.findIn K (.ref C) g = some none) (n3 : PySem.W.findIn K (.ref C) l = some none) {vs : List V} {H : Hp} {Q : VK} {E : XK} (h : spInit C [f, g, l] vs H Q E) {N : List Str} (hN : N = ([("self" : Str), f, g, l] : List Str)) :
    tSeq (tOst K f (tVar 0) (tVar 1)) (tSeq (tOst K g (tVar 0) (tVar 2)) (tOst K l (tVar 0) (tVar 3))) { nx := fun _ H' => Q .non H', rt := Q } (start N vs) H := by
  subst hN
  obtain ⟨a, ws, rfl, hl, ha, k⟩ := h
  obtain ⟨v, v2, v3, rfl⟩ := len3 hl
  refine ⟨_, rfl, _, rfl, a, C, rfl, O, n1, .inl ⟨ha, fun dx hdx ne => ?_⟩⟩
  refine ⟨_, rfl, _, rfl, a, C, rfl, O, n2, .inr ⟨dx, _, upd_same, (by rw [upd_ne ne, upd_same]), by simp, ?_⟩⟩
  refine ⟨_, rfl, _, rfl, a, C, rfl, O, n3, .inr ⟨dx, _, (by rw [upd_ne ne.symm, upd_same]), upd_same, by simp, ?_⟩⟩
  exact k _ dx (fun b o hb e => by rw [upd_ne (ne_of_none e hdx), upd_ne (ne_of_none e hdx), upd_ne hb, upd_ne (ne_of_none e hdx)]; exact e) hdx (by rw [upd_ne ne.symm, upd_ne ne.symm, upd_same]) upd_same
end
/-- what is known of a class x with the fields fs -/
structure Kl (P : Program) (w : World) (K : PySem.W.Frag) (mg : Str → Option Value) (base : Heap) (x : Str) (fs : List Str) : Prop where
  oex : OexC K (He.ga K x)
  xf : XfC K (He.ga K x)
  g : mg x = some (.ref (He.ga K x))
  iC : PySem.W.findIn K (.ref (He.ga K x)) "__init__" = some (some (.ref (He.ma K (He.ga K x) "__init__")))
  tI : PySem.W.typeIn K (.ref (He.ma K (He.ga K x) "__init__")) = some (.type "function")
  no : ∀ f ∈ fs, PySem.W.findIn K (.ref (He.ga K x)) f = some none
  ok : ∃ fd, FnOk P w K mg base CX0 1 (He.ma K (He.ga K x) "__init__") fd ("self" :: fs) (spInit (He.ga K x) fs) ∧ Binds K fd ("self" :: fs) []
/-! raise x(e) -/
def zipF : List Str → List T → List (Str × T)
  | f :: fs, d :: ds => zipF fs ds ++ [(f, d)]
  | _, _ => []
theorem zipF_eq : ∀ (fs : List Str) (ds : List T), zipF fs ds = (fs.zip ds).reverse
  | [], _ => by unfold zipF; rfl
  | _ :: _, [] => by unfold zipF; rfl
  | f :: fs, d :: ds => by
    show zipF fs ds ++ [(f, d)] = _
    rw [zipF_eq fs ds, List.zip_cons_cons, List.reverse_cons]
def sRaise (x : Str) (fs : List Str) (ml : M (List T)) : MS := fun e => (ml e).st fun ds e1 => if ds.length = fs.length then .ex x (fs.zip ds).reverse e1 else .bad
section
variable {K : PySem.W.Frag} {H : Hp}
theorem RpA.reverse : ∀ {vs : List V} {ds : List T}, RpA K H vs ds → RpA K H vs.reverse ds.reverse
  | _, _, .nil => .nil
  | _, _, .cons r t => by
    rw [List.reverse_cons, List.reverse_cons]
    exact (RpA.reverse t).append (.cons r .nil)
theorem snd_zip {α β : Type} {xs : List α} {ys : List β} (h : xs.length = ys.length) : (xs.zip ys).map (·.2) = ys := List.map_snd_zip (Nat.le_of_eq h.symm)
end
section
variable {X : Cx} {P : List (Nat × Addr)} {W : WX} {e : Expr} {es : List Expr} {ml : M (List T)} {p pos pos' : Pos}
theorem d_raise {x : Str} {fs : List Str} (hc : X.calm = true) (tk : Takes X W) (h : Kl X.prog X.w X.K X.mg X.base x fs) (hr : Room 2 X.A) (ha : PA X (e :: es) (tDA X.K P W ml)) (hl : fs.length ≤ 1000) (hg : Gl X x := by rfl)
    (hdb : (x == ("__debug__" : Str)) = false := by decide) (he : starEach (e :: es) X.env = (false, eval e X.env) :: starEach es X.env := by rfl) (hpl : (backTo pos (starEach es X.env)).any (·.1) = false := by rfl) :
    PS X (.Raise (some (.Call (.Name x p) (e :: es) [] pos)) none pos') (tS X.K P W (sRaise x fs ml)) := by
  obtain ⟨fd, F, B⟩ := h.ok
  refine (ps_raise hc tk (pmk_oex h.oex h.iC h.tI F hr B .nil pass0 hg h.g ha hdb he hpl)).weak fun D σ H ⟨G, en, s, p⟩ => ⟨G, en, s, stepS p fun ds e1 H1 x1 s1 p1 vs r1 => ?_⟩
  by_cases hz : ds.length = fs.length
  · rw [if_pos hz] at p1
    have hv : vs.length = fs.length := r1.length.trans hz
    refine ⟨by rw [hv]; exact hl, fun a ha => ⟨a, vs ++ [], rfl, by rw [List.append_nil]; exact hv, upd_same, fun H' dx b h0 h1 h2 => ?_⟩⟩
    have hna : dx ≠ a := fun z => by
      rw [z, upd_same] at h0
      cases h0
    have h3 : H1 dx = none := by rwa [upd_ne hna] at h0
    refine ⟨rfl, dx, _, h1, h2, h3, ?_⟩
    have ev : fs.zip (vs ++ []) = fs.zip vs := by rw [List.append_nil]
    rw [ev]
    have x2 : Ex H1 (upd (del H' a) dx (.xd ((fs.zip vs).reverse))) := fun c o hc => by
      rw [upd_ne (ne_of_none hc h3), del_ne (ne_of_none hc ha)]
      exact b c o (ne_of_none hc ha) (by rw [upd_ne (ne_of_none hc ha)]; exact hc)
    refine p1 dx σ _ (.ex x2) (s1.ex x2) ⟨_, upd_same, ?_, ?_⟩
    · rw [List.map_reverse, List.map_reverse, fst_zip hv.symm, fst_zip hz.symm]
    · rw [List.map_reverse, List.map_reverse, snd_zip hv.symm, snd_zip hz.symm]
      exact (r1.mono (hide_mono x2)).reverse
  · rw [if_neg hz] at p1
    exact p1.elim
end
end TD

end
section

/-! TD25: try .. except x as n; a, b = e -/
namespace TD
open PySem PySem.Spec PyProof.Rows L2 Evl
variable [HasT]
def sTry (x : Str) (mb : MS) (ms : List (Str × T) → MS) : MS := fun e => match mb e with
  | .ex c fs e1 => if c = x then ms fs e1 else .bad
  | r => r
section
variable {X : Cx} {P : List (Nat × Addr)} {W : WX} {x n : Str} {i : Nat} {body suite : List Stmt} {b₀ : Stmt} {np pos pos' : Pos} {mb : MS} {ms : List (Str × T) → MS} {ts : Addr → Value → Option Addr → TS}
theorem d_try (hs : X.stack = X.env :: X.outer) (hf : X.env.frame = some X.env.locals) (hN : X.N.Nodup) (hi : X.N[i]? = some n) (hln : X.env.kindOf n = some .local) (hc : Names X x (.ref (He.ga X.K x))) (tk : Takes X W) (hx : PySem.W.exmOne X.K (.ref (He.ga X.K x)) (.ref (He.ga X.K x)) = some true)
    (hb : ∀ (W : WX) (pn : List (Addr × Obj)) (xe : Value → Shared → Prop), Takes (X.tr pn xe) W → PassesOwn (model X.prog X.w) X.A X.env xe → PSs (X.tr pn xe) body (tS X.K P W mb))
    (hsu : ∀ (a : Addr) (oe : Obj) (cls : Value) (d : Option Addr) (pn : List (Addr × Obj)), Zc cls d oe → (∃ vs, oe.data = .fields vs) → PSs (X.suite a ((a, oe) :: pn)) (b₀ :: suite) (ts a cls d))
    (hq : ∀ (D : Ends) (G : List Addr) (σ : Sg) (H : Hp) (e : Env) (fs : List (Str × T)) (a dd : Addr), SD X.K P G σ H e → XR X.K (hide (G ++ owns e σ) H) H dd fs → H a = none → PsS X.K P W D G σ H e (ms fs e) →
      ts a (.ref (He.ga X.K x)) (some dd) { nx := fun σ' H' => D.nx (σ'.set i none) H', rt := D.rt, bk := fun σ' H' => D.bk (σ'.set i none) H', ct := fun σ' H' => D.ct (σ'.set i none) H' } (σ.set i (some (.ref a))) H) :
    PS X (.Try body [.ExceptHandler (some (.Name x np)) (some n) (b₀ :: suite) pos'] [] [] pos) (tS X.K P W (sTry x mb ms)) := (ps_try_as hs hf hN hi hln hc tk hb hsu).weak fun D σ H ⟨G, en, s, p⟩ => ⟨G, en, s, by
  have p' : PsS X.K P W D G σ H en (match mb en with | .ex c fs e1 => if c = x then ms fs e1 else .bad | r => r) := p
  cases q : mb en with
  | ex c fs e1 =>
    rw [q] at p'
    have p2 : PsS X.K P W D G σ H en (if c = x then ms fs e1 else .bad) := p'
    by_cases e : c = x
    · rw [if_pos e] at p2
      intro dd σ' H' r s' xr
      refine ⟨true, by rw [e]; exact hx, fun _ a ha => ?_, fun z => by cases z⟩
      rw [e]
      exact hq D G σ' H' e1 fs a dd s' xr ha (PsS.go r p2)
    · rw [if_neg e] at p2
      exact p2.elim
  | nx e1 => rw [q] at p'; exact p'
  | rt t e1 => rw [q] at p'; exact p'
  | bk e1 => rw [q] at p'; exact p'
  | ct e1 => rw [q] at p'; exact p'
  | bad => rw [q] at p'; exact p'⟩
end
/-! a, b = e -/
def sUnp (t : T → Env → Option Env) (m : M T) : MS := fun e => (m e).st fun d e1 => match t d e1 with
  | some e2 => .nx e2
  | none => .bad
theorem d_unp {X : Cx} {P : List (Nat × Addr)} {W : WX} {tg e : Expr} {g : TG} {t : T → Env → Option Env} {ws : List Nat} {m : M T} {pos : Pos} (he : PE X e (tD X.K P W m)) (hg : PG X tg g) (ht : TgD X.K P ws g t) (hs : swapsWithSole [tg] e pos.line X.env = pure false := by rfl) (hw : swappedStores [tg] e X.env = pure none := by rfl)
    (h1 : (assignEach [tg] X.env).map (·.2) = [assign tg X.env] := by rfl) : PS X (.Assign [tg] e pos) (tS X.K P W (sUnp t m)) := (ps_asg he hg hs hw h1).weak fun D σ H ⟨G, en, s, p⟩ => ⟨G, en, s, stepS p fun d e1 H1 x1 s1 p1 v rv => by
  cases q : t d e1 with
  | none => rw [q] at p1; exact p1.elim
  | some e2 =>
    rw [q] at p1
    exact ht G σ H1 e1 e2 v d _ s1 rv q fun σ2 s2 x2 _ _ => p1 σ2 H1 x2 s2⟩
end TD

end
section

/-! TD26: the laws' source: a new list of its cell, twice, and 0; short words -/
namespace TD
open PySem PySem.Spec PyProof.Rows L2 Evl
variable [HasT]
def spSrc : Sp := fun vs H Q _ => ∃ v, vs = [v] ∧ ∀ a, H a = none → Q (.ref a) (upd H a (.lst [v, v, .int 0]))
structure DefS (P : Program) (w : World) (K : PySem.W.Frag) (mg : Str → Option Value) (base : Heap) (x : Str) (lv : Nat) : Prop where
  ex : ∃ (fa : Addr) (fd : FuncData) (ps : List Str), FnOk P w K mg base (CX P w) lv fa fd ps spSrc ∧ mg x = some (.ref fa) ∧ PySem.W.keepIn K (.ref fa) = true ∧ Binds K fd ps []
def mSrc (m : M T) : M T := fun e => (m e).bind fun d e1 => .ok (.list [d, d, .int 0]) e1
theorem df_src {X : Cx} {P : List (Nat × Addr)} {W : WX} {e : Expr} {m : M T} {p pos : Pos} {x : Str} {lv : Nat} (D : DefS X.prog X.w X.K X.mg X.base x lv) (hr : Room lv X.A) (lt : Lets X W) (he : PE X e (tD X.K P W m)) (hg : Gl X x := by rfl) (hdb : (x == ("__debug__" : Str)) = false := by decide)
    (hs : starEach [e] X.env = (false, eval e X.env) :: starEach [] X.env := by rfl) (hpl : (backTo pos (starEach [] X.env)).any (·.1) = false := by rfl) : PE X (.Call (.Name x p) [e] [] pos) (tDF X.K P W (mSrc m)) := by
  obtain ⟨fa, fd, ps, F1, g, kp, bd⟩ := D.ex
  refine (pe_callS F1 hr hg g kp bd lt (pa_cons he pa_nil hs) hdb hs hpl).weak fun σ H Q ⟨G, en, s, p⟩ => ⟨G, en, s, stepF p fun d e1 H1 x1 s1 p1 v rv => ⟨v, rfl, fun a ha => p1.new s1 ha (.lst upd_same (.cons rv (.cons rv (.cons (.int 0) .nil))))⟩⟩
section
variable {X : Cx} {P : List (Nat × Addr)} {W : WX} {e a b : Expr} {m ma mb : M T} {p pos : Pos} {k : Nat}
theorem hu65 {A : Around} {k : Nat} (hr : Room k A) : A.units + 65 < cLine := by
  have := hr.un
  omega
theorem hu1 {A : Around} {k : Nat} (hr : Room k A) : A.units + 1 < cLine := by
  have := hr.un
  omega
theorem dd_lenA (T : Nm X.mg) (he : PE X e (tD X.K P W m)) (hg : Gl X "len" := by rfl) (hs : starEach [e] X.env = (false, eval e X.env) :: starEach [] X.env := by rfl) (hpl : (backTo pos (starEach [] X.env)).any (·.1) = false := by rfl) : PE X (.Call (.Name "len" p) [e] [] pos) (tD X.K P W (mUn lenA m)) :=
  call1 cad_lenA he hs fun h => pe_callB cr_lenA hg T.len PySem.boot_len h (by decide) (by decide) hs hpl
theorem dd_max1 (T : Nm X.mg) (hc : X.calm = true) (he : PE X e (tD X.K P W m)) (hg : Gl X "max" := by rfl) (hs : starEach [e] X.env = (false, eval e X.env) :: starEach [] X.env := by rfl) (hpl : (backTo pos (starEach [] X.env)).any (·.1) = false := by rfl) : PE X (.Call (.Name "max" p) [e] [] pos) (tD X.K P W (mUn maxKT m)) :=
  call1 cad_maxA he hs fun h => pe_callB (cr_maxA hc) hg T.max PyProof.Rows.boot_max h (by decide) (by decide) hs hpl
theorem dd_min1 (T : Nm X.mg) (hc : X.calm = true) (he : PE X e (tD X.K P W m)) (hg : Gl X "min" := by rfl) (hs : starEach [e] X.env = (false, eval e X.env) :: starEach [] X.env := by rfl) (hpl : (backTo pos (starEach [] X.env)).any (·.1) = false := by rfl) : PE X (.Call (.Name "min" p) [e] [] pos) (tD X.K P W (mUn minKT m)) :=
  call1 cad_minA he hs fun h => pe_callB (cr_minA hc) hg T.min PyProof.Rows.boot_min h (by decide) (by decide) hs hpl
theorem dd_sorted1 (T : Nm X.mg) (hc : X.calm = true) (he : PE X e (tD X.K P W m)) (hg : Gl X "sorted" := by rfl) (hs : starEach [e] X.env = (false, eval e X.env) :: starEach [] X.env := by rfl) (hpl : (backTo pos (starEach [] X.env)).any (·.1) = false := by rfl) : PE X (.Call (.Name "sorted" p) [e] [] pos) (tD X.K P W (mUn sortKT m)) :=
  call1 cad_sortK he hs fun h => pe_callB (call_sortedDI hc) hg T.sorted PyProof.Rows.boot_sorted h (by decide) (by decide) hs hpl
end
/-- what a display, a dict, a copy tells is a dict -/
theorem dict_of {m : M T} {en e1 : Env} {d : T} (h : mDictOf m en = .ok d e1) : ∃ ps, d = .dict ps := by
  unfold mDictOf at h
  cases q : m en with
  | ok x e2 =>
    rw [q] at h
    cases x with
    | dict ps =>
      have h' : (if flatKs ps = true then R.ok (.dict ps) e2 else .bad) = .ok d e1 := h
      by_cases f : flatKs ps = true
      · rw [if_pos f] at h'; cases h'; exact ⟨ps, rfl⟩
      · rw [if_neg f] at h'; cases h'
    | _ => cases h
  | ex c fs e2 => rw [q] at h; cases h
  | bad => rw [q] at h; cases h
theorem disp_of {mk mv : M T} {en e1 : Env} {d : T} (h : mDisp1 mk mv en = .ok d e1) : ∃ ps, d = .dict ps := by
  unfold mDisp1 at h
  cases q : mk en with
  | ok k e2 =>
    rw [q] at h
    have h1 : ((mv e2).bind fun v e => match keyT k with | some k => R.ok (T.dict [(kD k, v)]) e | none => .bad) = .ok d e1 := h
    cases q2 : mv e2 with
    | ok v e3 =>
      rw [q2] at h1
      have h2 : (match keyT k with | some k => R.ok (T.dict [(kD k, v)]) e3 | none => .bad) = .ok d e1 := h1
      cases q3 : keyT k with
      | none => rw [q3] at h2; cases h2
      | some k' => rw [q3] at h2; cases h2; exact ⟨_, rfl⟩
    | ex c fs e3 => rw [q2] at h1; cases h1
    | bad => rw [q2] at h1; cases h1
  | ex c fs e2 => rw [q] at h; cases h
  | bad => rw [q] at h; cases h
end TD

end
section

/-! TD27: x[i] = e, x an own list -/
namespace TD
open PySem PySem.Spec PyProof.Rows L2 Evl
variable [HasT]
def sPutL (i : Nat) (mk mv : M T) : MS := fun e => (mv e).st fun d e1 => match e1[i]? with
  | some (.own (.list _)) => (mk e1).st fun k e2 => match e2[i]? with
    | some (.own (.list ds)) => match (asI k).bind (ixN ds.length) with
      | some n => .nx (e2.set i (.own (.list (ds.set n d))))
      | none => .bad
    | _ => .bad
  | _ => .bad
theorem d_putL {X : Cx} {P : List (Nat × Addr)} {W : WX} {o ke ve : Expr} {mk mv : M T} {i : Nat} {pos pos' : Pos} (hg : PG X (.Subscript o ke pos') (gSub (tVar i) (tD X.K P W mk) rSetL)) (hv : PE X ve (tD X.K P W mv))
    (hs : swapsWithSole [.Subscript o ke pos'] ve pos.line X.env = pure false := by rfl) (hw : swappedStores [.Subscript o ke pos'] ve X.env = pure none := by rfl) (h1 : (assignEach [.Subscript o ke pos'] X.env).map (·.2) = [assign (.Subscript o ke pos') X.env] := by rfl) :
    PS X (.Assign [.Subscript o ke pos'] ve pos) (tS X.K P W (sPutL i mk mv)) := (ps_asg hv hg hs hw h1).weak fun D σ H ⟨G, en, s, p⟩ => ⟨G, en, s, stepS p fun d e1 H1 x1 s1 p1 v rv => by
  split at p1
  · rename_i ds0 q
    obtain ⟨a, hs, _, _⟩ := s1.sa.ownAt q
    refine ⟨.ref a, hs, G, e1, s1, stepS p1 fun k e2 H2 x2 s2 p2 y ry => ?_⟩
    split at p2
    · rename_i ds q2
      obtain ⟨a', hs', ho', _⟩ := s2.sa.ownAt q2
      have ea : a' = a := by
        rw [hs] at hs'
        cases hs'
        rfl
      subst ea
      obtain ⟨vs, hl, rl⟩ := own_list ho'
      cases k with
      | int j =>
        have p3 : PsS X.K P W D G σ H2 e2 (match ixN ds.length j with | some n => .nx (e2.set i (.own (.list (ds.set n d)))) | none => .bad) := p2
        cases qj : ixN ds.length j with
        | none => rw [qj] at p3; exact p3.elim
        | some n =>
          rw [qj] at p3
          rw [rp_int ry]
          refine ⟨a', vs, j, n, rfl, rfl, hl, by rw [rl.length]; exact qj, ?_⟩
          obtain ⟨s3, r3⟩ := s2.put (o' := .lst (vs.set n v)) q2 hs (.lst upd_same (rl.set (x2.rp rv) n))
          exact p3 σ _ r3 s3
      | _ => exact p2.elim
    · exact p2.elim
  · exact p1.elim⟩
end TD

end
section

/-! TD28: defs that tell something new -/
namespace TD
open PySem PySem.Spec PyProof.Rows L2 Evl
variable [HasT]
section
variable (K : PySem.W.Frag) (P : List (Nat × Addr)) (W : WX)
def PsSF (D : Ends) (G : List Addr) (σ : Sg) (H : Hp) (e : Env) (m : M T) : RS → Prop
  | .nx e1 => ∀ σ' H', Rel G σ H e σ' H' e1 → SD K P G σ' H' e1 → PsF K P W (fun _ _ a H' => D.rt (.ref a) H') G σ' H' e1 (m e1)
  | .ex c fs e' => ∀ dd σ' H', Rel G σ H e σ' H' e' → SD K P G σ' H' e' → XR K (hide (G ++ owns e' σ') H') H' dd fs → W (.ref (He.ga K c)) (some dd) σ' H'
  | _ => False
def tSF (b : MS) (m : M T) : TS := fun D σ H => ∃ G e, SD K P G σ H e ∧ PsSF K P W D G σ H e m (b e)
end
section
variable {K : PySem.W.Frag} {P : List (Nat × Addr)} {W : WX} {G : List Addr} {σ σ1 : Sg} {H H1 : Hp} {e e1 : Env}
theorem PsSF.go {D : Ends} {m : M T} {r : RS} (x : Rel G σ H e σ1 H1 e1) (p : PsSF K P W D G σ H e m r) : PsSF K P W D G σ1 H1 e1 m r := by
  cases r with
  | nx e2 => exact fun σ2 H2 y s => p σ2 H2 (x.trans y) s
  | ex c fs e2 => exact fun dd σ2 H2 y s => p dd σ2 H2 (x.trans y) s
  | _ => exact p.elim
end
section
variable {X : Cx} {P : List (Nat × Addr)} {W : WX} {e : Expr} {st : Stmt} {rest : List Stmt} {m : M T} {a b : MS} {pos : Pos}
theorem ds_oneF (he : PE X e (tDF X.K P W m)) : PSs X [.Return (some e) pos] (tSF X.K P W sNext m) := (pss_one (ps_ret he)).weak fun D σ H ⟨G, en, s, p⟩ => ⟨G, en, s, p σ H .refl s⟩
theorem ds_consF (h1 : PS X st (tS X.K P W a)) (h2 : PSs X rest (tSF X.K P W b m)) : PSs X (st :: rest) (tSF X.K P W (sSeq a b) m) := (pss_cons h1 h2).weak fun D σ H ⟨G, en, s, p⟩ => by
  refine ⟨G, en, s, ?_⟩
  have p' : PsSF X.K P W D G σ H en m (match a en with | .nx e1 => b e1 | r => r) := p
  cases q : a en with
  | nx e1 =>
    rw [q] at p'
    exact fun σ1 H1 x1 s1 => ⟨G, e1, s1, PsSF.go x1 p'⟩
  | ex c fs e1 => rw [q] at p'; exact p'
  | rt t e1 => rw [q] at p'; exact p'.elim
  | bk e1 => rw [q] at p'; exact p'.elim
  | ct e1 => rw [q] at p'; exact p'.elim
  | bad => rw [q] at p'; exact p'.elim
end
/-- what is asked of a call that tells something new -/
def PFO (K : PySem.W.Frag) (S : List Addr) (H : Hp) (Q : VK) (E : XK) : RF → Prop
  | .ok d => ∀ a H', a ∉ S → Ex (hide S H) (hide (a :: S) H') → (∀ b ∈ S, ∀ o, NoT o → H b = some o → H' b = some o) → LamX.Tabs HasT.T H' → Own K (hide (a :: S) H') H' a d → Q (.ref a) H'
  | .ex c fs => ∀ dd H', Ex (hide S H) (hide S H') → (∀ a ∈ S, ∀ o, NoT o → H a = some o → H' a = some o) → LamX.Tabs HasT.T H' → XR K (hide S H') H' dd fs → E (.ref (He.ga K c)) (some dd) H'
  | .bad => False
def spO (K : PySem.W.Frag) (n : Nat) (f : F) : Sp := fun vs H Q E => vs.length = n ∧ ∃ (S : List Addr) (ds : List T), (GL S H ∧ LamX.Tabs HasT.T H ∧ ∀ p ∈ HasT.T, p.1 ∈ S) ∧ S.Nodup ∧ RpA K (hide S H) vs ds ∧ PFO K S H Q E (f ds)
def outO (m : M T) : RS → RF
  | .nx e1 => match m e1 with
    | .ok d _ => .ok d
    | .ex c fs _ => .ex c fs
    | .bad => .bad
  | .ex c fs _ => .ex c fs
  | _ => .bad
def runO (N : Nat) (b : MS) (m : M T) : F := fun ds => outO m (b (ds.map .val ++ List.replicate (N - ds.length) .un))
section
variable {P : Program} {w : World} {K : PySem.W.Frag} {mg : Str → Option Value} {base : Heap} {x qual : Str} {params : Arguments} {body : List Stmt} {scope : Scope} {f : Addr} {fd : FuncData}
theorem fun_to {N ps : List Str} {k : Nat} {b : MS} {m : M T} (F : FunD K x qual params body scope [] [] f fd) (S : FnScope N ps scope) (hn : ps.length ≤ N.length)
    (hb : ∀ (cdv : Value) (A : Around) (outer : List PySem.Env) (s : Shared) (H : Hp) (E : XK), Room k (A.deeper (envOfC qual scope s.heap.objs.size f cdv)) →
      PSs (BX P w K mg base N qual scope f cdv A outer s H E) body (tSF K [] (fun cls d _ H => E cls d H) b m)) : FnOk P w K mg base (CX P w) (k + 1) f fd ps (spO K ps.length (runO N.length b m)) := by
  refine F.ok S (fun vs H Q E h => h.1) fun cdv A outer s H vs Q E hr h => ⟨_, hb cdv A outer s H E hr, ?_⟩
  obtain ⟨hl, G, ds, ⟨wl, tb, th⟩, nd, ra, p⟩ := h
  have hd : ds.length = vs.length := ra.length.symm
  have ho : owns (ds.map .val ++ List.replicate (N.length - ds.length) .un) (L2.start N vs) = [] := by
    unfold L2.start
    rw [hd]
    exact owns_start ra.length
  refine ⟨G, ds.map .val ++ List.replicate (N.length - ds.length) .un, ⟨?_, ?_, wl, (fun q hq => by cases hq), tb, th⟩, ?_⟩
  · rw [ho, List.append_nil]
    unfold L2.start
    rw [hd]
    exact sa_start ra
  · rw [ho, List.append_nil]
    exact nd
  · have p' : PFO K G H Q E (outO m (b (ds.map .val ++ List.replicate (N.length - ds.length) .un))) := p
    have sub : ∀ {σ' : Sg} {H' : Hp} {e' : Env}, Ex (hide (G ++ owns e' σ') H') (hide G H') := hide_sub fun a ha => List.mem_append_left _ ha
    have rel : ∀ {σ' : Sg} {H' : Hp} {e' : Env}, Rel G (L2.start N vs) H (ds.map .val ++ List.replicate (N.length - ds.length) .un) σ' H' e' → Ex (hide G H) (hide (G ++ owns e' σ') H') := fun r => by
      have r1 := r.st
      rw [ho, List.append_nil] at r1
      exact r1
    cases q : b (ds.map .val ++ List.replicate (N.length - ds.length) .un) with
    | nx e1 =>
      rw [q] at p'
      intro σ' H' r s'
      have p2 : PFO K G H Q E (match m e1 with | .ok d _ => .ok d | .ex c fs _ => .ex c fs | .bad => .bad) := p'
      cases q2 : m e1 with
      | ok d e2 =>
        rw [q2] at p2
        intro a H2 x g s2 o
        have sb : Ex (hide (a :: (G ++ owns e2 σ')) H2) (hide (a :: G) H2) := hide_sub fun c hc => by
          rcases List.mem_cons.mp hc with z | z
          · rw [z]; exact List.mem_cons_self
          · exact List.mem_cons_of_mem _ (List.mem_append_left _ z)
        exact p2 a H2 (fun z => s2.notin (List.mem_append_left _ z)) (((rel r).trans x).trans sb) (fun c hc u n hu => g c hc u n (r.gs c hc u n hu)) s2.tb (o.mono sb fun _ z => z)
      | ex c fs e2 =>
        rw [q2] at p2
        exact fun dd H2 r2 s2 xr => p2 dd H2 ((rel (r.trans r2)).trans sub) (r.trans r2).gs s2.tb (by
          obtain ⟨gs, h1, h2, h3⟩ := xr
          exact ⟨gs, h1, h2, h3.mono sub⟩)
      | bad => rw [q2] at p2; exact p2.elim
    | ex c fs e' =>
      rw [q] at p'
      exact fun dd σ' H' r s' xr => p' dd H' ((rel r).trans sub) r.gs s'.tb (by
        obtain ⟨gs, h1, h2, h3⟩ := xr
        exact ⟨gs, h1, h2, h3.mono sub⟩)
    | rt t e' => rw [q] at p'; exact p'.elim
    | bk e' => rw [q] at p'; exact p'.elim
    | ct e' => rw [q] at p'; exact p'.elim
    | bad => rw [q] at p'; exact p'.elim
end
structure DefO (P : Program) (w : World) (K : PySem.W.Frag) (mg : Str → Option Value) (base : Heap) (x : Str) (lv n : Nat) (f : F) : Prop where
  ex : ∃ (fa : Addr) (fd : FuncData) (ps : List Str), FnOk P w K mg base (CX P w) lv fa fd ps (spO K n f) ∧ mg x = some (.ref fa) ∧ PySem.W.keepIn K (.ref fa) = true ∧ Binds K fd ps []
section
variable {X : Cx} {P : List (Nat × Addr)} {W : WX} {e : Expr} {es : List Expr} {ml : M (List T)} {p pos : Pos}
theorem stepAF {K : PySem.W.Frag} {G : List Addr} {σ : Sg} {H : Hp} {en : Env} {A : T → Env → Addr → Hp → Prop} {f : List T → Env → R T} {Q' : List V → Hp → Prop} (s : SD K P G σ H en) (p : PsF K P W A G σ H en (R.bind (ml en) f))
    (k : ∀ d e1 v H', ml en = .ok d e1 → Rel G σ H en σ H' e1 → SD K P G σ H' e1 → RpA K (hide (G ++ owns e1 σ) H') v d → PsF K P W A G σ H' e1 (f d e1) → Q' v H') : tDA K P W ml σ H Q' := by
  refine ⟨G, en, s, ?_⟩
  cases q : ml en with
  | ok d e1 =>
    rw [q] at p
    exact fun H' x s1 v r => k d e1 v H' q x s1 r (PsF.go x p)
  | ex c fs e1 => rw [q] at p; exact p
  | bad => rw [q] at p; exact p
/-- a call of such a def: something new -/
theorem df_fn {x : Str} {lv n : Nat} {f : F} (D : DefO X.prog X.w X.K X.mg X.base x lv n f) (hr : Room lv X.A) (lt : Lets X W) (hn : ∀ {e : Env} {ds : List T} {e1 : Env}, ml e = .ok ds e1 → ds.length = n) (ha : PA X (e :: es) (tDA X.K P W ml)) (hg : Gl X x := by rfl) (hdb : (x == ("__debug__" : Str)) = false := by decide)
    (hs : starEach (e :: es) X.env = (false, eval e X.env) :: starEach es X.env := by rfl) (hpl : (backTo pos (starEach es X.env)).any (·.1) = false := by rfl) : PE X (.Call (.Name x p) (e :: es) [] pos) (tDF X.K P W (mF f ml)) := by
  obtain ⟨fa, fd, ps, F1, g, kp, bd⟩ := D.ex
  refine (pe_callS F1 hr hg g kp bd lt ha hdb hs hpl).weak fun σ H Q ⟨G, en, s, p⟩ => stepAF s p fun d e1 v H1 hq x1 s1 r1 p1 => ⟨by rw [r1.length]; exact hn hq, _, d, ⟨s1.gla, s1.tb, s1.tha⟩, s1.nd, r1, ?_⟩
  have back : ∀ {a : Addr} {H' : Hp} {d : T}, a ∉ G ++ owns e1 σ → Ex (hide (G ++ owns e1 σ) H1) (hide (a :: (G ++ owns e1 σ)) H') → (∀ b ∈ G ++ owns e1 σ, ∀ o, NoT o → H1 b = some o → H' b = some o) → LamX.Tabs HasT.T H' → Own X.K (hide (a :: (G ++ owns e1 σ)) H') H' a d → SD X.K P (a :: G) σ H' e1 := fun {a H' d} na x g tb o =>
    ⟨s1.sa.mono x (s1.keep g), List.nodup_cons.mpr ⟨na, s1.nd⟩, fun b hb => by
      rcases List.mem_cons.mp hb with z | z
      · obtain ⟨o1, h1, h2⟩ := plain_own o
        rw [z]
        exact .inl ⟨o1, h1, h2.1⟩
      · exact s1.gl.go (fun b hb => g b (List.mem_append_left _ hb)) b z, s1.pr, tb, fun p hp => List.mem_cons_of_mem _ (s1.th p hp)⟩
  have p2 : PsF X.K P W (fun _ _ a H' => Q (.ref a) H') G σ H1 e1 (match f d with | .ok d => .ok d e1 | .ex c fs => .ex c fs e1 | .bad => .bad) := p1
  cases q : f d with
  | ok r =>
    rw [q] at p2
    exact fun a H' na x g tb o => p2 a H' x (fun b hb => g b (List.mem_append_left _ hb)) (back na x g tb o) o
  | ex c fs =>
    rw [q] at p2
    exact fun dd H' x g tb xr => p2 dd H' ⟨x, fun a ha => g a (List.mem_append_left _ ha)⟩ ⟨s1.sa.mono x (s1.keep g), s1.nd, s1.gl.go fun a ha => g a (List.mem_append_left _ ha), s1.pr, tb, s1.th⟩ xr
  | bad => rw [q] at p2; exact p2.elim
/-- something new as a value: a list -/
theorem d_valL {m : M T} (h : PE X e (tDF X.K P W m)) (hm : ∀ en d e1, m en = .ok d e1 → ∃ ds, d = .list ds) : PE X e (tD X.K P W m) := h.weak fun σ H Q ⟨G, en, s, p⟩ => ⟨G, en, s, by
  cases q : m en with
  | ex c fs e1 => rw [q] at p; exact p
  | bad => rw [q] at p; exact p
  | ok d e1 =>
    rw [q] at p
    obtain ⟨ds, rfl⟩ := hm en d e1 q
    intro a H' x g s1 o
    obtain ⟨vs, h1, r⟩ := own_list o
    have sub : Ex (hide (a :: (G ++ owns e1 σ)) H') (hide (G ++ owns e1 σ) H') := hide_sub fun b hb => List.mem_cons_of_mem _ hb
    exact p H' ⟨x.trans sub, g⟩ ⟨s1.sa.mono sub fun _ _ _ z => z, (List.nodup_cons.mp s1.nd).2, fun b hb => s1.gl b (List.mem_cons_of_mem _ hb), s1.pr, s1.tb, fun p hp => (List.mem_cons.mp (s1.th p hp)).resolve_left (tabs_ne s1.tb h1 plain_lst p hp)⟩ _ (.lst (hide_at h1 s1.notin) (r.mono sub))⟩
end
end TD

end
section

/-! TD29: f(..).clear(): something new is emptied and forgotten -/
namespace TD
open PySem PySem.Spec PyProof.Rows L2 Evl
variable [HasT]
section
variable {X : Cx} {P : List (Nat × Addr)} {W : WX} {o : Expr} {m : M T} {apos cpos pos : Pos}
theorem d_clear (ho : PE X o (tDF X.K P W m)) (hm : ∀ en d e1, m en = .ok d e1 → ∃ ds, d = .list ds) (hbase : attributeBase o "clear" X.env (eval o X.env) = eval o X.env := by rfl) (hline : (apos.endLine == cpos.line) = true := by rfl)
    (hsw : swapsWith (.Call (.Attribute o "clear" apos) [] [] cpos) none pos.line X.env = pure false := by rfl) : PS X (.Expr (.Call (.Attribute o "clear" apos) [] [] cpos) pos) (tS X.K P W (sDrop m)) :=
  (ps_expr (pe_bm0 PySem.F.plainAttrs_list PySem.F.slot_list_clear PySem.F.type_list_clear mt_clear ho hbase hline) hsw).weak fun D σ H ⟨G, en, s, p⟩ => ⟨G, en, s, by
    have p' : PsS X.K P W D G σ H en ((m en).st fun _ e1 => .nx e1) := p
    cases q : m en with
    | ex c fs e1 => rw [q] at p'; exact fun dd H' x s1 => p' dd σ H' x s1
    | bad => rw [q] at p'; exact p'
    | ok d e1 =>
      rw [q] at p'
      obtain ⟨ds, rfl⟩ := hm en d e1 q
      intro a H' x g s1 o
      obtain ⟨vs, h1, r⟩ := own_list o
      refine ⟨.inl ⟨rfl, _, sq_of h1⟩, a, vs, rfl, rfl, h1, ?_⟩
      have hu : hide (a :: (G ++ owns e1 σ)) (upd H' a (.lst [])) = hide (a :: (G ++ owns e1 σ)) H' := hide_upd List.mem_cons_self
      have sub : Ex (hide (a :: (G ++ owns e1 σ)) (upd H' a (.lst []))) (hide (G ++ owns e1 σ) (upd H' a (.lst []))) := hide_sub fun b hb => List.mem_cons_of_mem _ hb
      have s2 := s1.ghostUpd (o := .lst []) h1 plain_lst plain_lst
      refine p' σ _ ⟨(show Ex (hide (G ++ owns en σ) H) (hide (a :: (G ++ owns e1 σ)) (upd H' a (.lst []))) by rw [hu]; exact x).trans sub, fun b hb u nu hb2 => ?_⟩ ⟨s2.sa.mono sub fun _ _ _ z => z, (List.nodup_cons.mp s2.nd).2, fun b hb => s2.gl b (List.mem_cons_of_mem _ hb), s2.pr, s2.tb, fun p hp => (List.mem_cons.mp (s2.th p hp)).resolve_left (tabs_ne s1.tb h1 plain_lst p hp)⟩
      rw [upd_ne fun z => s1.notin (by rw [← z]; exact List.mem_append_left _ hb)]
      exact g b hb u nu hb2⟩
theorem listF {f : F} {ml : M (List T)} (h : ∀ ds d, f ds = .ok d → ∃ l, d = .list l) : ∀ en d e1, mF f ml en = .ok d e1 → ∃ ds, d = .list ds := fun en d e1 q => by
  unfold mF at q
  cases z : ml en with
  | ok ds e2 =>
    rw [z] at q
    have q2 : (match f ds with | .ok d => R.ok d e2 | .ex c fs => .ex c fs e2 | .bad => .bad) = .ok d e1 := q
    cases z2 : f ds with
    | ok r => rw [z2] at q2; cases q2; exact h ds _ z2
    | ex c fs => rw [z2] at q2; cases q2
    | bad => rw [z2] at q2; cases q2
  | ex c fs e2 => rw [z] at q; cases q
  | bad => rw [z] at q; cases q
end
/-! try: .. except x as n: return (c, n.f == v) -/
def msEq (c f : Str) (i j : Nat) (fs : List (Str × T)) : MS := fun e => match fs.map (·.2), e[j]? with
  | [d], some (.val t) => if i < e.length ∧ fs.map (·.1) = [f] ∧ shp d = true ∧ shp t = true then .rt (.tuple [.str c, .bool (eqP d t)]) e else .bad
  | _, _ => .bad
section
variable {X : Cx} {P : List (Nat × Addr)} {W : WX} {x n v c f : Str} {i j : Nat} {flds : List Str} {body : List Stmt} {np pos pos' p1 p2 p3 p4 pc pt pr : Pos} {jj k : _} {mb : MS}
theorem d_tryEq (hs : X.stack = X.env :: X.outer) (hf : X.env.frame = some X.env.locals) (hN : X.N.Nodup) (hi : X.N[i]? = some n) (hln : X.env.kindOf n = some .local) (hg : Gl X x) (hdb : (x == ("__debug__" : Str)) = false) (Kx : Kl X.prog X.w X.K X.mg X.base x flds) (hfl : f ∈ flds) (tk : Takes X W)
    (hx : PySem.W.exmOne X.K (.ref (He.ga X.K x)) (.ref (He.ga X.K x)) = some true) (hij : j ≠ i) (hu : X.A.units + 64 < cLine)
    (hb : ∀ (W : WX) (pn : List (Addr × Obj)) (xe : Value → Shared → Prop), Takes (X.tr pn xe) W → PassesOwn (model X.prog X.w) X.A X.env xe → PSs (X.tr pn xe) body (tS X.K P W mb))
    (hn : ∀ (a : Addr) (pn : List (Addr × Obj)), PE (X.suite a pn) (.Name n p1) (tVar i)) (hv : ∀ (a : Addr) (pn : List (Addr × Obj)), PE (X.suite a pn) (.Name v p3) (tVar j))
    : 
    PS X (.Try body [.ExceptHandler (some (.Name x np)) (some n) [.Return (some (.Tuple [.Constant (.str c) jj pc, .Compare (.Attribute (.Name n p1) f p2) [.Eq] [.Name v p3] p4] k pt)) pr] pos'] [] [] pos) (tS X.K P W (sTry x mb (msEq c f i j))) := by
  refine d_try (ts := fun a cls d D σ H => tTup (tCons (tC (.str c)) (tCons (tOp (rEqD X.K) (tXf a cls d (He.ga X.K x) f (tVar i)) (tVar j)) tNil)) σ H D.rt) hs hf hN hi hln ⟨hg, hdb, .inl Kx.g⟩ tk hx hb (fun a oe cls d pn hz hv' => ?_) fun D G σ H e fs a dd s xr ha p => ?_
  · exact pss_one (ps_ret (pe_tup (pa_cons pe_str (pa_cons (pe_cmpR (op_eqD (X := X.suite a ((a, oe) :: pn)) hu) (pe_xf Kx.xf (Kx.no f hfl) hz hv' (hn a _)) (hv a _) (nomark _)) pa_nil))))
  · obtain ⟨gs, hd, hn1, hr⟩ := xr
    have p' : PsS X.K P W D G σ H e (match fs.map (·.2), e[j]? with
      | [d], some (.val t) => if i < e.length ∧ fs.map (·.1) = [f] ∧ shp d = true ∧ shp t = true then .rt (.tuple [.str c, .bool (eqP d t)]) e else .bad
      | _, _ => .bad) := p
    split at p'
    · rename_i d t q1 q2
      by_cases hz : i < e.length ∧ fs.map (·.1) = [f] ∧ shp d = true ∧ shp t = true
      · rw [if_pos hz] at p'
        rw [q1] at hr
        rw [hz.2.1] at hn1
        obtain ⟨u, hu2, ru⟩ := s.sa.val q2
        match gs, hn1, hr with
        | [(g, w)], hn1, hr =>
          cases hn1
          cases hr with
          | cons rw' rt' =>
          refine ⟨.ref a, List.getElem?_set_self ?_, rfl, rfl, dd, _, w, rfl, hd, by simp, u, by rw [List.getElem?_set_ne (Ne.symm hij)]; exact hu2, toP d, toP t, toDp (rw'.mono (hide_ex _ _)) (lay_of hz.2.2.1), toDp (ru.mono (hide_ex _ _)) (lay_of hz.2.2.2), hz.2.2.1, hz.2.2.2, sz_of (by show 2 ≤ 100000; decide), fun l hl => ?_⟩
          · rw [← s.sa.length]; exact hz.1
          · exact p' _ σ _ (.ex (Ex.new hl)) (s.ex (Ex.new hl)) (new_tup s.wl hl (.cons (.str c) (.cons (.bl _) .nil)))
      · rw [if_neg hz] at p'
        exact p'.elim
    · exact p'.elim
end
end TD

end
section

/-! TD30: sorted(xs, key=lambda x: (sum(x), x)) over tuples of ints -/
namespace TD
open PySem PySem.Spec PyProof.Rows L2 Evl
variable [HasT]
section
variable {K : PySem.W.Frag} {P : List (Nat × Addr)} {W : WX} {G : List Addr} {σ : Sg} {H H1 : Hp} {e : Env}
theorem SD.exN (s : SD K P G σ H e) (x : ExN H H1) (tb : LamX.Tabs HasT.T H1) : SD K P G σ H1 e ∧ Rel G σ H e σ H1 e :=
  ⟨⟨s.sa.mono (hide_monoN x) (s.keep fun a _ o n h => x a o h n), s.nd, s.gl.go fun a _ o n h => x a o h n, s.pr, tb, s.th⟩, ⟨hide_monoN x, fun a _ o n h => x a o h n⟩⟩
end
/-- the ints of a tuple -/
def tupI : T → Option (List Int)
  | .tuple ds => intsT ds
  | _ => none
def keyD (g : List Int → Int) : T → PyData := fun d => .tuple [.int (g ((tupI d).getD [])), toP d]
theorem toPs_ints : ∀ ns : List Int, toPs (ns.map T.int) = ns.map PyData.int
  | [] => by simp [toPs]
  | n :: ns => by simp [toPs, toP, toPs_ints ns]
def sortKL (g : List Int → Int) (ds : List T) : Option T := if ((ds.all fun d => (tupI d).isSome) && decide (ds.length ≤ 100000)) = true then some (.list (ds.mergeSort (PySem.W.dataLe false (keyD g)))) else none
def sortGT (g : List Int → Int) : T → Option T
  | .list ds => sortKL g ds
  | _ => none
theorem tupI_some {d : T} {ns : List Int} (h : tupI d = some ns) : d = .tuple (ns.map .int) := by
  cases d with
  | tuple ds =>
    have h' : intsT ds = some ns := h
    have k : ∀ (ds : List T) (ns : List Int), intsT ds = some ns → ds = ns.map .int := fun ds => by
      induction ds with
      | nil => intro ns h; cases h; rfl
      | cons d ds ih =>
        intro ns h
        cases d with
        | int i =>
          unfold intsT at h
          cases q : intsT ds with
          | none => rw [q] at h; cases h
          | some ms => rw [q] at h; cases h; rw [ih ms q]; rfl
        | _ => cases h
    rw [k ds ns h']
  | _ => cases h
theorem alike_ints : ∀ xs ys : List Int, PySem.W.alikeAll (xs.map PyData.int) (ys.map PyData.int) = true
  | [], _ => by simp [PySem.W.alikeAll]
  | _ :: _, [] => by simp [PySem.W.alikeAll]
  | _ :: xs, _ :: ys => by
    have h := alike_ints xs ys
    simp [PySem.W.alikeAll, PySem.W.alike, h]
theorem depthAll_ints : ∀ xs : List Int, PyData.depthAll (xs.map PyData.int) = 0
  | [] => by simp [PyData.depthAll]
  | _ :: xs => by simp [PyData.depthAll, PyData.depth, depthAll_ints xs]
theorem intsT_map : ∀ ns : List Int, intsT (ns.map T.int) = some ns
  | [] => rfl
  | n :: ns => by simp [intsT, intsT_map ns]
theorem keyD_ints {g : List Int → Int} {ns : List Int} : keyD g (.tuple (ns.map .int)) = .tuple [.int (g ns), .tuple (ns.map .int)] := by
  show PyData.tuple [.int (g ((intsT (ns.map T.int)).getD [])), _] = _
  rw [intsT_map ns]
  simp [toP, toPs_ints]
theorem depth_key {g : List Int → Int} {ns : List Int} : (keyD g (.tuple (ns.map .int))).depth ≤ 3 := by
  rw [keyD_ints]
  simp [PyData.depth, PyData.depthAll, depthAll_ints]
section
variable {prog : Program} {w : World} {A : Around} {s : Shared}
/-- a call of the lambda: b(x) and x -/
theorem key_turn {g : List Int → Int} {f a c' : Addr} {q b x : Str} {id : String} {params : Arguments} {scope : Scope} {pm ctv : Value} {p1 p2 p3 p4 p5 : Pos} {k1 : Nat} {mg mb : Str → Option Value} {xs : Array (Int × Tok)}
    (hd : A.depth < recursionLimit) (hf : s.heap.get? f = some (PySem.W.kla_obj "<lambda>" q params (.Tuple [.Call (.Name b p1) [.Name x p2] [] p3, .Name x p4] k1 p5) scope [] pm c' ctv)) (hc : s.heap.CodeRec (.ref c') q) (nl : s.heap.NoLimit)
    (hg : s.heap.Ns mainGlobals mg) (hmg : mg b = none) (hb : s.heap.Ns builtinsNs mb) (hmb : mb b = some (.builtin id)) (ht : s.heap.IsTuple a (intItems xs))
    (hk : scope.kind = .function) (hco : scope.isCoroutine = false) (hgen : scope.isGenerator = false) (hcell : ∀ y ∈ scope.names, y.2 ≠ .cell) (hx : scope.names.lookup x = some .local) (hbn : scope.names.lookup b = some .globalImplicit)
    (hbind : bindArgs (PySem.W.kla_fn "<lambda>" q params (.Tuple [.Call (.Name b p1) [.Name x p2] [] p3, .Name x p4] k1 p5) scope [] pm (.ref c') ctv) ⟨[.ref a], []⟩ = pure [(x, .ref a)])
    (hdb : (b == ("__debug__" : Str)) = false) (hdx : (x == ("__debug__" : Str)) = false)
    (call_ : ∀ (A' : Around) (E : Value → Shared → Prop) (s' : Shared) (Q : Value → Shared → Prop), A'.handled = A.handled → s'.heap.IsTuple a (intItems xs) → (∀ h' tk t', (∀ b o, s'.heap.get? b = some o → h'.get? b = some o) → Q (.int (g (xs.toList.map (·.1))) t') { s' with heap := h', toks := tk }) → wpAny (model prog w) A' (call (.builtin id) [.ref a]) Q E s') :
    wpAny (model prog w) A (call (.ref f) [.ref a]) (PySem.W.KeyPure (.tuple [.int (g (xs.toList.map (·.1))), .tuple (xs.toList.map fun z => .int z.1)]) s) (fun _ _ => False) s := by
  have rc : codeAny (model prog w) A (.call (.ref f) ⟨[.ref a], []⟩) (fun r s' => match r with
      | .ok (.ret u) => PySem.W.KeyPure (.tuple [.int (g (xs.toList.map (·.1))), .tuple (xs.toList.map fun z => .int z.1)]) s u s'
      | _ => False) s := by
    refine PySem.W.kla_callFunE hd hf rfl hco hgen rfl hc ?_
    rw [hbind]
    refine wpAny_pure (wpAny_newFunctionEnv hcell (fun y hy => by rw [List.mem_singleton.mp hy]; exact hx) (fun h₁ hns hsb => ⟨nl.fresh _ hsb, ?_⟩) hk)
    have kp : ∀ b o, s.heap.get? b = some o → h₁.get? b = some o := fun b o e => hsb.extBut b o (Nat.ne_of_lt (Heap.lt_size e)) (Heap.get?_push_of_some _ e)
    have look : ([(x, Value.ref a)] : List (Str × Value)).reverse.lookup x = some (.ref a) := by simp [List.lookup]
    refine PySem.W.kla_codeExpr (wpAny_mono ?_ (fun v s' h => h) (fun e s' (h : False) => h.elim))
    refine wpAny_Tuple_spliced (Calls.spliced_cons (wpAny_Call_Name_kw (Calls.Name_function_global hk hbn (Calls.loadGlobal_builtin (hg.keeps kp) hmg (hb.keeps kp) hmb ?_) hdb)))
    refine PyProof.Rows.callWith_builtin1 (Calls.spliced_cons (wpAny_Name (wpAny_loadName_local hk hx hns look ?_) hdx)) (by rfl) (by rfl)
    refine Calls.spliced_nil ?_
    obtain ⟨to, t1, t2, t3⟩ := ht
    refine call_ _ _ _ _ rfl ⟨to, kp _ _ t1, t2, t3⟩ fun h' tk t' hk2 => ?_
    refine Calls.spliced_cons (wpAny_Name (wpAny_loadName_local hk hx (hns.keeps hk2) look ?_) hdx)
    refine Calls.spliced_nil ⟨by show 2 ≤ sizeLine; exact sz_of (by decide), ?_⟩
    obtain ⟨n3, t3⟩ := t3
    have up : ∀ b o, s.heap.get? b = some o → (h'.push { cls := Value.type "tuple", data := Data.seq #[Value.int (g (xs.toList.map (·.1))) t', .ref a] }).get? b = some o := fun b o e => Heap.get?_push_of_some _ (hk2 _ _ (kp _ _ e))
    refine ⟨_, _, rfl, up, ?_⟩
    have ra : ∀ (h : Heap) (l : List (Int × Tok)), ReadsAll h (l.map fun z => Value.int z.1 z.2) (l.map fun z => PyData.int z.1) [] := fun h l => by
      induction l with
      | nil => exact .nil
      | cons z l ih => exact .cons (as := []) (bs := []) (.int z.1 z.2) ih
    refine .tuple (Heap.get?_push_size _ rfl) rfl rfl ?_
    refine .cons (as := []) (bs := []) (.int _ _) (.cons (as := []) (bs := []) ?_ .nil)
    refine .tuple (up _ _ t1) t2 t3 ?_
    have e3 : (intItems xs).toList = xs.toList.map fun z => Value.int z.1 z.2 := by simp [intItems]
    rw [e3]
    exact ra _ _
  refine wpAny_call (codeAny_mono rc fun r s2 hq => ?_)
  cases r with
  | error e => exact hq.elim
  | ok fl =>
    cases fl with
    | ret u => exact hq
    | next => exact hq.elim
    | brk => exact hq.elim
    | cont => exact hq.elim
theorem ints_items {us : List Value} {ns : List Int} (h : IntsAre us ns) : ∃ xs : Array (Int × Tok), us.toArray = intItems xs ∧ xs.toList.map (·.1) = ns := by
  induction h with
  | nil => exact ⟨#[], by simp [intItems], rfl⟩
  | cons n t h ih =>
    obtain ⟨xs, e1, e2⟩ := ih
    refine ⟨((n, t) :: xs.toList).toArray, ?_, by simp [e2]⟩
    have e3 := congrArg Array.toList e1
    simp [intItems] at e3 ⊢
    exact e3
theorem each_rp {K : PySem.W.Frag} {H0 : Hp} : ∀ {vs : List V} {us : List Value} {ds : List T}, Vals vs us → RpA K H0 vs ds → (ds.all fun d => (tupI d).isSome) = true →
    PySem.W.EachIs (fun u d => ∃ (v : V) (ns : List Int), RelV v u ∧ Rp K H0 v d ∧ d = .tuple (ns.map .int)) us ds
  | _, _, _, .nil, .nil, _ => .nil
  | _, _, _, .cons r1 r2, .cons q1 q2, h => by
    rw [List.all_cons, Bool.and_eq_true] at h
    obtain ⟨ns, hn⟩ := Option.isSome_iff_exists.mp h.1
    exact .cons ⟨_, ns, r1, q1, tupI_some hn⟩ (each_rp r2 q2 h.2)
theorem each_back {K : PySem.W.Frag} {H0 : Hp} {us : List Value} {ds : List T} (h : PySem.W.EachIs (fun u d => ∃ (v : V) (ns : List Int), RelV v u ∧ Rp K H0 v d ∧ d = .tuple (ns.map .int)) us ds) : ∃ vs : List V, Vals vs us ∧ RpA K H0 vs ds := by
  induction h with
  | nil => exact ⟨[], .nil, .nil⟩
  | cons h t ih =>
    obtain ⟨v, ns, r, q, _⟩ := h
    obtain ⟨vs, r2, q2⟩ := ih
    exact ⟨v :: vs, .cons r r2, .cons q q2⟩
end
def SumB : List Int → Int := fun ns => ns.sum
/-- the builtin id tells g of a tuple of ints -/
def TurnB (X : Cx) (id : String) (g : List Int → Int) : Prop := ∀ (A' : Around) (E : Value → Shared → Prop) (s' : Shared) (a : Addr) (xs : Array (Int × Tok)) (Q : Value → Shared → Prop), A'.handled = none → s'.heap.IsTuple a (intItems xs) →
  (∀ h' tk t', (∀ b o, s'.heap.get? b = some o → h'.get? b = some o) → Q (.int (g (xs.toList.map (·.1))) t') { s' with heap := h', toks := tk }) → wpAny (model X.prog X.w) A' (call (.builtin id) [.ref a]) Q E s'
theorem turn_sum {X : Cx} : TurnB X "sum" SumB := fun A' E s' a xs Q hh ht h => by
  refine PySem.W.ktm_sumG hh ht fun h' tk t' hk => ?_
  have q := h h' tk t' hk
  rw [preSum_eq, List.take_of_length_le (by simp)]
  have e : numsOf (intItems xs).toList = xs.toList.map (·.1) := by
    rw [nums_intItems]
  have e2 : SumB (xs.toList.map (·.1)) = (xs.toList.map (·.1)).sum := rfl
  rw [← e2]
  exact q
section
variable {X : Cx} {P : List (Nat × Addr)} {W : WX} {e : Expr} {m : M T} {p pos p1 p2 p3 p4 p5 lpos kpos : Pos} {k1 k : Nat} {b x : Str} {id : String} {g : List Int → Int} {params : Arguments} {scope : Scope} {c Pt : Addr}
theorem df_sortKey (hB : TurnB X id g) (TB : LamX.TabB X.base X.mg c Pt) (hcode : X.env.code = .ref c) (hmT : (Pt, X.env.qual ++ "<lambda>") ∈ HasT.T) (hu : ∀ q ∈ HasT.T, q.1 = Pt → q.2 = X.env.qual ++ "<lambda>") (rm : Room k X.A)
    (hS : Gl X "sorted") (hmS : X.mg "sorted" = none) (hmb : X.mg b = none) (hvb : bootBuiltins b = some (.builtin id)) (hnb : b ≠ "__name__") (ha : PE X e (tD X.K P W m))
    (hdef : defaultsOf params X.env = ([], [])) (hcl : cloFrom X.env.cells scope.names [] = []) (hk : scope.kind = .function) (hco : scope.isCoroutine = false) (hgen : scope.isGenerator = false) (hloc : ∀ y ∈ scope.names, y.2 ≠ .cell ∧ y.2 ≠ .free) (hx : scope.names.lookup x = some .local) (hbn : scope.names.lookup b = some .globalImplicit)
    (hbind : ∀ (q : Str) (pm c' ctv : Value) (a : Addr), bindArgs (PySem.W.kla_fn "<lambda>" q params (.Tuple [.Call (.Name b p1) [.Name x p2] [] p3, .Name x p4] k1 p5) scope [] pm c' ctv) ⟨[.ref a], []⟩ = pure [(x, .ref a)])
    (hdb : (b == ("__debug__" : Str)) = false) (hdx : (x == ("__debug__" : Str)) = false) 
    (he : backTo pos (starEach [e] X.env) = [(false, eval e X.env)] := by rfl) (hpl : (backTo pos (starEach [e] X.env)).any (·.1) = false := by rfl) :
    PE X (.Call (.Name "sorted" p) [e] [⟨some "key", .Lambda params (.Tuple [.Call (.Name b p1) [.Name x p2] [] p3, .Name x p4] k1 p5) scope lpos, kpos⟩] pos) (tDF X.K P W (mUn (sortGT g) m)) := by
  refine ⟨fun pins s σ H Q I h => ?_⟩
  obtain ⟨G, en, sd, pp⟩ := h
  refine wpAny_Call_Name_kw (ld_blt I hS hmS PyProof.Rows.boot_sorted ?_ (by decide) (by decide))
  refine PyProof.Rows.callWith_kw ?_ (by rw [he]; rfl) hpl (by rfl) (by rfl)
  rw [he]
  have q1 : tD X.K P W m σ H (fun v H1 => ∃ ds e1, SD X.K P G σ H1 e1 ∧ Rp X.K (hide (G ++ owns e1 σ) H1) v (.list ds) ∧ (ds.all fun d => (tupI d).isSome) = true ∧ ds.length ≤ 100000 ∧ PsF X.K P W (fun _ _ a H' => Q (.ref a) H') G σ H1 e1 (.ok (.list (ds.mergeSort (PySem.W.dataLe false (keyD g)))) e1)) :=
    ⟨G, en, sd, stepF pp fun d e1 H1 x1 s1 p1 v r1 => by
      cases d with
      | list ds =>
        by_cases hz : ((ds.all fun d => (tupI d).isSome) && decide (ds.length ≤ 100000)) = true
        · have ez : sortGT g (.list ds) = some (.list (ds.mergeSort (PySem.W.dataLe false (keyD g)))) := if_pos hz
          rw [ez] at p1
          rw [Bool.and_eq_true] at hz
          exact ⟨ds, e1, s1, r1, hz.1, of_decide_eq_true hz.2, p1⟩
        · have ez : sortGT g (.list ds) = none := if_neg hz
          rw [ez] at p1
          exact p1.elim
      | _ => exact p1.elim⟩
  refine Calls.spliced_cons (thn (ha.run pins s σ H _ I q1) fun u s1 ⟨v, H1, I1, rv, ds, e1, s1d, r1, hall, hlen, p1'⟩ => Calls.spliced_nil ?_)
  show wpAny _ _ (evalAll [do let v ← eval (.Lambda params (.Tuple [.Call (.Name b p1) [.Name x p2] [] p3, .Name x p4] k1 p5) scope lpos) X.env; standAt pos; pure v]) _ _ s1
  refine wpAny_evalAll_cons (wpAny_bind (LamX.lam_make2 I1 TB hcode hmT hu s1d.tb hdef (fun y hy z => absurd z (hloc y hy).2) fun f c' pm ctv H2 s2 I2 xN tb2 hf hfn hfr hco2 => wpAny_bind (wpAny_standAt (wpAny_pure (wpAny_evalAll_nil ?_)))))
  obtain ⟨s2d, x2⟩ := s1d.exN xN tb2
  have r2 := x2.rp r1
  have p2 := PsF.go x2 p1'
  cases r2 with
  | lst hl rA =>
    rename_i a vs
    have hl2 := hide_ex _ _ _ _ hl
    obtain ⟨us, rvs, hpl2, hsz⟩ := I2.list (sq_of (K := X.K) hl2)
    obtain rfl : u = Value.ref a := rv
    rw [hcl] at hf
    have hds : ds.length = vs.length := rA.length.symm
    refine PySem.W.sorted_key_data (R := fun u d => ∃ (v : V) (ns : List Int), RelV v u ∧ Rp X.K (hide (G ++ owns e1 σ) H2) v d ∧ d = .tuple (ns.map .int)) (b := false) (keyD g) hpl2.isList (each_rp rvs rA hall) ?_ (PySem.W.Sortable.tuples fun d => ⟨_, _, rfl⟩) (by rw [hds]; exact hsz) ?_ (PyProof.Rows.ksk_s1 _ _) (fun _ => PyProof.Rows.ksk_l1 _ _) (fun _ => PyProof.Rows.ksk_t1 _ _) ?_ ?_
    · intro d hd d' hd'
      obtain ⟨b1, h1, rfl⟩ := List.mem_map.mp hd
      obtain ⟨b2, h2, rfl⟩ := List.mem_map.mp hd'
      obtain ⟨n1, z1⟩ := Option.isSome_iff_exists.mp (List.all_eq_true.mp hall b1 h1)
      obtain ⟨n2, z2⟩ := Option.isSome_iff_exists.mp (List.all_eq_true.mp hall b2 h2)
      rw [tupI_some z1, tupI_some z2, keyD_ints, keyD_ints]
      simp [PySem.W.alike, PySem.W.alikeAll, alike_ints]
    · intro d hd
      obtain ⟨n1, z1⟩ := Option.isSome_iff_exists.mp (List.all_eq_true.mp hall d hd)
      rw [tupI_some z1]
      have h3 := depth_key (g := g) (ns := n1)
      have h4 := rm.un
      omega
    · rintro u d ⟨v, ns, r3, q3, rfl⟩ hd h tk kp
      rw [keyD_ints]
      cases q3 with
      | tup ht rT =>
        rename_i at_ ws
        have ew : ws = ns.map V.int := (ints_of rT (intsT_map ns)).1
        obtain ⟨its, rv4, tp4, _⟩ := I2.tuple (st_of (K := X.K) (hide_ex _ _ _ _ ht))
        rw [ew] at rv4
        obtain ⟨xs, ex1, ex2⟩ := ints_items rv4.ints
        obtain rfl : u = Value.ref at_ := r3
        rw [ex1] at tp4
        obtain ⟨to, t1, t2, t3⟩ := (show s2.heap.IsTuple at_ (intItems xs) from tp4)
        obtain ⟨⟨oc, cvs, ct, c1, c2, c3⟩, _, _⟩ := I2.hok c' _ hco2
        obtain ⟨mb, m1, m2⟩ := I2.mod.blt
        have kb : ∀ b o, X.base.get? b = some o → h.get? b = some o := fun b o z => kp _ _ (I2.bk b o z)
        have e5 : xs.toList.map (fun z => PyData.int z.1) = ns.map PyData.int := by rw [← ex2, List.map_map]; rfl
        rw [← e5, ← ex2]
        exact key_turn (A := X.A.in1.in1) (s := { s2 with heap := h, toks := tk }) (mg := X.mg) (mb := mb) rm.depth (kp _ _ hf) ⟨c', oc, cvs, ct, rfl, kp _ _ c1, c2, c3⟩ (I2.mod.nolimit.keeps kb) (I2.mod.glob.keeps kb) hmb (m1.keeps kb) ((m2 b hnb).trans hvb) ⟨to, kp _ _ t1, t2, t3⟩
          hk hco hgen (fun y hy => (hloc y hy).1) hx hbn (hbind _ _ _ _ _) hdb hdx fun A' E s' Q hA ht2 q => hB A' E s' at_ xs Q (hA.trans rm.hd) ht2 q
    · intro out cc h' tk kp fr hD hol eo
      obtain ⟨vo, ro, qo⟩ := each_back eo
      have hz2 : vo.length ≤ sizeLine := by
        rw [ro.length, hol, hds]
        exact hsz
      refine ⟨.ref (s2.heap.objs.size + 1), upd H2 (s2.heap.objs.size + 1) (.lst vo), I2.laid (t' := tk) kp (Nat.le_succ _) ⟨hz2, out, cc, ro, hD⟩, rfl, ?_⟩
      exact p2.new s2d (I2.hok.fresh (Nat.le_succ _)) (.lst upd_same qo)
end
end TD

end
section

/-! TD31: defs that tell something new and make a lambda: the def's code object is known -/
namespace TD
open PySem PySem.Spec PyProof.Rows L2 Evl
variable [HasT]
section
variable {P : Program} {w : World} {K : PySem.W.Frag} {mg : Str → Option Value} {base : Heap} {x qual : Str} {params : Arguments} {body : List Stmt} {scope : Scope} {f : Addr} {fd : FuncData}
theorem FunD.okC {CX : CXT} {N ps : List Str} {k : Nat} {sp : Sp} (F : FunD K x qual params body scope [] [] f fd) (S : FnScope N ps scope) (len : ∀ vs H Q E, sp vs H Q E → vs.length = ps.length)
    (hbody : ∀ (A : Around) (outer : List PySem.Env) (s : Shared) (H : Hp) (vs : List V) (Q : VK) (E : XK), Room k (A.deeper (envOfC qual scope s.heap.objs.size f fd.code)) → sp vs H Q E →
      ∃ t, PSs (cxOf CX P w K mg base N qual scope f fd.code A outer s H E) body t ∧ t { nx := fun _ H' => Q .non H', rt := Q } (L2.start N vs) H) : FnOk P w K mg base CX (k + 1) f fd ps sp := by
  obtain ⟨oc, od, dV, kV, doc, pm, an, cdv, ct, osl, rfl, lk, hcd, _, _⟩ := F.ex
  exact fn_of lk hcd S len fun A outer s H vs Q E hr hsp => hbody A outer s H vs Q E hr hsp
theorem fun_toC {N ps : List Str} {k : Nat} {b : MS} {m : M T} (F : FunD K x qual params body scope [] [] f fd) (S : FnScope N ps scope) (hn : ps.length ≤ N.length)
    (hb : ∀ (A : Around) (outer : List PySem.Env) (s : Shared) (H : Hp) (E : XK), Room k (A.deeper (envOfC qual scope s.heap.objs.size f fd.code)) →
      PSs (BX P w K mg base N qual scope f fd.code A outer s H E) body (tSF K [] (fun cls d _ H => E cls d H) b m)) : FnOk P w K mg base (CX P w) (k + 1) f fd ps (spO K ps.length (runO N.length b m)) := by
  refine FunD.okC F S (fun vs H Q E h => h.1) fun A outer s H vs Q E hr h => ⟨_, hb A outer s H E hr, ?_⟩
  obtain ⟨hl, G, ds, ⟨wl, tb, th⟩, nd, ra, p⟩ := h
  have hd : ds.length = vs.length := ra.length.symm
  have ho : owns (ds.map .val ++ List.replicate (N.length - ds.length) .un) (L2.start N vs) = [] := by
    unfold L2.start
    rw [hd]
    exact owns_start ra.length
  refine ⟨G, ds.map .val ++ List.replicate (N.length - ds.length) .un, ⟨?_, ?_, wl, (fun q hq => by cases hq), tb, th⟩, ?_⟩
  · rw [ho, List.append_nil]
    unfold L2.start
    rw [hd]
    exact sa_start ra
  · rw [ho, List.append_nil]
    exact nd
  · have p' : PFO K G H Q E (outO m (b (ds.map .val ++ List.replicate (N.length - ds.length) .un))) := p
    have sub : ∀ {σ' : Sg} {H' : Hp} {e' : Env}, Ex (hide (G ++ owns e' σ') H') (hide G H') := hide_sub fun a ha => List.mem_append_left _ ha
    have rel : ∀ {σ' : Sg} {H' : Hp} {e' : Env}, Rel G (L2.start N vs) H (ds.map .val ++ List.replicate (N.length - ds.length) .un) σ' H' e' → Ex (hide G H) (hide (G ++ owns e' σ') H') := fun r => by
      have r1 := r.st
      rw [ho, List.append_nil] at r1
      exact r1
    cases q : b (ds.map .val ++ List.replicate (N.length - ds.length) .un) with
    | nx e1 =>
      rw [q] at p'
      intro σ' H' r s'
      have p2 : PFO K G H Q E (match m e1 with | .ok d _ => .ok d | .ex c fs _ => .ex c fs | .bad => .bad) := p'
      cases q2 : m e1 with
      | ok d e2 =>
        rw [q2] at p2
        intro a H2 x g s2 o
        have sb : Ex (hide (a :: (G ++ owns e2 σ')) H2) (hide (a :: G) H2) := hide_sub fun c hc => by
          rcases List.mem_cons.mp hc with z | z
          · rw [z]; exact List.mem_cons_self
          · exact List.mem_cons_of_mem _ (List.mem_append_left _ z)
        exact p2 a H2 (fun z => s2.notin (List.mem_append_left _ z)) (((rel r).trans x).trans sb) (fun c hc u n hu => g c hc u n (r.gs c hc u n hu)) s2.tb (o.mono sb fun _ z => z)
      | ex c fs e2 =>
        rw [q2] at p2
        exact fun dd H2 r2 s2 xr => p2 dd H2 ((rel (r.trans r2)).trans sub) (r.trans r2).gs s2.tb (by
          obtain ⟨gs, h1, h2, h3⟩ := xr
          exact ⟨gs, h1, h2, h3.mono sub⟩)
      | bad => rw [q2] at p2; exact p2.elim
    | ex c fs e' =>
      rw [q] at p'
      exact fun dd σ' H' r s' xr => p' dd H' ((rel r).trans sub) r.gs s'.tb (by
        obtain ⟨gs, h1, h2, h3⟩ := xr
        exact ⟨gs, h1, h2, h3.mono sub⟩)
    | rt t e' => rw [q] at p'; exact p'.elim
    | bk e' => rw [q] at p'; exact p'.elim
    | ct e' => rw [q] at p'; exact p'.elim
    | bad => rw [q] at p'; exact p'.elim
/-- what a def that makes one lambda is told -/
structure LamIn (fd : FuncData) (base : Heap) (mg : Str → Option Value) (q : Str) : Prop where
  ex : ∃ c Pt, fd.code = .ref c ∧ LamX.TabB base mg c Pt ∧ (Pt, q ++ "<lambda>") ∈ HasT.T ∧ ∀ p ∈ HasT.T, p.1 = Pt → p.2 = q ++ "<lambda>"
end
section
variable {X : Cx} {P : List (Nat × Addr)} {W : WX} {e : Expr} {m : M T} {p pos p1 p2 p3 p4 p5 lpos kpos : Pos} {k1 k : Nat} {b x : Str} {id : String} {g : List Int → Int} {params : Arguments} {scope : Scope} {fd : FuncData}
theorem df_sortLam (L : LamIn fd X.base X.mg X.env.qual) (hc : X.env.code = fd.code) (hB : TurnB X id g) (rm : Room k X.A)
    (hS : Gl X "sorted") (hmS : X.mg "sorted" = none) (hmb : X.mg b = none) (hvb : bootBuiltins b = some (.builtin id)) (hnb : b ≠ "__name__") (ha : PE X e (tD X.K P W m))
    (hdef : defaultsOf params X.env = ([], [])) (hcl : cloFrom X.env.cells scope.names [] = []) (hk : scope.kind = .function) (hco : scope.isCoroutine = false) (hgen : scope.isGenerator = false) (hloc : ∀ y ∈ scope.names, y.2 ≠ .cell ∧ y.2 ≠ .free) (hx : scope.names.lookup x = some .local) (hbn : scope.names.lookup b = some .globalImplicit)
    (hbind : ∀ (q : Str) (pm c' ctv : Value) (a : Addr), bindArgs (PySem.W.kla_fn "<lambda>" q params (.Tuple [.Call (.Name b p1) [.Name x p2] [] p3, .Name x p4] k1 p5) scope [] pm c' ctv) ⟨[.ref a], []⟩ = pure [(x, .ref a)])
    (hdb : (b == ("__debug__" : Str)) = false) (hdx : (x == ("__debug__" : Str)) = false) 
    (he : backTo pos (starEach [e] X.env) = [(false, eval e X.env)] := by rfl) (hpl : (backTo pos (starEach [e] X.env)).any (·.1) = false := by rfl) :
    PE X (.Call (.Name "sorted" p) [e] [⟨some "key", .Lambda params (.Tuple [.Call (.Name b p1) [.Name x p2] [] p3, .Name x p4] k1 p5) scope lpos, kpos⟩] pos) (tDF X.K P W (mUn (sortGT g) m)) := by
  obtain ⟨c, Pt, h1, h2, h3, h4⟩ := L.ex
  exact df_sortKey hB h2 (hc.trans h1) h3 h4 rm hS hmS hmb hvb hnb ha hdef hcl hk hco hgen hloc hx hbn hbind hdb hdx he hpl
end
end TD

end
section

/-! TDH: the head: what the loaded program says, over a written number of addresses -/
namespace TD
open PySem PySem.Spec PyProof.Rows L2 Evl
/-! ### what the written part says of a class of ours, by one Bool -/
def xoB (K : PySem.W.Frag) (C CT : Addr) : Bool := match K.lookup C with
  | some ⟨.type "type", _, .cls cd, sl⟩ => (match cd.mro, sl.toList with
    | .ref C' :: .ref T' :: bm, [_, _, _, _, some (.builtin n), _] => C' == C && (T' == CT && (bm == PySem.HandSPX.veTail && (n == "ValueError.__new__" && (!cd.hasDel && cd.hasDict))))
    | _, _ => false)
  | _ => false
theorem xoB_ok {K : PySem.W.Frag} {C CT : Addr} (q : xoB K C CT = true) : ∃ nm qn N bs sn sub ab col dd k0 k1 k2 k3 k5,
    K.lookup C = some (excClassObj nm qn C N bs (.ref CT :: PySem.HandSPX.veTail) true sn sub ab col dd k0 k1 k2 k3 k5 "ValueError.__new__") := by
  unfold xoB at q
  split at q
  · rename_i dd cd sl ho
    split at q
    · rename_i C' T' bm k0 k1 k2 k3 n k5 hm hs
      simp only [Bool.and_eq_true, beq_iff_eq, Bool.not_eq_true'] at q
      obtain ⟨rfl, rfl, rfl, rfl, hdel, hdct⟩ := q
      obtain ⟨nm, bs, mro, ns, qn, hd, sn, sub, ab, col, del⟩ := cd
      dsimp only at hm hdel hdct
      subst hm hdel hdct
      have hsl : sl = #[k0, k1, k2, k3, some (.builtin "ValueError.__new__"), k5] := by
        obtain ⟨l⟩ := sl
        simp only at hs
        rw [hs]
      subst hsl
      exact ⟨nm, qn, ns, bs, sn, sub, ab, col, dd, k0, k1, k2, k3, k5, ho⟩
    · cases q
  · cases q
section
variable {K : PySem.W.Frag}
/-- a class's object, and what follows from it -/
theorem xo_cls {C CT : Addr} (q : xoB K C CT = true) : ∃ cd, PySem.W.clsIn K C = some cd ∧ cd.mro = .ref C :: .ref CT :: PySem.HandSPX.veTail ∧ cd.hasDict = true ∧ PySem.W.typeIn K (.ref C) = some (.type "type") := by
  obtain ⟨nm, qn, N, bs, sn, sub, ab, col, dd, k0, k1, k2, k3, k5, h⟩ := xoB_ok q
  refine ⟨{ name := nm, bases := bs, mro := .ref C :: .ref CT :: PySem.HandSPX.veTail, ns := N, qualname := qn, hasDict := true, slotNames := sn, subclasses := sub, abstract := ab, collection := col, hasDel := false }, ?_, rfl, rfl, ?_⟩
  · unfold PySem.W.clsIn
    rw [h] <;> rfl
  · show (K.lookup C).map (·.cls) = _
    rw [h] <;> rfl
theorem xo_mro {C CT : Addr} (q : xoB K C CT = true) (b : Value) : PySem.W.mroIn K C b = some ((.ref C :: .ref CT :: PySem.HandSPX.veTail : List Value).contains b) := by
  obtain ⟨cd, h1, h2, _⟩ := xo_cls q
  unfold PySem.W.mroIn
  rw [h1, Option.bind_some, h2]
  rfl
theorem xo_dict {C CT : Addr} (q : xoB K C CT = true) : PySem.W.hasDictIn K C = true := by
  obtain ⟨cd, h1, _, h3, _⟩ := xo_cls q
  unfold PySem.W.hasDictIn
  rw [h1]
  show cd.hasDict = true
  exact h3
theorem xo_type {C CT : Addr} (q : xoB K C CT = true) : PySem.W.typeIn K (.ref C) = some (.type "type") := by
  obtain ⟨cd, _, _, _, h⟩ := xo_cls q
  exact h
theorem xo_exc {C CT : Addr} (q : xoB K C CT = true) : PySem.W.subIn K (.ref C) (.type "BaseException") = some true := (xo_mro q _).trans (by
  rw [List.contains_cons, List.contains_cons, show PySem.HandSPX.veTail.contains (Value.type "BaseException") = true by decide +kernel]
  rw [Bool.or_true, Bool.or_true])
theorem xo_obj {C CT : Addr} (q : xoB K C CT = true) : PySem.W.mroIn K C (.type "object") = some true := (xo_mro q _).trans (by
  rw [List.contains_cons, List.contains_cons, show PySem.HandSPX.veTail.contains (Value.type "object") = true by decide +kernel]
  rw [Bool.or_true, Bool.or_true])
theorem ve_noref (C : Addr) : PySem.HandSPX.veTail.contains (Value.ref C) = false := rfl
theorem kit_self {C CT : Addr} : PySem.W.kitOne K (.ref C) (.ref C) = some true := by
  unfold PySem.W.kitOne
  rw [if_pos (beq_self_eq_true _)]
end
section
variable {K : PySem.W.Frag}
/-- the class x of errors, its fields fs -/
def clsB (K : PySem.W.Frag) (x : Str) (fs : List Str) : Bool := xoB K (He.ga K x) (He.ga K "TeamError") && (He.eqO (PySem.W.findIn K (.ref (He.ga K x)) "__setattr__") (some (some (.builtin "object.__setattr__"))) &&
  (He.eqO (PySem.W.findIn K (.ref (He.ga K x)) "__getattribute__") (some (some (.builtin "BaseException.__getattribute__"))) && (He.eqO (PySem.W.findIn K (.ref (He.ga K x)) "__getattr__") (some none) &&
  (PySem.W.keepIn K (.ref (He.ga K x)) && ((fs.all fun f => He.eqO (PySem.W.findIn K (.ref (He.ga K x)) f) (some none)) &&
  (He.eqO (PySem.W.findIn K (.ref (He.ga K x)) "__init__") (some (some (.ref (He.ma K (He.ga K x) "__init__")))) && (decide (PySem.W.typeIn K (.ref (He.ma K (He.ga K x) "__init__")) = some (.type "function")) && decide (PySem.W.exmOne K (.ref (He.ga K x)) (.ref (He.ga K x)) = some true))))))))
structure ClsF (K : PySem.W.Frag) (x : Str) (fs : List Str) : Prop where
  q : xoB K (He.ga K x) (He.ga K "TeamError") = true
  sa : PySem.W.findIn K (.ref (He.ga K x)) "__setattr__" = some (some (.builtin "object.__setattr__"))
  ga : PySem.W.findIn K (.ref (He.ga K x)) "__getattribute__" = some (some (.builtin "BaseException.__getattribute__"))
  gg : PySem.W.findIn K (.ref (He.ga K x)) "__getattr__" = some none
  kp : PySem.W.keepIn K (.ref (He.ga K x)) = true
  no : ∀ f ∈ fs, PySem.W.findIn K (.ref (He.ga K x)) f = some none
  iC : PySem.W.findIn K (.ref (He.ga K x)) "__init__" = some (some (.ref (He.ma K (He.ga K x) "__init__")))
  tI : PySem.W.typeIn K (.ref (He.ma K (He.ga K x) "__init__")) = some (.type "function")
  me : PySem.W.exmOne K (.ref (He.ga K x)) (.ref (He.ga K x)) = some true
theorem clsF_of {x : Str} {fs : List Str} (h : clsB K x fs = true) : ClsF K x fs := by
  obtain ⟨h1, h⟩ := He.ba h
  obtain ⟨h2, h⟩ := He.ba h
  obtain ⟨h3, h⟩ := He.ba h
  obtain ⟨h4, h⟩ := He.ba h
  obtain ⟨h5, h⟩ := He.ba h
  obtain ⟨h6, h⟩ := He.ba h
  obtain ⟨h7, h⟩ := He.ba h
  obtain ⟨h8, h9⟩ := He.ba h
  exact ⟨h1, He.eqO_ok h2, He.eqO_ok h3, He.eqO_ok h4, h5, fun f hf => He.eqO_ok (List.all_eq_true.mp h6 f hf), He.eqO_ok h7, of_decide_eq_true h8, of_decide_eq_true h9⟩
theorem ClsF.oex {x : Str} {fs : List Str} (h : ClsF K x fs) : OexC K (He.ga K x) := by
  obtain ⟨nm, qn, N, bs, sn, sub, ab, col, dd, k0, k1, k2, k3, k5, hq⟩ := xoB_ok h.q
  exact ⟨⟨nm, qn, N, bs, _, sn, sub, ab, col, dd, k0, k1, k2, k3, k5, hq, by show PySem.HandSPX.refsVE PySem.HandSPX.veTail = true; decide +kernel⟩, h.sa, xo_exc h.q, xo_type h.q, h.kp⟩
theorem ClsF.xf {x : Str} {fs : List Str} (h : ClsF K x fs) : XfC K (He.ga K x) := ⟨h.ga, h.gg, xo_exc h.q, xo_dict h.q⟩
end
/-! ### the Hook -/
def obsL (n : Nat) (fa : List He.Fa) (fn : List He.DefD) (tf : List He.Defn) (ex : PySem.W.Frag → Bool) (g : Addr → Option Obj) : He.AlD × Bool := (He.obsD fa fn (He.frT g (List.range n)), ex (He.frT g (List.range n)) && He.tabsB g tf (He.frT g (List.range n)))
structure SaysL (fa : List He.Fa) (fn : List He.DefD) (tf : List He.Defn) (ex : PySem.W.Frag → Bool) (h : Heap) (K : PySem.W.Frag) : Prop where
  d : He.SaysD fa fn K
  more : ex K = true
  hd : ∀ p ∈ tf, PySem.W.codeHdIn K (He.cT K p).1 (He.cT K p).2 = true
  out : ∀ p ∈ tf, K.lookup (He.cT K p).2 = none
  empty : ∀ p ∈ tf, h.get? (He.cT K p).2 = some { cls := .none, data := .fields #[] }
theorem saysL_of {n : Nat} {fa : List He.Fa} {fn : List He.DefD} {tf : List He.Defn} {ex : PySem.W.Frag → Bool} {h : Heap} (e : obsL n fa fn tf ex h.get? = (He.valD fn, true)) : SaysL fa fn tf ex h (He.frT h.get? (List.range n)) := by
  have e1 : He.obsD fa fn (He.frT h.get? (List.range n)) = He.valD fn := congrArg (fun z : He.AlD × Bool => z.1) e
  have e2 : (ex (He.frT h.get? (List.range n)) && He.tabsB h.get? tf (He.frT h.get? (List.range n))) = true := congrArg (fun z : He.AlD × Bool => z.2) e
  obtain ⟨h1, h2⟩ := He.ba e2
  have key : ∀ p ∈ tf, PySem.W.codeHdIn (He.frT h.get? (List.range n)) (He.cT (He.frT h.get? (List.range n)) p).1 (He.cT (He.frT h.get? (List.range n)) p).2 = true ∧ ∃ o, h.get? (He.cT (He.frT h.get? (List.range n)) p).2 = some o ∧ He.emptyTab o = true := fun p hp => by
    obtain ⟨h3, h4⟩ := He.ba (List.all_eq_true.mp h2 p hp)
    refine ⟨h3, ?_⟩
    cases q : h.get? (He.cT (He.frT h.get? (List.range n)) p).2 with
    | none => rw [q] at h4; cases h4
    | some o => rw [q] at h4; exact ⟨o, rfl, h4⟩
  refine ⟨e1, h1, fun p hp => (key p hp).1, fun p hp => ?_, fun p hp => ?_⟩
  · obtain ⟨_, o, q, z⟩ := key p hp
    exact He.frT_none q z
  · obtain ⟨_, o, q, z⟩ := key p hp
    rw [q, He.emptyTab_eq z]
def hookL (n : Nat) (fa : List He.Fa) (fn : List He.DefD) (tf : List He.Defn) (ex : PySem.W.Frag → Bool) : PySem.W.Hook where
  α := He.AlD × Bool
  obs := fun s => obsL n fa fn tf ex s.heap.get?
  val := fun _ => (He.valD fn, true)
  says := fun _ h => ∃ K : PySem.W.Frag, K.In h ∧ SaysL fa fn tf ex h K
  of := fun _ _ e => ⟨_, He.frT_in, saysL_of e⟩
  keeps := fun _ _ _ ⟨K, hK, c⟩ k => ⟨K, PySem.W.Frag.In.keeps hK k, ⟨c.d, c.more, c.hd, c.out, fun p hp => k _ _ (c.empty p hp)⟩⟩
theorem obsL_eq {n : Nat} {fa : List He.Fa} {fn : List He.DefD} {tf : List He.Defn} {ex : PySem.W.Frag → Bool} {g : Addr → Option Obj} {s : Shared} (h : ∀ a, g a = s.heap.get? a) : obsL n fa fn tf ex g = (hookL n fa fn tf ex).obs s := by
  have e : g = s.heap.get? := funext h
  rw [e] <;> rfl
/-- the law's call begins: nothing but the script and the tables is known -/
theorem start_law [HasT] {K : PySem.W.Frag} {H : Hp} {a : Addr} {ns : List Int} {f : F} {cs : List (Addr × Addr)} (hH : ∀ p ∈ cs, H p.2 = some (.tbl #[])) (hS : SqL K H a (ns.map V.int)) (hT : ∀ p ∈ HasT.T, ∃ q ∈ cs, q.2 = p.1) (nd : (HasT.T.map (·.1)).Nodup)
    (hf : f [.scr ns] = .ok (.bool true)) : spV K 1 f [.ref a] H (fun v _ => v = .bl true) fun _ _ _ => False := by
  have tb : ∀ p ∈ HasT.T, H p.1 = some (.tbl #[]) := fun p hp => by
    obtain ⟨q, hq, e⟩ := hT p hp
    rw [← e]
    exact hH q hq
  refine ⟨rfl, HasT.T.map (·.1), [.scr ns], fun b hb => .inr ?_, ⟨fun p hp => .nil (tb p hp), fun p hp => List.mem_map.mpr ⟨p, hp, rfl⟩⟩, nd, .cons (.scr ?_) .nil, ?_⟩
  · obtain ⟨p, hp, e⟩ := List.mem_map.mp hb
    exact ⟨p, hp, e⟩
  · have na : ∀ o, H a = some o → (∀ ps, o ≠ .tbl ps) → a ∉ HasT.T.map (·.1) := fun o h n z => by
      obtain ⟨p, hp, e⟩ := List.mem_map.mp z
      have q := tb p hp
      rw [e, h] at q
      exact n _ (Option.some.inj q)
    rcases hS with (h | ⟨o, h⟩) | h
    · exact .inl (.inl (hide_at h (na _ h (by intro _ z; cases z))))
    · exact .inl (.inr ⟨o, hide_at h (na _ h (by intro _ z; cases z))⟩)
    · exact .inr h
  · rw [hf]
    exact fun v H' _ _ _ r => rp_bool r
theorem lst_sort [HasT] {g : List Int → Int} {m : M T} {n : Nat} {b : MS} {ds : List T} {d : T} (h : runO n b (mUn (sortGT g) m) ds = .ok d) : ∃ l, d = .list l := by
  unfold runO at h
  cases q : b (ds.map .val ++ List.replicate (n - ds.length) .un) with
  | nx e1 =>
    rw [q] at h
    have h' : (match mUn (sortGT g) m e1 with | .ok d _ => RF.ok d | .ex c fs _ => .ex c fs | .bad => .bad) = .ok d := h
    cases q2 : mUn (sortGT g) m e1 with
    | ok d' e' =>
      rw [q2] at h'
      cases h'
      obtain ⟨x, e2, _, h2⟩ := bind_ok (show ((m e1).bind fun x e => ofO (sortGT g x) e) = .ok d e' from q2)
      cases x with
      | list xs =>
        have h3 : ofO (sortKL g xs) e2 = .ok d e' := h2
        unfold sortKL at h3
        split at h3
        · cases h3; exact ⟨_, rfl⟩
        · cases h3
      | _ => cases h2
    | _ => rw [q2] at h'; cases h'
  | _ => rw [q] at h; cases h
/-! ### a def told -/
section
variable {P : Program} {w : World} {K : PySem.W.Frag} {mg : Str → Option Value} {base : Heap} {x : Str} {lv n : Nat} {fa : Addr} {fd : FuncData} {ps : List Str}
theorem code_ref {q : Str} {params : Arguments} {body : List Stmt} {scope : Scope} {p : He.Defn} (F : FunD K x q params body scope [] [] (He.fAd K p) fd) : fd.code = .ref (He.codeOf K p) := by
  obtain ⟨oc, od, dV, kV, doc, pm, an, cdv, ct, osl, e, lk, hcd, _, _⟩ := F.ex
  subst e
  obtain ⟨c, hc⟩ := He.codeIn_ref hcd
  have e2 : He.codeOf K p = c := He.codeOf_eq lk hc
  rw [e2]
  exact hc
end
end TD

end
section
namespace Mi
open PySem PySem.Spec PyProof.Rows L2 Evl TD
def m__law_cell : MS := (sSeq (sIf (mB (mOp ltT (mV 1) (mUn lenA (mV 0)))) (sRet (mOp itT (mV 0) (mV 1))) sNext) (sRet (mC (.int 0))))
def F__law_cell : F := runF 2 m__law_cell
def m__law_choose : MS := (sSeq (sIf (mB (mOp gtT (mV 1) (mV 0))) (sRet (mC (.int 0))) sNext) (sSeq (sAsg 2 (mC (.int 1))) (sSeq (sFor (iRng rng1 (mCons (mV 1) mNil)) (gN 3) (sAsg 2 (mOp fdivT (mOp mulT (mV 2) (mOp subT (mV 0) (mV 3))) (mOp addT (mV 3) (mC (.int 1)))))) (sRet (mV 2)))))
def F__law_choose : F := runF 4 m__law_choose
def m__law_setting (dr : FQ) : MS := (sSeq (sAsg 1 (mFQ dr 0 (mCons (mC (.int 3)) mNil))) (sSeq (sOwn 2 (mkLst (mCons (mOp addT (mC (.int 1)) (mFQ dr 0 (mCons (mOp itT (mkLst (mCons (mC (.int 3)) (mCons (mC (.int 1)) (mCons (mC (.int 9)) mNil)))) (mV 1)) mNil))) mNil))) (sSeq (sFor (iRng rng1 (mCons (mFQ dr 0 (mCons (mOp itT (mkLst (mCons (mC (.int 4)) (mCons (mC (.int 10)) (mCons (mC (.int 3)) mNil)))) (mV 1)) mNil)) mNil)) (gN 3) (sSeq (sAsg 4 (mOp addT (mC (.int 1)) (mFQ dr 0 (mCons (mOp itT (mkLst (mCons (mC (.int 3)) (mCons (mC (.int 1)) (mCons (mC (.int 4)) mNil)))) (mV 1)) mNil)))) (sIf (mB (mOp leT (mOp addT (mUnO sumL 2) (mV 4)) (mC (.int 9)))) (sApp 2 (mV 4)) sNext))) (sSeq (sOwn 5 mDict) (sSeq (sFor (iRng rng1 (mCons (mOp addT (mC (.int 1)) (mFQ dr 0 (mCons (mC (.int 2)) mNil))) mNil)) (gN 3) (sPut 5 (mOp addT (mC (.int 1)) (mFQ dr 0 (mCons (mOp min2T (mC (.int 4)) (mUnO sumL 2)) mNil))) (mOp addT (mC (.int 1)) (mFQ dr 0 (mCons (mC (.int 3)) mNil))))) (sSeq (sFrz 5 (sIf (mB (mOp gtT (mUn sumT (mLc (iSeqK (mV 5)) (gN 6) mYes (mOp mulT (mOp itT (mV 5) (mV 6)) (mF F__law_choose (mCons (mUnO sumL 2) (mCons (mV 6) mNil)))) [6])) (mC (.int 130)))) (sOwn 5 (mDisp1 (fun e => noX ((mUn minKT (mV 5)) e)) fun e => noX ((mC (.int 1)) e))) sNext)) (sFrz 2 (sFrz 5 (sRet (mkTup (mCons (mV 2) (mCons (mV 5) mNil))))))))))))
def F__law_setting (dr : FQ) : FQ := runQ 7 (m__law_setting dr)
def m__law_tuples : MS := (sSeq (sAsg 1 (mkLst (mCons (mkTup mNil) mNil))) (sSeq (sFor (iSeqK (mV 0)) (gN 2) (sSeq (sAsg 3 (mkLst mNil)) (sSeq (sFor (iSeqK (mV 1)) (gN 4) (sAsg 3 (mOp addT (mV 3) (mLc (iRng rng1 (mCons (mOp addT (mV 2) (mC (.int 1))) mNil)) (gN 5) mYes (mOp addT (mV 4) (mkTup (mCons (mV 5) mNil))) [5])))) (sAsg 1 (mV 3))))) (sRet (mV 1))))
def F__law_tuples : F := runF 6 m__law_tuples
def m__law_kinds : MS := (sSeq (sAsg 2 (mkLst mNil)) (sSeq (sFor (iSeqK (mUn sortKT (mV 1))) (gN 3) (sAsg 2 (mOp addT (mV 2) (mLc (iSeqK (mF F__law_tuples (mCons (mV 0) mNil))) (gN 4) (mB (mOp eqT (mUn sumT (mV 4)) (mV 3))) (mV 4) [4])))) (sRet (mV 2))))
def F__law_kinds : F := runF 5 m__law_kinds
def m_choices : MS := (sSeq (sIf (mB (mOp gtT (mV 1) (mV 0))) (sRet (mC (.int 0))) sNext) (sSeq (sAsg 2 (mC (.int 1))) (sSeq (sFor (iRng rng1 (mCons (mV 1) mNil)) (gN 3) (sAsg 2 (mOp fdivT (mOp mulT (mV 2) (mOp subT (mV 0) (mV 3))) (mOp addT (mV 3) (mC (.int 1)))))) (sRet (mV 2)))))
def F_choices : F := runF 4 m_choices
def m__law_due : MS := (sSeq (sAsg 3 (mOp itT (mV 1) (mUn sumT (mV 2)))) (sSeq (sFor (iRng rng1 (mCons (mUn lenA (mV 0)) mNil)) (gN 4) (sAsg 3 (mOp mulT (mV 3) (mF F__law_choose (mCons (mOp itT (mV 0) (mV 4)) (mCons (mOp itT (mV 2) (mV 4)) mNil)))))) (sRet (mV 3))))
def F__law_due : F := runF 5 m__law_due
def m__law_odd (dr : FQ) : MS := (sSeq (sAsg 3 (mOp itT (mV 1) (mFQ dr 0 (mCons (mUn lenA (mV 1)) mNil)))) (sSeq (sAsg 4 (mFQ dr 0 (mCons (mUn lenA (mV 3)) mNil))) (sSeq (sAsg 5 (mLc (iSeqK (mkLst (mCons (mOp addT (mOp itT (mV 3) (mV 4)) (mC (.int 1))) (mCons (mUn negT (mC (.int 1))) (mCons (mC (.bool true)) (mCons (mC .none) (mCons (mC (.str "1")) mNil))))))) (gN 6) mYes (mOp addT (mOp addT (mSli (mV 3) mNo (mSo (mV 4))) (mkTup (mCons (mV 6) mNil))) (mSli (mV 3) (mSo (mOp addT (mV 4) (mC (.int 1)))) mNo)) [6])) (sSeq (sOwn 5 (mOp catT (mV 5) (mkLst (mCons (mUn listT (mV 3)) (mCons (mOp addT (mV 3) (mkTup (mCons (mC (.int 0)) mNil))) (mCons (mSli (mV 3) (mSo (mC (.int 1))) mNo) (mCons (mC .none) (mCons (mC (.int 0)) (mCons (mC (.str "kind")) (mCons (mkTup mNil) (mCons (mkTup (mCons (mV 3) mNil)) mNil))))))))))) (sSeq (sApp 5 (mUn tupleT (mLc (iSeqK (mV 2)) (gN 7) mYes (mOp addT (mV 7) (mC (.int 1))) [7]))) (sRet (mIxO 5 (mFQ dr 0 (mCons (mUnO lenL 5) mNil)))))))))
def F__law_odd (dr : FQ) : FQ := runQ 8 (m__law_odd dr)
def m__law_is_right : MS := (sSeq (sIf (mOr (mNot (mTru (mUn (isT "tuple") (mV 1)))) (mTru (mUn anyT (mLc (iSeqK (mV 1)) (gN 2) mYes (mUn (isT "bool") (mV 2)) [2])))) (sRet (mC (.bool false))) sNext) (sRet (mOp (hasT false) (mV 1) (mV 0))))
def F__law_is_right : F := runF 3 m__law_is_right
def m_is_list : MS := (sRet (mUn (isTs ["list", "tuple"]) (mV 0)))
def F_is_list : F := runF 1 m_is_list
def m_is_integer : MS := (sRet (mAndV (mUn (isT "int") (mV 0)) (mNotV (mUn (isT "bool") (mV 0)))))
def F_is_integer : F := runF 1 m_is_integer
def m_is_within : MS := (sRet (mAndV (mF F_is_integer (mCons (mV 0) mNil)) (mChain leT leT (mV 1) (mV 0) (mV 2))))
def F_is_within : F := runF 3 m_is_within
def m_are_sizes : MS := (sSeq (sIf (mOr (mNot (mTru (mF F_is_list (mCons (mV 0) mNil)))) (mB (mOp eqT (mUn lenA (mV 0)) (mC (.int 0))))) (sRet (mC (.bool false))) sNext) (sRet (mAndV (mUn allT (mLc (iSeqK (mV 0)) (gN 1) mYes (mF F_is_within (mCons (mV 1) (mCons (mC (.int 1)) (mCons (mC (.int 10)) mNil)))) [1])) (mOp leT (mUn sumT (mV 0)) (mC (.int 10))))))
def F_are_sizes : F := runF 2 m_are_sizes
def m_check_sizes : MS := (sIf (mNot (mTru (mF F_are_sizes (mCons (mV 0) mNil)))) (sRaise "BadSizes" ["value"] (mCons (mV 0) mNil)) sNext)
def F_check_sizes : F := runF 1 m_check_sizes
def m_total_of : MS := (sRet (mUn sumT (mLc (iSeqK (mV 1)) (gN 2) mYes (mOp mulT (mOp itT (mV 1) (mV 2)) (mF F_choices (mCons (mV 0) (mCons (mV 2) mNil)))) [2])))
def F_total_of : F := runF 3 m_total_of
def m_are_games : MS := (sSeq (sIf (mOr (mNot (mTru (mUn (isT "dict") (mV 1)))) (mNot (mTru (mF F_is_within (mCons (mUn lenA (mV 1)) (mCons (mC (.int 1)) (mCons (mC (.int 2)) mNil))))))) (sRet (mC (.bool false))) sNext) (sSeq (sAsg 2 (mOp min2T (mC (.int 4)) (mV 0))) (sRet (mUn allT (mLc (iItm (mV 1)) (gN2 3 4) mYes (mAndV (mF F_is_within (mCons (mV 3) (mCons (mC (.int 1)) (mCons (mV 2) mNil)))) (mF F_is_within (mCons (mV 4) (mCons (mC (.int 1)) (mCons (mC (.int 3)) mNil))))) [3, 4])))))
def F_are_games : F := runF 5 m_are_games
def m_check_games : MS := (sSeq (sIf (mNot (mTru (mF F_are_games (mCons (mV 0) (mCons (mV 1) mNil))))) (sRaise "BadGames" ["value"] (mCons (mV 1) mNil)) sNext) (sSeq (sAsg 2 (mF F_total_of (mCons (mV 0) (mCons (mV 1) mNil)))) (sIf (mB (mOp gtT (mV 2) (mC (.int 130)))) (sRaise "TooMany" ["count"] (mCons (mV 2) mNil)) sNext)))
def F_check_games : F := runF 3 m_check_games
def m_check_setting : MS := (sSeq (sDrop (mF F_check_sizes (mCons (mV 0) mNil))) (sDrop (mF F_check_games (mCons (mUn sumT (mV 0)) (mCons (mV 1) mNil)))))
def F_check_setting : F := runF 2 m_check_setting
def m_fits_classes : MS := (sSeq (sIf (mOr (mNot (mTru (mUn (isT "tuple") (mV 1)))) (mB (mOp neT (mUn lenA (mV 1)) (mUn lenA (mV 0))))) (sRet (mC (.bool false))) sNext) (sRet (mUn allT (mLc (iZp (mCons (mV 1) (mCons (mV 0) mNil))) (gN2 2 3) mYes (mF F_is_within (mCons (mV 2) (mCons (mC (.int 0)) (mCons (mV 3) mNil)))) [2, 3]))))
def F_fits_classes : F := runF 4 m_fits_classes
def m_is_kind_of : MS := (sRet (mAndV (mF F_fits_classes (mCons (mV 0) (mCons (mV 2) mNil))) (mOp (hasT false) (mUn sumT (mV 2)) (mV 1))))
def F_is_kind_of : F := runF 3 m_is_kind_of
def m_is_kind : MS := (sSeq (sDrop (mF F_check_setting (mCons (mV 0) (mCons (mV 1) mNil)))) (sRet (mF F_is_kind_of (mCons (mV 0) (mCons (mV 1) (mCons (mV 2) mNil))))))
def F_is_kind : F := runF 3 m_is_kind
def m_all_kinds : MS := (sSeq (sDrop (mF F_check_setting (mCons (mV 0) (mCons (mV 1) mNil)))) (sSeq (sAsg 2 (mUn maxKT (mV 1))) (sSeq (sAsg 3 (mkLst (mCons (mkTup mNil) mNil))) (sSeq (sFor (iSeqK (mV 0)) (gN 4) (sAsg 3 (mLc2 (iSeqK (mV 3)) (gN 5) mYes (iRng rng1 (mCons (mOp addT (mOp min2T (mV 4) (mOp subT (mV 2) (mUn sumT (mV 5)))) (mC (.int 1))) mNil)) (gN 6) mYes (mOp addT (mV 5) (mkTup (mCons (mV 6) mNil))) [5, 6] [6]))) sNext))))
def o_all_kinds : M T := (mUn (sortGT SumB) (mLc (iSeqK (mV 3)) (gN 5) (mB (mOp (hasT false) (mUn sumT (mV 5)) (mV 1))) (mV 5) [5]))
def F_all_kinds : F := runO 7 m_all_kinds o_all_kinds
def m_due_of : MS := (sSeq (sDrop (mF F_check_setting (mCons (mV 0) (mCons (mV 1) mNil)))) (sSeq (sIf (mNot (mTru (mF F_is_kind_of (mCons (mV 0) (mCons (mV 1) (mCons (mV 2) mNil)))))) (sRaise "BadKind" ["value"] (mCons (mV 2) mNil)) sNext) (sSeq (sAsg 3 (mOp itT (mV 1) (mUn sumT (mV 2)))) (sSeq (sFor (iZp (mCons (mV 0) (mCons (mV 2) mNil))) (gN2 4 5) (sAsg 3 (mOp mulT (mV 3) (mF F_choices (mCons (mV 4) (mCons (mV 5) mNil)))))) (sRet (mV 3))))))
def F_due_of : F := runF 6 m_due_of
def m_team_count : MS := (sSeq (sDrop (mF F_check_setting (mCons (mV 0) (mCons (mV 1) mNil)))) (sRet (mF F_total_of (mCons (mUn sumT (mV 0)) (mCons (mV 1) mNil)))))
def F_team_count : F := runF 2 m_team_count
def m__law_due_told : MS := (sTry "BadKind" (sRet (mF F_due_of (mCons (mV 0) (mCons (mV 1) (mCons (mV 2) mNil))))) (msEq "kind" "value" 3 2))
def F__law_due_told : F := runF 4 m__law_due_told
end Mi

end
section
namespace K01
open PySem PySem.Spec PyProof.Rows L2 Evl TD Mi
def m__law_draw : MS := (sSeq (sPutL 0 (mC (.int 2)) (mOp addT (mIxO 0 (mC (.int 2))) (mC (.int 1)))) (sSeq (sIf (mB (mOp geT (mIxO 0 (mC (.int 0))) (mOp powT (mC (.int 10)) (mC (.int 18))))) (sSeq (sAsg 2 (mOp modT (mUn intT (mIxO 0 (mC (.int 1)))) (mV 1))) (sSeq (sPutL 0 (mC (.int 1)) (mOp fdivT (mIxO 0 (mC (.int 1))) (mV 1))) (sRet (mV 2)))) sNext) (sSeq (sAsg 3 (mOp modT (mUn intT (mIxO 0 (mC (.int 0)))) (mC (.int 2147480411)))) (sSeq (sAsg 4 (mOp modT (mUn intT (mOp powT (mUn intT (mOp addT (mOp addT (mOp mulT (mV 3) (mC (.int 7919))) (mOp mulT (mIxO 0 (mC (.int 2))) (mC (.int 104003)))) (mC (.int 12011)))) (mC (.int 5)))) (mC (.int 2147483647)))) (sSeq (sAsg 4 (mOp modT (mUn intT (mOp powT (mUn intT (mOp addT (mV 4) (mOp mulT (mOp mulT (mIxO 0 (mC (.int 2))) (mIxO 0 (mC (.int 2)))) (mC (.int 40529))))) (mC (.int 3)))) (mC (.int 2147480213)))) (sRet (mOp modT (mOp fdivT (mV 4) (mC (.int 16))) (mV 1))))))))
def F__law_draw : FQ := runQ 5 m__law_draw
abbrev F__law_setting : FQ := Mi.F__law_setting F__law_draw
abbrev F__law_odd : FQ := Mi.F__law_odd F__law_draw
def m_law : MS := (sSeq (sOwn 1 (mSrc (mF F__law_cell (mCons (mV 0) (mCons (mC (.int 0)) mNil))))) (sSeq (sOwn 2 (mkLst (mCons (mkLst (mCons (mC (.int 1)) mNil)) mNil))) (sSeq (sFor (iRng rng2 (mCons (mC (.int 1)) (mCons (mC (.int 61)) mNil))) (gN 3) (sSeq (sAsg 4 (mIxO 2 (mUn negT (mC (.int 1))))) (sApp 2 (mOp addT (mOp addT (mkLst (mCons (mC (.int 1)) mNil)) (mLc (iRng rng1 (mCons (mOp subT (mV 3) (mC (.int 1))) mNil)) (gN 5) mYes (mOp addT (mOp itT (mV 4) (mV 5)) (mOp itT (mV 4) (mOp addT (mV 5) (mC (.int 1))))) [5])) (mkLst (mCons (mC (.int 1)) mNil)))))) (sSeq (sAsg 3 (mFQ F__law_draw 1 (mCons (mC (.int 61)) mNil))) (sSeq (sIf (mOr (mB (mOp neT (mLc (iRng rng1 (mCons (mOp addT (mV 3) (mC (.int 1))) mNil)) (gN 6) mYes (mF F_choices (mCons (mV 3) (mCons (mV 6) mNil))) [6]) (mIxO 2 (mV 3)))) (mB (mOp neT (mF F_choices (mCons (mOp min2T (mV 3) (mC (.int 59))) (mCons (mC (.int 60)) mNil))) (mC (.int 0))))) (sRet (mC (.bool false))) sNext) (sSeq (sFor (iSeqK (mSli (mV 0) mNo (mSo (mC (.int 8))))) (gN 7) (sSeq (sOwn 1 (mSrc (mV 7))) (sSeq (sUnp (gN2 8 9) (mFQ F__law_setting 1 mNil)) (sSeq (sAsg 10 (mF F__law_kinds (mCons (mV 8) (mCons (mV 9) mNil)))) (sSeq (sDrop (mF F_all_kinds (mCons (mV 8) (mCons (mV 9) mNil)))) (sSeq (sIf (mOr (mB (mOp neT (mF F_all_kinds (mCons (mV 8) (mCons (mV 9) mNil))) (mV 10))) (mB (mOp neT (mF F_all_kinds (mCons (mUn tupleT (mV 8)) (mCons (mDictOf (mV 9)) mNil))) (mV 10)))) (sRet (mC (.bool false))) sNext) (sSeq (sIf (mB (mOp neT (mLc (iSeqK (mV 10)) (gN 11) mYes (mF F_is_kind (mCons (mUn tupleT (mV 8)) (mCons (mV 9) (mCons (mV 11) mNil)))) [11]) (mOp mulT (mkLst (mCons (mC (.bool true)) mNil)) (mUn lenA (mV 10))))) (sRet (mC (.bool false))) sNext) (sSeq (sAsg 12 (mLc (iSeqK (mV 10)) (gN 11) mYes (mF F__law_due (mCons (mV 8) (mCons (mV 9) (mCons (mV 11) mNil)))) [11])) (sSeq (sIf (mB (mOp neT (mLc (iSeqK (mV 10)) (gN 11) mYes (mF F_due_of (mCons (mUn tupleT (mV 8)) (mCons (mV 9) (mCons (mV 11) mNil)))) [11]) (mV 12))) (sRet (mC (.bool false))) sNext) (sSeq (sAsg 13 (mUn sumT (mLc (iSeqK (mV 9)) (gN 14) mYes (mOp mulT (mOp itT (mV 9) (mV 14)) (mF F__law_choose (mCons (mUn sumT (mV 8)) (mCons (mV 14) mNil)))) [14]))) (sSeq (sIf (mOr (mB (mOp neT (mF F_team_count (mCons (mV 8) (mCons (mV 9) mNil))) (mV 13))) (mB (mOp neT (mUn sumT (mV 12)) (mV 13)))) (sRet (mC (.bool false))) sNext) (sFor (iRng rng1 (mCons (mC (.int 6)) mNil)) (gN 5) (sSeq (sAsg 15 (mFQ F__law_odd 1 (mCons (mV 10) (mCons (mV 8) mNil)))) (sSeq (sAsg 16 (mF F__law_is_right (mCons (mV 10) (mCons (mV 15) mNil)))) (sSeq (sAsg 17 (mF F_is_kind (mCons (mV 8) (mCons (mV 9) (mCons (mV 15) mNil))))) (sSeq (sIf (mOr (mNot (mTru (mUn (isT "bool") (mV 17)))) (mB (mOp neT (mV 17) (mV 16)))) (sRet (mC (.bool false))) sNext) (sIf (mAnd (mNot (mTru (mV 16))) (mB (mOp neT (mF F__law_due_told (mCons (mV 8) (mCons (mV 9) (mCons (mV 15) mNil)))) (mkTup (mCons (mC (.str "kind")) (mCons (mC (.bool true)) mNil)))))) (sRet (mC (.bool false))) sNext))))))))))))))))) (sRet (mC (.bool true)))))))))
def F_law : F := runF 18 m_law
end K01

end
section
namespace K01
open PySem PySem.Spec PyProof.Rows L2 Evl TD Mi
variable [HasT]
def top (i : Nat) : Stmt := PySem.Challenge.pw_allteams_k01_choices_kinds_and_dues.main.body.getD i (.Pass ⟨0, 0, 0, 0⟩)
abbrev FnP (K : PySem.W.Frag) (x : Str) (st : Stmt) (f : Addr) (fd : FuncData) : Prop := FunD K x x (defArgs st) (defBody st) (defScope st) [] [] f fd
structure Tx (mg : Str → Option Value) : Prop where
  nm : Nm mg
  g_MOST_TEAMS : ∃ t, mg "MOST_TEAMS" = some (.int 130 t)
  g_MOST_PEOPLE : ∃ t, mg "MOST_PEOPLE" = some (.int 10 t)
  g_MOST_IN_TEAM : ∃ t, mg "MOST_IN_TEAM" = some (.int 4 t)
  g_MOST_TIMES : ∃ t, mg "MOST_TIMES" = some (.int 3 t)
  g_MOST_GAMES : ∃ t, mg "MOST_GAMES" = some (.int 2 t)
section
variable {P : Program} {w : World} {K : PySem.W.Frag} {mg : Str → Option Value} {base : Heap}
theorem sc__law_source : FnScope ["_law_cell_here"] ["_law_cell_here"] (defScope (top 31)) := ⟨rfl, rfl, rfl, by decide +kernel, rfl, by decide +kernel, by decide +kernel⟩
theorem ok__law_source {f : Addr} {fd : FuncData} (F : FnP K "_law_source" (top 31) f fd) : FnOk P w K mg base (CX P w) 1 f fd ["_law_cell_here"] spSrc := by
  refine F.ok sc__law_source (fun vs H Q E h => ?_) (fun cdv A outer s H vs Q E hr h => ?_)
  · obtain ⟨v, rfl, _⟩ := h
    rfl
  · obtain ⟨v, rfl, k⟩ := h
    exact ⟨_, pss_one (ps_ret (pe_lst (pa_cons (pv 0) (pa_cons (pv 0) (pa_cons pe_int pa_nil))))), v, rfl, v, rfl, sz_of (by show 3 ≤ 100000; decide), fun l hl => k l hl⟩
/-! _law_draw -/
theorem sc__law_draw : FnScope ["_law_source_here", "_law_limit", "_law_digit", "_law_seed", "_law_mixed"] ["_law_source_here", "_law_limit"] (defScope (top 32)) := ⟨rfl, rfl, rfl, by decide +kernel, rfl, by decide +kernel, by decide +kernel⟩
theorem ok__law_draw (T : Tx mg)    {f : Addr} {fd : FuncData} (F : FnP K "_law_draw" (top 32) f fd) : FnOk P w K mg base (CX P w) 1 f fd ["_law_source_here", "_law_limit"] (spQ K 1 F__law_draw) := by
  refine fun_tq F sc__law_draw rfl fun cdv A outer s H E a rm => ?_
  have nd := sc__law_draw.nd
  have lt : Lets (BX P w K mg base ["_law_source_here", "_law_limit", "_law_digit", "_law_seed", "_law_mixed"] "_law_draw" (defScope (top 32)) f cdv A outer s H E) W0 := lets0
  exact (ds_cons (d_putL (pg_sub (pv 0) de_int set_list) (de_op op_addT opd_add (de_ixO (pv 0) de_int (fun _ _ => rfl)) de_int))
  (ds_cons (d_if (dt_cmp op_ge (nomark _) opd_ge (de_ixO (pv 0) de_int (fun _ _ => rfl)) (de_op op_pow opd_pow de_int de_int)) (ds_cons (d_set (i := 2) nd rfl (by first | exact Or.inl rfl | exact Or.inr rfl) (by simp) (de_op op_mod opd_mod (dd_int T.nm (de_ixO (pv 0) de_int (fun _ _ => rfl))) (de_var (pv 1))))
  (ds_cons (d_putL (pg_sub (pv 0) de_int set_list) (de_op op_fdiv opd_fdiv (de_ixO (pv 0) de_int (fun _ _ => rfl)) (de_var (pv 1))))
  (ds_one (d_ret (de_var (pv 2)))))) ds_nil)
  (ds_cons (d_set (i := 3) nd rfl (by first | exact Or.inl rfl | exact Or.inr rfl) (by simp) (de_op op_mod opd_mod (dd_int T.nm (de_ixO (pv 0) de_int (fun _ _ => rfl))) de_int))
  (ds_cons (d_set (i := 4) nd rfl (by first | exact Or.inl rfl | exact Or.inr rfl) (by simp) (de_op op_mod opd_mod (dd_int T.nm (de_op op_pow opd_pow (dd_int T.nm (de_op op_addT opd_add (de_op op_addT opd_add (de_op op_mulT opd_mul (de_var (pv 3)) de_int) (de_op op_mulT opd_mul (de_ixO (pv 0) de_int (fun _ _ => rfl)) de_int)) de_int)) de_int)) de_int))
  (ds_cons (d_set (i := 4) nd rfl (by first | exact Or.inl rfl | exact Or.inr rfl) (by simp) (de_op op_mod opd_mod (dd_int T.nm (de_op op_pow opd_pow (dd_int T.nm (de_op op_addT opd_add (de_var (pv 4)) (de_op op_mulT opd_mul (de_op op_mulT opd_mul (de_ixO (pv 0) de_int (fun _ _ => rfl)) (de_ixO (pv 0) de_int (fun _ _ => rfl))) de_int))) de_int)) de_int))
  (ds_one (d_ret (de_op op_mod opd_mod (de_op op_fdiv opd_fdiv (de_var (pv 4)) de_int) (de_var (pv 1))))))))))
/-! _law_cell -/
theorem sc__law_cell : FnScope ["_law_script", "_law_place"] ["_law_script", "_law_place"] (defScope (top 30)) := ⟨rfl, rfl, rfl, by decide +kernel, rfl, by decide +kernel, by decide +kernel⟩
theorem ok__law_cell (T : Tx mg)    {f : Addr} {fd : FuncData} (F : FnP K "_law_cell" (top 30) f fd) : FnOk P w K mg base (CX P w) 1 f fd ["_law_script", "_law_place"] (spV K 2 F__law_cell) := by
  refine fun_td F sc__law_cell (by decide) fun cdv A outer s H E rm => ?_
  have nd := sc__law_cell.nd
  have tk : Takes (BX P w K mg base ["_law_script", "_law_place"] "_law_cell" (defScope (top 30)) f cdv A outer s H E) (fun cls d _ H => E cls d H) := takes_of rfl rfl rfl rfl
  have lt : Lets (BX P w K mg base ["_law_script", "_law_place"] "_law_cell" (defScope (top 30)) f cdv A outer s H E) (fun cls d _ H => E cls d H) := lets_of tk
  exact (ds_cons (d_if (dt_cmp op_lt (nomark _) opd_lt (de_var (pv 1)) (dd_lenA T.nm (de_var (pv 0)))) (ds_one (d_ret (de_ix (ix_all (hu1 rm)) opd_it (de_var (pv 0)) (de_var (pv 1)) (fun _ _ => rfl)))) ds_nil)
  (ds_one (d_ret de_int)))
/-! _law_choose -/
theorem sc__law_choose : FnScope ["_law_many", "_law_few", "_law_found", "_law_k"] ["_law_many", "_law_few"] (defScope (top 33)) := ⟨rfl, rfl, rfl, by decide +kernel, rfl, by decide +kernel, by decide +kernel⟩
theorem ok__law_choose (T : Tx mg)    {f : Addr} {fd : FuncData} (F : FnP K "_law_choose" (top 33) f fd) : FnOk P w K mg base (CX P w) 1 f fd ["_law_many", "_law_few"] (spV K 2 F__law_choose) := by
  refine fun_td F sc__law_choose (by decide) fun cdv A outer s H E rm => ?_
  have nd := sc__law_choose.nd
  have tk : Takes (BX P w K mg base ["_law_many", "_law_few", "_law_found", "_law_k"] "_law_choose" (defScope (top 33)) f cdv A outer s H E) (fun cls d _ H => E cls d H) := takes_of rfl rfl rfl rfl
  have lt : Lets (BX P w K mg base ["_law_many", "_law_few", "_law_found", "_law_k"] "_law_choose" (defScope (top 33)) f cdv A outer s H E) (fun cls d _ H => E cls d H) := lets_of tk
  exact (ds_cons (d_if (dt_cmp op_gt (nomark _) opd_gt (de_var (pv 1)) (de_var (pv 0))) (ds_one (d_ret de_int)) ds_nil)
  (ds_cons (d_set (i := 2) nd rfl (by first | exact Or.inl rfl | exact Or.inr rfl) (by simp) de_int)
  (ds_cons (d_for (passes_of rfl) rfl (di_range1 rfl T.nm.range (da_cons (de_var (pv 1)) da_nil)) (pg_name (i := 3) nd rfl (by first | exact Or.inl rfl | exact Or.inr rfl)) (tg_name (by simp)) (ds_one (d_set (i := 2) nd rfl (by first | exact Or.inl rfl | exact Or.inr rfl) (by simp) (de_op op_fdiv opd_fdiv (de_op op_mulT opd_mul (de_var (pv 2)) (de_op op_sub opd_sub (de_var (pv 0)) (de_var (pv 3)))) (de_op op_addT opd_add (de_var (pv 3)) de_int)))))
  (ds_one (d_ret (de_var (pv 2)))))))
/-! _law_setting -/
theorem sc__law_setting : FnScope ["_law_source_here", "_law_way", "_law_sizes", "_law_k", "_law_size", "_law_games", "_law_team"] ["_law_source_here"] (defScope (top 37)) := ⟨rfl, rfl, rfl, by decide +kernel, rfl, by decide +kernel, by decide +kernel⟩
theorem ok__law_setting (T : Tx mg) (D__law_draw : DefQ P w K mg base "_law_draw" 1 1 F__law_draw) (D__law_choose : Def P w K mg base "_law_choose" 1 2 F__law_choose)   {f : Addr} {fd : FuncData} (F : FnP K "_law_setting" (top 37) f fd) : FnOk P w K mg base (CX P w) 2 f fd ["_law_source_here"] (spQ K 0 F__law_setting) := by
  refine fun_tq F sc__law_setting rfl fun cdv A outer s H E a rm => ?_
  have nd := sc__law_setting.nd
  have lt : Lets (BX P w K mg base ["_law_source_here", "_law_way", "_law_sizes", "_law_k", "_law_size", "_law_games", "_law_team"] "_law_setting" (defScope (top 37)) f cdv A outer s H E) W0 := lets0
  exact (ds_cons (d_set (i := 1) nd rfl (by first | exact Or.inl rfl | exact Or.inr rfl) (by simp) (dd_fnQ D__law_draw (rm.mono (by decide)) lt (ln_cons ln_nil) (pv 0) (da_cons de_int da_nil)))
  (ds_cons (d_own (i := 2) nd rfl (by first | exact Or.inl rfl | exact Or.inr rfl) (by simp) (df_lst (da_cons (de_op op_addT opd_add de_int (dd_fnQ D__law_draw (rm.mono (by decide)) lt (ln_cons ln_nil) (pv 0) (da_cons (de_ix (ix_all (hu1 rm)) opd_it (de_lst (da_cons de_int (da_cons de_int (da_cons de_int da_nil))) fun h => pe_lst h) (de_var (pv 1)) (fun _ _ => rfl)) da_nil))) da_nil) fun h => pe_lst h))
  (ds_cons (d_for (passes_of rfl) rfl (di_range1 rfl T.nm.range (da_cons (dd_fnQ D__law_draw (rm.mono (by decide)) lt (ln_cons ln_nil) (pv 0) (da_cons (de_ix (ix_all (hu1 rm)) opd_it (de_lst (da_cons de_int (da_cons de_int (da_cons de_int da_nil))) fun h => pe_lst h) (de_var (pv 1)) (fun _ _ => rfl)) da_nil)) da_nil)) (pg_name (i := 3) nd rfl (by first | exact Or.inl rfl | exact Or.inr rfl)) (tg_name (by simp)) (ds_cons (d_set (i := 4) nd rfl (by first | exact Or.inl rfl | exact Or.inr rfl) (by simp) (de_op op_addT opd_add de_int (dd_fnQ D__law_draw (rm.mono (by decide)) lt (ln_cons ln_nil) (pv 0) (da_cons (de_ix (ix_all (hu1 rm)) opd_it (de_lst (da_cons de_int (da_cons de_int (da_cons de_int da_nil))) fun h => pe_lst h) (de_var (pv 1)) (fun _ _ => rfl)) da_nil))))
  (ds_one (d_if (dt_cmp op_le (nomark _) opd_le (de_op op_addT opd_add (dd_sumO T.nm rfl (pv 2)) (de_var (pv 4))) de_int) (ds_one (d_app (pv 2) (de_var (pv 4)))) ds_nil))))
  (ds_cons (d_own (i := 5) nd rfl (by first | exact Or.inl rfl | exact Or.inr rfl) (by simp) df_dict)
  (ds_cons (d_for (passes_of rfl) rfl (di_range1 rfl T.nm.range (da_cons (de_op op_addT opd_add de_int (dd_fnQ D__law_draw (rm.mono (by decide)) lt (ln_cons ln_nil) (pv 0) (da_cons de_int da_nil))) da_nil)) (pg_name (i := 3) nd rfl (by first | exact Or.inl rfl | exact Or.inr rfl)) (tg_name (by simp)) (ds_one (d_put (hu1 rm) (pv 5) (de_op op_addT opd_add de_int (dd_fnQ D__law_draw (rm.mono (by decide)) lt (ln_cons ln_nil) (pv 0) (da_cons (dd_min T.nm rfl de_int (dd_sumO T.nm rfl (pv 2))) da_nil))) (de_op op_addT opd_add de_int (dd_fnQ D__law_draw (rm.mono (by decide)) lt (ln_cons ln_nil) (pv 0) (da_cons de_int da_nil))))))
  (ds_cons (d_frz (i := 5) (by simp) (d_if (dt_cmp op_gt (nomark _) opd_gt (dd_sum T.nm rfl (de_lc rfl nd (di_seqK (de_var (pv 5))) (blkOk_by (own := [("_law_team", 6)]) (N := (["_law_source_here", "_law_way", "_law_sizes", "_law_k", "_law_size", "_law_games", "_law_team"] : List Str)) (sc := defScope (top 37)) (by decide +kernel)) (fun _ _ _ _ _ => (pg_name (i := 6) nd rfl (by first | exact Or.inl rfl | exact Or.inr rfl))) (tg_name (by simp)) (by simp) (by simp) (fun _ _ _ _ _ => dts_nil) (fun _ _ _ _ _ => (de_op op_mulT opd_mul (de_ix (ix_all (hu1 rm)) opd_it (de_var (pv 5)) (de_var (pv 6)) (fun _ _ => rfl)) (dd_fn D__law_choose (rm.mono (by decide)) lets0 (ln_cons (ln_cons ln_nil)) (da_cons (dd_sumO T.nm rfl (pv 2)) (da_cons (de_var (pv 6)) da_nil))))))) de_int) (ds_one (d_own (i := 5) nd rfl (by first | exact Or.inl rfl | exact Or.inr rfl) (by simp) (df_disp1 (dd_min1 T.nm rfl (de_var (pv 5))) de_int))) ds_nil))
  (ds_one (d_frz (i := 2) (by simp) (d_frz (i := 5) (by simp) (d_ret (de_tup (da_cons (de_var (pv 2)) (da_cons (de_var (pv 5)) da_nil)) fun h => pe_tup h)))))))))))
/-! _law_tuples -/
theorem sc__law_tuples : FnScope ["_law_sizes", "_law_rows", "_law_size", "_law_longer", "_law_row", "_law_number"] ["_law_sizes"] (defScope (top 34)) := ⟨rfl, rfl, rfl, by decide +kernel, rfl, by decide +kernel, by decide +kernel⟩
theorem ok__law_tuples (T : Tx mg)    {f : Addr} {fd : FuncData} (F : FnP K "_law_tuples" (top 34) f fd) : FnOk P w K mg base (CX P w) 1 f fd ["_law_sizes"] (spV K 1 F__law_tuples) := by
  refine fun_td F sc__law_tuples (by decide) fun cdv A outer s H E rm => ?_
  have nd := sc__law_tuples.nd
  have tk : Takes (BX P w K mg base ["_law_sizes", "_law_rows", "_law_size", "_law_longer", "_law_row", "_law_number"] "_law_tuples" (defScope (top 34)) f cdv A outer s H E) (fun cls d _ H => E cls d H) := takes_of rfl rfl rfl rfl
  have lt : Lets (BX P w K mg base ["_law_sizes", "_law_rows", "_law_size", "_law_longer", "_law_row", "_law_number"] "_law_tuples" (defScope (top 34)) f cdv A outer s H E) (fun cls d _ H => E cls d H) := lets_of tk
  exact (ds_cons (d_set (i := 1) nd rfl (by first | exact Or.inl rfl | exact Or.inr rfl) (by simp) (de_lst (da_cons (de_tup da_nil fun h => pe_tup h) da_nil) fun h => pe_lst h))
  (ds_cons (d_for (passes_of rfl) rfl (di_seqK (de_var (pv 0))) (pg_name (i := 2) nd rfl (by first | exact Or.inl rfl | exact Or.inr rfl)) (tg_name (by simp)) (ds_cons (d_set (i := 3) nd rfl (by first | exact Or.inl rfl | exact Or.inr rfl) (by simp) (de_lst da_nil fun h => pe_lst h))
  (ds_cons (d_for (passes_of rfl) rfl (di_seqK (de_var (pv 1))) (pg_name (i := 4) nd rfl (by first | exact Or.inl rfl | exact Or.inr rfl)) (tg_name (by simp)) (ds_one (d_set (i := 3) nd rfl (by first | exact Or.inl rfl | exact Or.inr rfl) (by simp) (de_op op_addT opd_add (de_var (pv 3)) (de_lc rfl nd (di_range1 rfl T.nm.range (da_cons (de_op op_addT opd_add (de_var (pv 2)) de_int) da_nil)) (blkOk_by (own := [("_law_number", 5)]) (N := (["_law_sizes", "_law_rows", "_law_size", "_law_longer", "_law_row", "_law_number"] : List Str)) (sc := defScope (top 34)) (by decide +kernel)) (fun _ _ _ _ _ => (pg_name (i := 5) nd rfl (by first | exact Or.inl rfl | exact Or.inr rfl))) (tg_name (by simp)) (by simp) (by simp) (fun _ _ _ _ _ => dts_nil) (fun _ _ _ _ _ => (de_op op_addT opd_add (de_var (pv 4)) (de_tup (da_cons (de_var (pv 5)) da_nil) fun h => pe_tup h))))))))
  (ds_one (d_set (i := 1) nd rfl (by first | exact Or.inl rfl | exact Or.inr rfl) (by simp) (de_var (pv 3)))))))
  (ds_one (d_ret (de_var (pv 1))))))
/-! _law_kinds -/
theorem sc__law_kinds : FnScope ["_law_sizes", "_law_games", "_law_rows", "_law_team", "_law_row"] ["_law_sizes", "_law_games"] (defScope (top 35)) := ⟨rfl, rfl, rfl, by decide +kernel, rfl, by decide +kernel, by decide +kernel⟩
theorem ok__law_kinds (T : Tx mg) (D__law_tuples : Def P w K mg base "_law_tuples" 1 1 F__law_tuples)   {f : Addr} {fd : FuncData} (F : FnP K "_law_kinds" (top 35) f fd) : FnOk P w K mg base (CX P w) 2 f fd ["_law_sizes", "_law_games"] (spV K 2 F__law_kinds) := by
  refine fun_td F sc__law_kinds (by decide) fun cdv A outer s H E rm => ?_
  have nd := sc__law_kinds.nd
  have tk : Takes (BX P w K mg base ["_law_sizes", "_law_games", "_law_rows", "_law_team", "_law_row"] "_law_kinds" (defScope (top 35)) f cdv A outer s H E) (fun cls d _ H => E cls d H) := takes_of rfl rfl rfl rfl
  have lt : Lets (BX P w K mg base ["_law_sizes", "_law_games", "_law_rows", "_law_team", "_law_row"] "_law_kinds" (defScope (top 35)) f cdv A outer s H E) (fun cls d _ H => E cls d H) := lets_of tk
  exact (ds_cons (d_set (i := 2) nd rfl (by first | exact Or.inl rfl | exact Or.inr rfl) (by simp) (de_lst da_nil fun h => pe_lst h))
  (ds_cons (d_for (passes_of rfl) rfl (di_seqK (dd_sorted1 T.nm rfl (de_var (pv 1)))) (pg_name (i := 3) nd rfl (by first | exact Or.inl rfl | exact Or.inr rfl)) (tg_name (by simp)) (ds_one (d_set (i := 2) nd rfl (by first | exact Or.inl rfl | exact Or.inr rfl) (by simp) (de_op op_addT opd_add (de_var (pv 2)) (de_lc rfl nd (di_seqK (dd_fn D__law_tuples (rm.mono (by decide)) lt (ln_cons ln_nil) (da_cons (de_var (pv 0)) da_nil))) (blkOk_by (own := [("_law_row", 4)]) (N := (["_law_sizes", "_law_games", "_law_rows", "_law_team", "_law_row"] : List Str)) (sc := defScope (top 35)) (by decide +kernel)) (fun _ _ _ _ _ => (pg_name (i := 4) nd rfl (by first | exact Or.inl rfl | exact Or.inr rfl))) (tg_name (by simp)) (by simp) (by simp) (fun _ _ _ _ _ => dts_one (dt_cmp (op_eqD rm.units) (nomark _) opd_eq (dd_sum T.nm rfl (de_var (pv 4))) (de_var (pv 3)))) (fun _ _ _ _ _ => (de_var (pv 4))))))))
  (ds_one (d_ret (de_var (pv 2))))))
/-! choices -/
theorem sc_choices : FnScope ["many", "few", "ways", "k"] ["many", "few"] (defScope (top 16)) := ⟨rfl, rfl, rfl, by decide +kernel, rfl, by decide +kernel, by decide +kernel⟩
theorem ok_choices (T : Tx mg)    {f : Addr} {fd : FuncData} (F : FnP K "choices" (top 16) f fd) : FnOk P w K mg base (CX P w) 1 f fd ["many", "few"] (spV K 2 F_choices) := by
  refine fun_td F sc_choices (by decide) fun cdv A outer s H E rm => ?_
  have nd := sc_choices.nd
  have tk : Takes (BX P w K mg base ["many", "few", "ways", "k"] "choices" (defScope (top 16)) f cdv A outer s H E) (fun cls d _ H => E cls d H) := takes_of rfl rfl rfl rfl
  have lt : Lets (BX P w K mg base ["many", "few", "ways", "k"] "choices" (defScope (top 16)) f cdv A outer s H E) (fun cls d _ H => E cls d H) := lets_of tk
  exact (ds_cons (d_if (dt_cmp op_gt (nomark _) opd_gt (de_var (pv 1)) (de_var (pv 0))) (ds_one (d_ret de_int)) ds_nil)
  (ds_cons (d_set (i := 2) nd rfl (by first | exact Or.inl rfl | exact Or.inr rfl) (by simp) de_int)
  (ds_cons (d_for (passes_of rfl) rfl (di_range1 rfl T.nm.range (da_cons (de_var (pv 1)) da_nil)) (pg_name (i := 3) nd rfl (by first | exact Or.inl rfl | exact Or.inr rfl)) (tg_name (by simp)) (ds_one (d_set (i := 2) nd rfl (by first | exact Or.inl rfl | exact Or.inr rfl) (by simp) (de_op op_fdiv opd_fdiv (de_op op_mulT opd_mul (de_var (pv 2)) (de_op op_sub opd_sub (de_var (pv 0)) (de_var (pv 3)))) (de_op op_addT opd_add (de_var (pv 3)) de_int)))))
  (ds_one (d_ret (de_var (pv 2)))))))
/-! _law_due -/
theorem sc__law_due : FnScope ["_law_sizes", "_law_games", "_law_kind", "_law_ways", "_law_k"] ["_law_sizes", "_law_games", "_law_kind"] (defScope (top 36)) := ⟨rfl, rfl, rfl, by decide +kernel, rfl, by decide +kernel, by decide +kernel⟩
theorem ok__law_due (T : Tx mg) (D__law_choose : Def P w K mg base "_law_choose" 1 2 F__law_choose)   {f : Addr} {fd : FuncData} (F : FnP K "_law_due" (top 36) f fd) : FnOk P w K mg base (CX P w) 2 f fd ["_law_sizes", "_law_games", "_law_kind"] (spV K 3 F__law_due) := by
  refine fun_td F sc__law_due (by decide) fun cdv A outer s H E rm => ?_
  have nd := sc__law_due.nd
  have tk : Takes (BX P w K mg base ["_law_sizes", "_law_games", "_law_kind", "_law_ways", "_law_k"] "_law_due" (defScope (top 36)) f cdv A outer s H E) (fun cls d _ H => E cls d H) := takes_of rfl rfl rfl rfl
  have lt : Lets (BX P w K mg base ["_law_sizes", "_law_games", "_law_kind", "_law_ways", "_law_k"] "_law_due" (defScope (top 36)) f cdv A outer s H E) (fun cls d _ H => E cls d H) := lets_of tk
  exact (ds_cons (d_set (i := 3) nd rfl (by first | exact Or.inl rfl | exact Or.inr rfl) (by simp) (de_ix (ix_all (hu1 rm)) opd_it (de_var (pv 1)) (dd_sum T.nm rfl (de_var (pv 2))) (fun _ _ => rfl)))
  (ds_cons (d_for (passes_of rfl) rfl (di_range1 rfl T.nm.range (da_cons (dd_lenA T.nm (de_var (pv 0))) da_nil)) (pg_name (i := 4) nd rfl (by first | exact Or.inl rfl | exact Or.inr rfl)) (tg_name (by simp)) (ds_one (d_set (i := 3) nd rfl (by first | exact Or.inl rfl | exact Or.inr rfl) (by simp) (de_op op_mulT opd_mul (de_var (pv 3)) (dd_fn D__law_choose (rm.mono (by decide)) lt (ln_cons (ln_cons ln_nil)) (da_cons (de_ix (ix_all (hu1 rm)) opd_it (de_var (pv 0)) (de_var (pv 4)) (fun _ _ => rfl)) (da_cons (de_ix (ix_all (hu1 rm)) opd_it (de_var (pv 2)) (de_var (pv 4)) (fun _ _ => rfl)) da_nil)))))))
  (ds_one (d_ret (de_var (pv 3))))))
/-! _law_odd -/
theorem sc__law_odd : FnScope ["_law_source_here", "_law_kinds_here", "_law_sizes", "_law_kind", "_law_k", "_law_rows", "_law_item", "_law_size"] ["_law_source_here", "_law_kinds_here", "_law_sizes"] (defScope (top 38)) := ⟨rfl, rfl, rfl, by decide +kernel, rfl, by decide +kernel, by decide +kernel⟩
theorem ok__law_odd (T : Tx mg) (D__law_draw : DefQ P w K mg base "_law_draw" 1 1 F__law_draw)   {f : Addr} {fd : FuncData} (F : FnP K "_law_odd" (top 38) f fd) : FnOk P w K mg base (CX P w) 2 f fd ["_law_source_here", "_law_kinds_here", "_law_sizes"] (spQ K 2 F__law_odd) := by
  refine fun_tq F sc__law_odd rfl fun cdv A outer s H E a rm => ?_
  have nd := sc__law_odd.nd
  have lt : Lets (BX P w K mg base ["_law_source_here", "_law_kinds_here", "_law_sizes", "_law_kind", "_law_k", "_law_rows", "_law_item", "_law_size"] "_law_odd" (defScope (top 38)) f cdv A outer s H E) W0 := lets0
  exact (ds_cons (d_set (i := 3) nd rfl (by first | exact Or.inl rfl | exact Or.inr rfl) (by simp) (de_ix (ix_all (hu1 rm)) opd_it (de_var (pv 1)) (dd_fnQ D__law_draw (rm.mono (by decide)) lt (ln_cons ln_nil) (pv 0) (da_cons (dd_lenA T.nm (de_var (pv 1))) da_nil)) (fun _ _ => rfl)))
  (ds_cons (d_set (i := 4) nd rfl (by first | exact Or.inl rfl | exact Or.inr rfl) (by simp) (dd_fnQ D__law_draw (rm.mono (by decide)) lt (ln_cons ln_nil) (pv 0) (da_cons (dd_lenA T.nm (de_var (pv 3))) da_nil)))
  (ds_cons (d_setLc (i := 5) rfl nd rfl rfl (by simp) (sw_true rfl rfl rfl (by decide +kernel)) (di_seqK (de_lst (da_cons (de_op op_addT opd_add (de_ix (ix_all (hu1 rm)) opd_it (de_var (pv 3)) (de_var (pv 4)) (fun _ _ => rfl)) de_int) (da_cons (de_un un_neg opd_neg de_int) (da_cons de_bl (da_cons de_non (da_cons de_str da_nil))))) fun h => pe_lst h)) (blkOk_by (own := [("_law_item", 6)]) (N := (["_law_source_here", "_law_kinds_here", "_law_sizes", "_law_kind", "_law_k", "_law_rows", "_law_item", "_law_size"] : List Str)) (sc := defScope (top 38)) (by decide +kernel)) (fun _ _ _ _ _ => (pg_name (i := 6) nd rfl (by first | exact Or.inl rfl | exact Or.inr rfl))) (tg_name (by simp)) (by simp) (by simp) (fun _ _ _ _ _ => dts_nil) (fun _ _ _ _ _ => (de_op op_addT opd_add (de_op op_addT opd_add (de_sli (de_var (pv 3)) do_none (do_some (de_var (pv 4)))) (de_tup (da_cons (de_var (pv 6)) da_nil) fun h => pe_tup h)) (de_sli (de_var (pv 3)) (do_some (de_op op_addT opd_add (de_var (pv 4)) de_int)) do_none))))
  (ds_cons (d_own (i := 5) nd rfl (by first | exact Or.inl rfl | exact Or.inr rfl) (by simp) (df_cat (de_var (pv 5)) (de_lst (da_cons (dd_list T.nm (de_var (pv 3))) (da_cons (de_op op_addT opd_add (de_var (pv 3)) (de_tup (da_cons de_int da_nil) fun h => pe_tup h)) (da_cons (de_sli (de_var (pv 3)) (do_some de_int) do_none) (da_cons de_non (da_cons de_int (da_cons de_str (da_cons (de_tup da_nil fun h => pe_tup h) (da_cons (de_tup (da_cons (de_var (pv 3)) da_nil) fun h => pe_tup h) da_nil)))))))) fun h => pe_lst h)))
  (ds_cons (d_app (pv 5) (dd_tuple T.nm (de_lc rfl nd (di_seqK (de_var (pv 2))) (blkOk_by (own := [("_law_size", 7)]) (N := (["_law_source_here", "_law_kinds_here", "_law_sizes", "_law_kind", "_law_k", "_law_rows", "_law_item", "_law_size"] : List Str)) (sc := defScope (top 38)) (by decide +kernel)) (fun _ _ _ _ _ => (pg_name (i := 7) nd rfl (by first | exact Or.inl rfl | exact Or.inr rfl))) (tg_name (by simp)) (by simp) (by simp) (fun _ _ _ _ _ => dts_nil) (fun _ _ _ _ _ => (de_op op_addT opd_add (de_var (pv 7)) de_int)))))
  (ds_one (d_ret (de_ixO (pv 5) (dd_fnQ D__law_draw (rm.mono (by decide)) lt (ln_cons ln_nil) (pv 0) (da_cons (dd_lenO T.nm (pv 5)) da_nil)) (fun _ _ => rfl)))))))))
/-! _law_is_right -/
theorem sc__law_is_right : FnScope ["_law_kinds_here", "_law_value", "_law_item"] ["_law_kinds_here", "_law_value"] (defScope (top 39)) := ⟨rfl, rfl, rfl, by decide +kernel, rfl, by decide +kernel, by decide +kernel⟩
theorem ok__law_is_right (T : Tx mg)    {f : Addr} {fd : FuncData} (F : FnP K "_law_is_right" (top 39) f fd) : FnOk P w K mg base (CX P w) 1 f fd ["_law_kinds_here", "_law_value"] (spV K 2 F__law_is_right) := by
  refine fun_td F sc__law_is_right (by decide) fun cdv A outer s H E rm => ?_
  have nd := sc__law_is_right.nd
  have tk : Takes (BX P w K mg base ["_law_kinds_here", "_law_value", "_law_item"] "_law_is_right" (defScope (top 39)) f cdv A outer s H E) (fun cls d _ H => E cls d H) := takes_of rfl rfl rfl rfl
  have lt : Lets (BX P w K mg base ["_law_kinds_here", "_law_value", "_law_item"] "_law_is_right" (defScope (top 39)) f cdv A outer s H E) (fun cls d _ H => E cls d H) := lets_of tk
  exact (ds_cons (d_if (PW.pt (dw_or (dt_not (dt_tru (dd_is T.nm (by decide) (de_var (pv 1)) T.nm.tuple PyProof.Rows.boot_tuple))) (pw_or1 (dt_tru (dd_any T.nm rfl (de_lc rfl nd (di_seqK (de_var (pv 1))) (blkOk_by (own := [("_law_item", 2)]) (N := (["_law_kinds_here", "_law_value", "_law_item"] : List Str)) (sc := defScope (top 39)) (by decide +kernel)) (fun _ _ _ _ _ => (pg_name (i := 2) nd rfl (by first | exact Or.inl rfl | exact Or.inr rfl))) (tg_name (by simp)) (by simp) (by simp) (fun _ _ _ _ _ => dts_nil) (fun _ _ _ _ _ => (dd_is T.nm (by decide) (de_var (pv 2)) T.nm.bool PyProof.Rows.boot_bool)))))))) (ds_one (d_ret de_bl)) ds_nil)
  (ds_one (d_ret (de_cmp (op_inA (hu65 rm)) (by rfl) opd_in (de_var (pv 1)) (de_var (pv 0))))))
/-! is_list -/
theorem sc_is_list : FnScope ["value"] ["value"] (defScope (top 3)) := ⟨rfl, rfl, rfl, by decide +kernel, rfl, by decide +kernel, by decide +kernel⟩
theorem ok_is_list (T : Tx mg)    {f : Addr} {fd : FuncData} (F : FnP K "is_list" (top 3) f fd) : FnOk P w K mg base (CX P w) 1 f fd ["value"] (spV K 1 F_is_list) := by
  refine fun_td F sc_is_list (by decide) fun cdv A outer s H E rm => ?_
  have nd := sc_is_list.nd
  have tk : Takes (BX P w K mg base ["value"] "is_list" (defScope (top 3)) f cdv A outer s H E) (fun cls d _ H => E cls d H) := takes_of rfl rfl rfl rfl
  have lt : Lets (BX P w K mg base ["value"] "is_list" (defScope (top 3)) f cdv A outer s H E) (fun cls d _ H => E cls d H) := lets_of tk
  exact (ds_one (d_ret (dd_is2 T.nm (by decide) (by decide) (de_var (pv 0)) T.nm.list PyProof.Rows.boot_list T.nm.tuple PyProof.Rows.boot_tuple)))
/-! is_integer -/
theorem sc_is_integer : FnScope ["value"] ["value"] (defScope (top 1)) := ⟨rfl, rfl, rfl, by decide +kernel, rfl, by decide +kernel, by decide +kernel⟩
theorem ok_is_integer (T : Tx mg)    {f : Addr} {fd : FuncData} (F : FnP K "is_integer" (top 1) f fd) : FnOk P w K mg base (CX P w) 1 f fd ["value"] (spV K 1 F_is_integer) := by
  refine fun_td F sc_is_integer (by decide) fun cdv A outer s H E rm => ?_
  have nd := sc_is_integer.nd
  have tk : Takes (BX P w K mg base ["value"] "is_integer" (defScope (top 1)) f cdv A outer s H E) (fun cls d _ H => E cls d H) := takes_of rfl rfl rfl rfl
  have lt : Lets (BX P w K mg base ["value"] "is_integer" (defScope (top 1)) f cdv A outer s H E) (fun cls d _ H => E cls d H) := lets_of tk
  exact (ds_one (d_ret (de_and (dd_is T.nm (by decide) (de_var (pv 0)) T.nm.int PyProof.Rows.boot_int) (pe_one (de_not (dd_is T.nm (by decide) (de_var (pv 0)) T.nm.bool PyProof.Rows.boot_bool))))))
/-! is_within -/
theorem sc_is_within : FnScope ["value", "low", "high"] ["value", "low", "high"] (defScope (top 2)) := ⟨rfl, rfl, rfl, by decide +kernel, rfl, by decide +kernel, by decide +kernel⟩
theorem ok_is_within (T : Tx mg) (D_is_integer : Def P w K mg base "is_integer" 1 1 F_is_integer)   {f : Addr} {fd : FuncData} (F : FnP K "is_within" (top 2) f fd) : FnOk P w K mg base (CX P w) 2 f fd ["value", "low", "high"] (spV K 3 F_is_within) := by
  refine fun_td F sc_is_within (by decide) fun cdv A outer s H E rm => ?_
  have nd := sc_is_within.nd
  have tk : Takes (BX P w K mg base ["value", "low", "high"] "is_within" (defScope (top 2)) f cdv A outer s H E) (fun cls d _ H => E cls d H) := takes_of rfl rfl rfl rfl
  have lt : Lets (BX P w K mg base ["value", "low", "high"] "is_within" (defScope (top 2)) f cdv A outer s H E) (fun cls d _ H => E cls d H) := lets_of tk
  exact (ds_one (d_ret (de_and (dd_fn D_is_integer (rm.mono (by decide)) lt (ln_cons ln_nil) (da_cons (de_var (pv 0)) da_nil)) (pe_one (de_chain op_le op_le opd_le opd_le (de_var (pv 1)) (de_var (pv 0)) (de_var (pv 2)))))))
/-! are_sizes -/
theorem sc_are_sizes : FnScope ["value", "size"] ["value"] (defScope (top 17)) := ⟨rfl, rfl, rfl, by decide +kernel, rfl, by decide +kernel, by decide +kernel⟩
theorem ok_are_sizes (T : Tx mg) (D_is_list : Def P w K mg base "is_list" 1 1 F_is_list) (D_is_within : Def P w K mg base "is_within" 2 3 F_is_within)   {f : Addr} {fd : FuncData} (F : FnP K "are_sizes" (top 17) f fd) : FnOk P w K mg base (CX P w) 3 f fd ["value"] (spV K 1 F_are_sizes) := by
  refine fun_td F sc_are_sizes (by decide) fun cdv A outer s H E rm => ?_
  have nd := sc_are_sizes.nd
  have tk : Takes (BX P w K mg base ["value", "size"] "are_sizes" (defScope (top 17)) f cdv A outer s H E) (fun cls d _ H => E cls d H) := takes_of rfl rfl rfl rfl
  have lt : Lets (BX P w K mg base ["value", "size"] "are_sizes" (defScope (top 17)) f cdv A outer s H E) (fun cls d _ H => E cls d H) := lets_of tk
  exact (ds_cons (d_if (PW.pt (dw_or (dt_not (dt_tru (dd_fn D_is_list (rm.mono (by decide)) lt (ln_cons ln_nil) (da_cons (de_var (pv 0)) da_nil)))) (pw_or1 (dt_cmp (op_eqD rm.units) (nomark _) opd_eq (dd_lenA T.nm (de_var (pv 0))) de_int)))) (ds_one (d_ret de_bl)) ds_nil)
  (ds_one (d_ret (de_and (dd_all T.nm rfl (de_lc rfl nd (di_seqK (de_var (pv 0))) (blkOk_by (own := [("size", 1)]) (N := (["value", "size"] : List Str)) (sc := defScope (top 17)) (by decide +kernel)) (fun _ _ _ _ _ => (pg_name (i := 1) nd rfl (by first | exact Or.inl rfl | exact Or.inr rfl))) (tg_name (by simp)) (by simp) (by simp) (fun _ _ _ _ _ => dts_nil) (fun _ _ _ _ _ => (dd_fn D_is_within (rm.mono (by decide)) lets0 (ln_cons (ln_cons (ln_cons ln_nil))) (da_cons (de_var (pv 1)) (da_cons de_int (da_cons (dd_int_glob T.g_MOST_PEOPLE) da_nil))))))) (pe_one (de_cmp op_le (nomark _) opd_le (dd_sum T.nm rfl (de_var (pv 0))) (dd_int_glob T.g_MOST_PEOPLE)))))))
/-! check_sizes -/
theorem sc_check_sizes : FnScope ["sizes"] ["sizes"] (defScope (top 20)) := ⟨rfl, rfl, rfl, by decide +kernel, rfl, by decide +kernel, by decide +kernel⟩
theorem ok_check_sizes (T : Tx mg) (D_are_sizes : Def P w K mg base "are_sizes" 3 1 F_are_sizes) (X_BadSizes : Kl P w K mg base "BadSizes" ["value"])  {f : Addr} {fd : FuncData} (F : FnP K "check_sizes" (top 20) f fd) : FnOk P w K mg base (CX P w) 4 f fd ["sizes"] (spV K 1 F_check_sizes) := by
  refine fun_td F sc_check_sizes (by decide) fun cdv A outer s H E rm => ?_
  have nd := sc_check_sizes.nd
  have tk : Takes (BX P w K mg base ["sizes"] "check_sizes" (defScope (top 20)) f cdv A outer s H E) (fun cls d _ H => E cls d H) := takes_of rfl rfl rfl rfl
  have lt : Lets (BX P w K mg base ["sizes"] "check_sizes" (defScope (top 20)) f cdv A outer s H E) (fun cls d _ H => E cls d H) := lets_of tk
  exact (ds_one (d_if (dt_not (dt_tru (dd_fn D_are_sizes (rm.mono (by decide)) lt (ln_cons ln_nil) (da_cons (de_var (pv 0)) da_nil)))) (ds_one (d_raise rfl tk X_BadSizes (rm.mono (by decide)) (da_cons (de_var (pv 0)) da_nil) (by decide))) ds_nil))
/-! total_of -/
theorem sc_total_of : FnScope ["people", "games", "size"] ["people", "games"] (defScope (top 19)) := ⟨rfl, rfl, rfl, by decide +kernel, rfl, by decide +kernel, by decide +kernel⟩
theorem ok_total_of (T : Tx mg) (D_choices : Def P w K mg base "choices" 1 2 F_choices)   {f : Addr} {fd : FuncData} (F : FnP K "total_of" (top 19) f fd) : FnOk P w K mg base (CX P w) 2 f fd ["people", "games"] (spV K 2 F_total_of) := by
  refine fun_td F sc_total_of (by decide) fun cdv A outer s H E rm => ?_
  have nd := sc_total_of.nd
  have tk : Takes (BX P w K mg base ["people", "games", "size"] "total_of" (defScope (top 19)) f cdv A outer s H E) (fun cls d _ H => E cls d H) := takes_of rfl rfl rfl rfl
  have lt : Lets (BX P w K mg base ["people", "games", "size"] "total_of" (defScope (top 19)) f cdv A outer s H E) (fun cls d _ H => E cls d H) := lets_of tk
  exact (ds_one (d_ret (dd_sum T.nm rfl (de_lc rfl nd (di_seqK (de_var (pv 1))) (blkOk_by (own := [("size", 2)]) (N := (["people", "games", "size"] : List Str)) (sc := defScope (top 19)) (by decide +kernel)) (fun _ _ _ _ _ => (pg_name (i := 2) nd rfl (by first | exact Or.inl rfl | exact Or.inr rfl))) (tg_name (by simp)) (by simp) (by simp) (fun _ _ _ _ _ => dts_nil) (fun _ _ _ _ _ => (de_op op_mulT opd_mul (de_ix (ix_all (hu1 rm)) opd_it (de_var (pv 1)) (de_var (pv 2)) (fun _ _ => rfl)) (dd_fn D_choices (rm.mono (by decide)) lets0 (ln_cons (ln_cons ln_nil)) (da_cons (de_var (pv 0)) (da_cons (de_var (pv 2)) da_nil)))))))))
/-! are_games -/
theorem sc_are_games : FnScope ["people", "value", "most", "size", "times"] ["people", "value"] (defScope (top 18)) := ⟨rfl, rfl, rfl, by decide +kernel, rfl, by decide +kernel, by decide +kernel⟩
theorem ok_are_games (T : Tx mg) (D_is_within : Def P w K mg base "is_within" 2 3 F_is_within)   {f : Addr} {fd : FuncData} (F : FnP K "are_games" (top 18) f fd) : FnOk P w K mg base (CX P w) 3 f fd ["people", "value"] (spV K 2 F_are_games) := by
  refine fun_td F sc_are_games (by decide) fun cdv A outer s H E rm => ?_
  have nd := sc_are_games.nd
  have tk : Takes (BX P w K mg base ["people", "value", "most", "size", "times"] "are_games" (defScope (top 18)) f cdv A outer s H E) (fun cls d _ H => E cls d H) := takes_of rfl rfl rfl rfl
  have lt : Lets (BX P w K mg base ["people", "value", "most", "size", "times"] "are_games" (defScope (top 18)) f cdv A outer s H E) (fun cls d _ H => E cls d H) := lets_of tk
  exact (ds_cons (d_if (PW.pt (dw_or (dt_not (dt_tru (dd_is T.nm (by decide) (de_var (pv 1)) T.nm.dict PyProof.Rows.boot_dict))) (pw_or1 (dt_not (dt_tru (dd_fn D_is_within (rm.mono (by decide)) lt (ln_cons (ln_cons (ln_cons ln_nil))) (da_cons (dd_lenA T.nm (de_var (pv 1))) (da_cons de_int (da_cons (dd_int_glob T.g_MOST_GAMES) da_nil))))))))) (ds_one (d_ret de_bl)) ds_nil)
  (ds_cons (d_set (i := 2) nd rfl (by first | exact Or.inl rfl | exact Or.inr rfl) (by simp) (dd_min T.nm rfl (dd_int_glob T.g_MOST_IN_TEAM) (de_var (pv 0))))
  (ds_one (d_ret (dd_all T.nm rfl (de_lc rfl nd (di_items (de_var (pv 1))) (blkOk_by (own := [("size", 3), ("times", 4)]) (N := (["people", "value", "most", "size", "times"] : List Str)) (sc := defScope (top 18)) (by decide +kernel)) (fun _ _ _ _ _ => (pg_tup rfl (pgs_cons (pg_name (i := 3) nd rfl (by first | exact Or.inl rfl | exact Or.inr rfl)) (pgs_cons (pg_name (i := 4) nd rfl (by first | exact Or.inl rfl | exact Or.inr rfl)) pgs_nil)))) (tg_two (by simp) (by simp)) (by simp) (by simp) (fun _ _ _ _ _ => dts_nil) (fun _ _ _ _ _ => (de_and (dd_fn D_is_within (rm.mono (by decide)) lets0 (ln_cons (ln_cons (ln_cons ln_nil))) (da_cons (de_var (pv 3)) (da_cons de_int (da_cons (de_var (pv 2)) da_nil)))) (pe_one (dd_fn D_is_within (rm.mono (by decide)) lets0 (ln_cons (ln_cons (ln_cons ln_nil))) (da_cons (de_var (pv 4)) (da_cons de_int (da_cons (dd_int_glob T.g_MOST_TIMES) da_nil)))))))))))))
/-! check_games -/
theorem sc_check_games : FnScope ["people", "games", "total"] ["people", "games"] (defScope (top 21)) := ⟨rfl, rfl, rfl, by decide +kernel, rfl, by decide +kernel, by decide +kernel⟩
theorem ok_check_games (T : Tx mg) (D_total_of : Def P w K mg base "total_of" 2 2 F_total_of) (D_are_games : Def P w K mg base "are_games" 3 2 F_are_games) (X_BadGames : Kl P w K mg base "BadGames" ["value"]) (X_TooMany : Kl P w K mg base "TooMany" ["count"])  {f : Addr} {fd : FuncData} (F : FnP K "check_games" (top 21) f fd) : FnOk P w K mg base (CX P w) 4 f fd ["people", "games"] (spV K 2 F_check_games) := by
  refine fun_td F sc_check_games (by decide) fun cdv A outer s H E rm => ?_
  have nd := sc_check_games.nd
  have tk : Takes (BX P w K mg base ["people", "games", "total"] "check_games" (defScope (top 21)) f cdv A outer s H E) (fun cls d _ H => E cls d H) := takes_of rfl rfl rfl rfl
  have lt : Lets (BX P w K mg base ["people", "games", "total"] "check_games" (defScope (top 21)) f cdv A outer s H E) (fun cls d _ H => E cls d H) := lets_of tk
  exact (ds_cons (d_if (dt_not (dt_tru (dd_fn D_are_games (rm.mono (by decide)) lt (ln_cons (ln_cons ln_nil)) (da_cons (de_var (pv 0)) (da_cons (de_var (pv 1)) da_nil))))) (ds_one (d_raise rfl tk X_BadGames (rm.mono (by decide)) (da_cons (de_var (pv 1)) da_nil) (by decide))) ds_nil)
  (ds_cons (d_set (i := 2) nd rfl (by first | exact Or.inl rfl | exact Or.inr rfl) (by simp) (dd_fn D_total_of (rm.mono (by decide)) lt (ln_cons (ln_cons ln_nil)) (da_cons (de_var (pv 0)) (da_cons (de_var (pv 1)) da_nil))))
  (ds_one (d_if (dt_cmp op_gt (nomark _) opd_gt (de_var (pv 2)) (dd_int_glob T.g_MOST_TEAMS)) (ds_one (d_raise rfl tk X_TooMany (rm.mono (by decide)) (da_cons (de_var (pv 2)) da_nil) (by decide))) ds_nil))))
/-! check_setting -/
theorem sc_check_setting : FnScope ["sizes", "games"] ["sizes", "games"] (defScope (top 22)) := ⟨rfl, rfl, rfl, by decide +kernel, rfl, by decide +kernel, by decide +kernel⟩
theorem ok_check_setting (T : Tx mg) (D_check_sizes : Def P w K mg base "check_sizes" 4 1 F_check_sizes) (D_check_games : Def P w K mg base "check_games" 4 2 F_check_games)   {f : Addr} {fd : FuncData} (F : FnP K "check_setting" (top 22) f fd) : FnOk P w K mg base (CX P w) 5 f fd ["sizes", "games"] (spV K 2 F_check_setting) := by
  refine fun_td F sc_check_setting (by decide) fun cdv A outer s H E rm => ?_
  have nd := sc_check_setting.nd
  have tk : Takes (BX P w K mg base ["sizes", "games"] "check_setting" (defScope (top 22)) f cdv A outer s H E) (fun cls d _ H => E cls d H) := takes_of rfl rfl rfl rfl
  have lt : Lets (BX P w K mg base ["sizes", "games"] "check_setting" (defScope (top 22)) f cdv A outer s H E) (fun cls d _ H => E cls d H) := lets_of tk
  exact (ds_cons (d_expr (dd_fn D_check_sizes (rm.mono (by decide)) lt (ln_cons ln_nil) (da_cons (de_var (pv 0)) da_nil)))
  (ds_one (d_expr (dd_fn D_check_games (rm.mono (by decide)) lt (ln_cons (ln_cons ln_nil)) (da_cons (dd_sum T.nm rfl (de_var (pv 0))) (da_cons (de_var (pv 1)) da_nil))))))
/-! fits_classes -/
theorem sc_fits_classes : FnScope ["sizes", "value", "few", "size"] ["sizes", "value"] (defScope (top 25)) := ⟨rfl, rfl, rfl, by decide +kernel, rfl, by decide +kernel, by decide +kernel⟩
theorem ok_fits_classes (T : Tx mg) (D_is_within : Def P w K mg base "is_within" 2 3 F_is_within)   {f : Addr} {fd : FuncData} (F : FnP K "fits_classes" (top 25) f fd) : FnOk P w K mg base (CX P w) 3 f fd ["sizes", "value"] (spV K 2 F_fits_classes) := by
  refine fun_td F sc_fits_classes (by decide) fun cdv A outer s H E rm => ?_
  have nd := sc_fits_classes.nd
  have tk : Takes (BX P w K mg base ["sizes", "value", "few", "size"] "fits_classes" (defScope (top 25)) f cdv A outer s H E) (fun cls d _ H => E cls d H) := takes_of rfl rfl rfl rfl
  have lt : Lets (BX P w K mg base ["sizes", "value", "few", "size"] "fits_classes" (defScope (top 25)) f cdv A outer s H E) (fun cls d _ H => E cls d H) := lets_of tk
  exact (ds_cons (d_if (PW.pt (dw_or (dt_not (dt_tru (dd_is T.nm (by decide) (de_var (pv 1)) T.nm.tuple PyProof.Rows.boot_tuple))) (pw_or1 (dt_cmp (op_neD rm.units) (nomark _) opd_ne (dd_lenA T.nm (de_var (pv 1))) (dd_lenA T.nm (de_var (pv 0))))))) (ds_one (d_ret de_bl)) ds_nil)
  (ds_one (d_ret (dd_all T.nm rfl (de_lc rfl nd (di_zip T.nm (da_cons (de_var (pv 1)) (da_cons (de_var (pv 0)) da_nil))) (blkOk_by (own := [("few", 2), ("size", 3)]) (N := (["sizes", "value", "few", "size"] : List Str)) (sc := defScope (top 25)) (by decide +kernel)) (fun _ _ _ _ _ => (pg_tup rfl (pgs_cons (pg_name (i := 2) nd rfl (by first | exact Or.inl rfl | exact Or.inr rfl)) (pgs_cons (pg_name (i := 3) nd rfl (by first | exact Or.inl rfl | exact Or.inr rfl)) pgs_nil)))) (tg_two (by simp) (by simp)) (by simp) (by simp) (fun _ _ _ _ _ => dts_nil) (fun _ _ _ _ _ => (dd_fn D_is_within (rm.mono (by decide)) lets0 (ln_cons (ln_cons (ln_cons ln_nil))) (da_cons (de_var (pv 2)) (da_cons de_int (da_cons (de_var (pv 3)) da_nil))))))))))
/-! is_kind_of -/
theorem sc_is_kind_of : FnScope ["sizes", "games", "value"] ["sizes", "games", "value"] (defScope (top 26)) := ⟨rfl, rfl, rfl, by decide +kernel, rfl, by decide +kernel, by decide +kernel⟩
theorem ok_is_kind_of (T : Tx mg) (D_fits_classes : Def P w K mg base "fits_classes" 3 2 F_fits_classes)   {f : Addr} {fd : FuncData} (F : FnP K "is_kind_of" (top 26) f fd) : FnOk P w K mg base (CX P w) 4 f fd ["sizes", "games", "value"] (spV K 3 F_is_kind_of) := by
  refine fun_td F sc_is_kind_of (by decide) fun cdv A outer s H E rm => ?_
  have nd := sc_is_kind_of.nd
  have tk : Takes (BX P w K mg base ["sizes", "games", "value"] "is_kind_of" (defScope (top 26)) f cdv A outer s H E) (fun cls d _ H => E cls d H) := takes_of rfl rfl rfl rfl
  have lt : Lets (BX P w K mg base ["sizes", "games", "value"] "is_kind_of" (defScope (top 26)) f cdv A outer s H E) (fun cls d _ H => E cls d H) := lets_of tk
  exact (ds_one (d_ret (de_and (dd_fn D_fits_classes (rm.mono (by decide)) lt (ln_cons (ln_cons ln_nil)) (da_cons (de_var (pv 0)) (da_cons (de_var (pv 2)) da_nil))) (pe_one (de_cmp (op_inA (hu65 rm)) (by rfl) opd_in (dd_sum T.nm rfl (de_var (pv 2))) (de_var (pv 1)))))))
/-! is_kind -/
theorem sc_is_kind : FnScope ["sizes", "games", "value"] ["sizes", "games", "value"] (defScope (top 27)) := ⟨rfl, rfl, rfl, by decide +kernel, rfl, by decide +kernel, by decide +kernel⟩
theorem ok_is_kind (T : Tx mg) (D_check_setting : Def P w K mg base "check_setting" 5 2 F_check_setting) (D_is_kind_of : Def P w K mg base "is_kind_of" 4 3 F_is_kind_of)   {f : Addr} {fd : FuncData} (F : FnP K "is_kind" (top 27) f fd) : FnOk P w K mg base (CX P w) 6 f fd ["sizes", "games", "value"] (spV K 3 F_is_kind) := by
  refine fun_td F sc_is_kind (by decide) fun cdv A outer s H E rm => ?_
  have nd := sc_is_kind.nd
  have tk : Takes (BX P w K mg base ["sizes", "games", "value"] "is_kind" (defScope (top 27)) f cdv A outer s H E) (fun cls d _ H => E cls d H) := takes_of rfl rfl rfl rfl
  have lt : Lets (BX P w K mg base ["sizes", "games", "value"] "is_kind" (defScope (top 27)) f cdv A outer s H E) (fun cls d _ H => E cls d H) := lets_of tk
  exact (ds_cons (d_expr (dd_fn D_check_setting (rm.mono (by decide)) lt (ln_cons (ln_cons ln_nil)) (da_cons (de_var (pv 0)) (da_cons (de_var (pv 1)) da_nil))))
  (ds_one (d_ret (dd_fn D_is_kind_of (rm.mono (by decide)) lt (ln_cons (ln_cons (ln_cons ln_nil))) (da_cons (de_var (pv 0)) (da_cons (de_var (pv 1)) (da_cons (de_var (pv 2)) da_nil)))))))
/-! all_kinds -/
theorem sc_all_kinds : FnScope ["sizes", "games", "most", "kinds", "size", "kind", "few"] ["sizes", "games"] (defScope (top 24)) := ⟨rfl, rfl, rfl, by decide +kernel, rfl, by decide +kernel, by decide +kernel⟩
theorem lst_all_kinds (ds : List T) (d : T) (h : F_all_kinds ds = .ok d) : ∃ l, d = TD.T.list l := lst_sort h
theorem ok_all_kinds (T : Tx mg) (D_check_setting : Def P w K mg base "check_setting" 5 2 F_check_setting)   {f : Addr} {fd : FuncData} (L : LamIn fd base mg "all_kinds.<locals>.") (F : FnP K "all_kinds" (top 24) f fd) : FnOk P w K mg base (CX P w) 6 f fd ["sizes", "games"] (spO K 2 F_all_kinds) := by
  refine fun_toC F sc_all_kinds (by decide) fun A outer s H E rm => ?_
  have nd := sc_all_kinds.nd
  have tk : Takes (BX P w K mg base ["sizes", "games", "most", "kinds", "size", "kind", "few"] "all_kinds" (defScope (top 24)) f fd.code A outer s H E) (fun cls d _ H => E cls d H) := takes_of rfl rfl rfl rfl
  have lt : Lets (BX P w K mg base ["sizes", "games", "most", "kinds", "size", "kind", "few"] "all_kinds" (defScope (top 24)) f fd.code A outer s H E) (fun cls d _ H => E cls d H) := lets_of tk
  exact (ds_consF (d_expr (dd_fn D_check_setting (rm.mono (by decide)) lt (ln_cons (ln_cons ln_nil)) (da_cons (de_var (pv 0)) (da_cons (de_var (pv 1)) da_nil))))
  (ds_consF (d_set (i := 2) nd rfl (by first | exact Or.inl rfl | exact Or.inr rfl) (by simp) (dd_max1 T.nm rfl (de_var (pv 1))))
  (ds_consF (d_set (i := 3) nd rfl (by first | exact Or.inl rfl | exact Or.inr rfl) (by simp) (de_lst (da_cons (de_tup da_nil fun h => pe_tup h) da_nil) fun h => pe_lst h))
  (ds_consF (d_for (passes_of rfl) rfl (di_seqK (de_var (pv 0))) (pg_name (i := 4) nd rfl (by first | exact Or.inl rfl | exact Or.inr rfl)) (tg_name (by simp)) (ds_one (d_setLc2 (i := 3) rfl nd rfl rfl (by simp) (sw_true rfl rfl rfl (by decide +kernel)) (di_seqK (de_var (pv 3))) (blkOk_by (own := [("kind", 5), ("few", 6)]) (N := (["sizes", "games", "most", "kinds", "size", "kind", "few"] : List Str)) (sc := defScope (top 24)) (by decide +kernel)) (by simp) (fun _ _ _ _ _ => (pg_name (i := 5) nd rfl (by first | exact Or.inl rfl | exact Or.inr rfl))) (tg_name (by simp)) (by simp) (by simp) (fun _ _ _ _ _ => dts_nil) (fun _ _ _ _ _ => (di_range1 rfl T.nm.range (da_cons (de_op op_addT opd_add (dd_min T.nm rfl (de_var (pv 4)) (de_op op_sub opd_sub (de_var (pv 2)) (dd_sum T.nm rfl (de_var (pv 5))))) de_int) da_nil))) (fun _ _ _ _ _ => (pg_name (i := 6) nd rfl (by first | exact Or.inl rfl | exact Or.inr rfl))) (tg_name (by simp)) (by simp) (fun _ _ _ _ _ => dts_nil) (fun _ _ _ _ _ => (de_op op_addT opd_add (de_var (pv 5)) (de_tup (da_cons (de_var (pv 6)) da_nil) fun h => pe_tup h))))))
  (ds_oneF (df_sortLam L rfl turn_sum rm rfl T.nm.sorted T.nm.sum PyProof.Rows.boot_sum (by decide) (de_lc rfl nd (di_seqK (de_var (pv 3))) (blkOk_by (own := [("kind", 5)]) (N := (["sizes", "games", "most", "kinds", "size", "kind", "few"] : List Str)) (sc := defScope (top 24)) (by decide +kernel)) (fun _ _ _ _ _ => (pg_name (i := 5) nd rfl (by first | exact Or.inl rfl | exact Or.inr rfl))) (tg_name (by simp)) (by simp) (by simp) (fun _ _ _ _ _ => dts_one (dt_cmp (op_inA (hu65 rm)) (by rfl) opd_in (dd_sum T.nm rfl (de_var (pv 5))) (de_var (pv 1)))) (fun _ _ _ _ _ => (de_var (pv 5)))) rfl rfl rfl rfl rfl (by decide +kernel) rfl rfl (fun _ _ _ _ _ => rfl) rfl rfl))))))
/-! due_of -/
theorem sc_due_of : FnScope ["sizes", "games", "kind", "due", "size", "few"] ["sizes", "games", "kind"] (defScope (top 28)) := ⟨rfl, rfl, rfl, by decide +kernel, rfl, by decide +kernel, by decide +kernel⟩
theorem ok_due_of (T : Tx mg) (D_check_setting : Def P w K mg base "check_setting" 5 2 F_check_setting) (D_is_kind_of : Def P w K mg base "is_kind_of" 4 3 F_is_kind_of) (D_choices : Def P w K mg base "choices" 1 2 F_choices) (X_BadKind : Kl P w K mg base "BadKind" ["value"])  {f : Addr} {fd : FuncData} (F : FnP K "due_of" (top 28) f fd) : FnOk P w K mg base (CX P w) 6 f fd ["sizes", "games", "kind"] (spV K 3 F_due_of) := by
  refine fun_td F sc_due_of (by decide) fun cdv A outer s H E rm => ?_
  have nd := sc_due_of.nd
  have tk : Takes (BX P w K mg base ["sizes", "games", "kind", "due", "size", "few"] "due_of" (defScope (top 28)) f cdv A outer s H E) (fun cls d _ H => E cls d H) := takes_of rfl rfl rfl rfl
  have lt : Lets (BX P w K mg base ["sizes", "games", "kind", "due", "size", "few"] "due_of" (defScope (top 28)) f cdv A outer s H E) (fun cls d _ H => E cls d H) := lets_of tk
  exact (ds_cons (d_expr (dd_fn D_check_setting (rm.mono (by decide)) lt (ln_cons (ln_cons ln_nil)) (da_cons (de_var (pv 0)) (da_cons (de_var (pv 1)) da_nil))))
  (ds_cons (d_if (dt_not (dt_tru (dd_fn D_is_kind_of (rm.mono (by decide)) lt (ln_cons (ln_cons (ln_cons ln_nil))) (da_cons (de_var (pv 0)) (da_cons (de_var (pv 1)) (da_cons (de_var (pv 2)) da_nil)))))) (ds_one (d_raise rfl tk X_BadKind (rm.mono (by decide)) (da_cons (de_var (pv 2)) da_nil) (by decide))) ds_nil)
  (ds_cons (d_set (i := 3) nd rfl (by first | exact Or.inl rfl | exact Or.inr rfl) (by simp) (de_ix (ix_all (hu1 rm)) opd_it (de_var (pv 1)) (dd_sum T.nm rfl (de_var (pv 2))) (fun _ _ => rfl)))
  (ds_cons (d_for (passes_of rfl) rfl (di_zip T.nm (da_cons (de_var (pv 0)) (da_cons (de_var (pv 2)) da_nil))) (pg_tup rfl (pgs_cons (pg_name (i := 4) nd rfl (by first | exact Or.inl rfl | exact Or.inr rfl)) (pgs_cons (pg_name (i := 5) nd rfl (by first | exact Or.inl rfl | exact Or.inr rfl)) pgs_nil))) (tg_two (by simp) (by simp)) (ds_one (d_set (i := 3) nd rfl (by first | exact Or.inl rfl | exact Or.inr rfl) (by simp) (de_op op_mulT opd_mul (de_var (pv 3)) (dd_fn D_choices (rm.mono (by decide)) lt (ln_cons (ln_cons ln_nil)) (da_cons (de_var (pv 4)) (da_cons (de_var (pv 5)) da_nil)))))))
  (ds_one (d_ret (de_var (pv 3))))))))
/-! team_count -/
theorem sc_team_count : FnScope ["sizes", "games"] ["sizes", "games"] (defScope (top 23)) := ⟨rfl, rfl, rfl, by decide +kernel, rfl, by decide +kernel, by decide +kernel⟩
theorem ok_team_count (T : Tx mg) (D_check_setting : Def P w K mg base "check_setting" 5 2 F_check_setting) (D_total_of : Def P w K mg base "total_of" 2 2 F_total_of)   {f : Addr} {fd : FuncData} (F : FnP K "team_count" (top 23) f fd) : FnOk P w K mg base (CX P w) 6 f fd ["sizes", "games"] (spV K 2 F_team_count) := by
  refine fun_td F sc_team_count (by decide) fun cdv A outer s H E rm => ?_
  have nd := sc_team_count.nd
  have tk : Takes (BX P w K mg base ["sizes", "games"] "team_count" (defScope (top 23)) f cdv A outer s H E) (fun cls d _ H => E cls d H) := takes_of rfl rfl rfl rfl
  have lt : Lets (BX P w K mg base ["sizes", "games"] "team_count" (defScope (top 23)) f cdv A outer s H E) (fun cls d _ H => E cls d H) := lets_of tk
  exact (ds_cons (d_expr (dd_fn D_check_setting (rm.mono (by decide)) lt (ln_cons (ln_cons ln_nil)) (da_cons (de_var (pv 0)) (da_cons (de_var (pv 1)) da_nil))))
  (ds_one (d_ret (dd_fn D_total_of (rm.mono (by decide)) lt (ln_cons (ln_cons ln_nil)) (da_cons (dd_sum T.nm rfl (de_var (pv 0))) (da_cons (de_var (pv 1)) da_nil))))))
/-! _law_due_told -/
theorem sc__law_due_told : FnScope ["_law_sizes", "_law_games", "_law_value", "e"] ["_law_sizes", "_law_games", "_law_value"] (defScope (top 40)) := ⟨rfl, rfl, rfl, by decide +kernel, rfl, by decide +kernel, by decide +kernel⟩
theorem ok__law_due_told (T : Tx mg) (D_due_of : Def P w K mg base "due_of" 6 3 F_due_of) (X_BadKind : Kl P w K mg base "BadKind" ["value"]) (eX_BadKind : PySem.W.exmOne K (.ref (He.ga K "BadKind")) (.ref (He.ga K "BadKind")) = some true) {f : Addr} {fd : FuncData} (F : FnP K "_law_due_told" (top 40) f fd) : FnOk P w K mg base (CX P w) 7 f fd ["_law_sizes", "_law_games", "_law_value"] (spV K 3 F__law_due_told) := by
  refine fun_td F sc__law_due_told (by decide) fun cdv A outer s H E rm => ?_
  have nd := sc__law_due_told.nd
  have tk : Takes (BX P w K mg base ["_law_sizes", "_law_games", "_law_value", "e"] "_law_due_told" (defScope (top 40)) f cdv A outer s H E) (fun cls d _ H => E cls d H) := takes_of rfl rfl rfl rfl
  have lt : Lets (BX P w K mg base ["_law_sizes", "_law_games", "_law_value", "e"] "_law_due_told" (defScope (top 40)) f cdv A outer s H E) (fun cls d _ H => E cls d H) := lets_of tk
  exact (ds_one (d_tryEq (i := 3) (j := 2) rfl rfl nd rfl rfl rfl (by decide) X_BadKind (by simp) tk (by exact eX_BadKind) (by decide) rm.units (fun W pn xe tk pp => have lt := lets_of tk; (ds_one (d_ret (dd_fn D_due_of (rm.mono (by decide)) lt (ln_cons (ln_cons (ln_cons ln_nil))) (da_cons (de_var (pv 0)) (da_cons (de_var (pv 1)) (da_cons (de_var (pv 2)) da_nil))))))) (fun _ _ => pv 3) (fun _ _ => pv 2)))
/-! law -/
theorem sc_law : FnScope ["_law_script", "_law_source_here", "_law_rows", "_law_many", "_law_row", "_law_k", "_law_few", "_law_cell_here", "_law_sizes", "_law_games", "_law_kinds_here", "_law_kind", "_law_dues", "_law_whole", "_law_team", "_law_value", "_law_right", "_law_told"] ["_law_script"] (defScope (top 41)) := ⟨rfl, rfl, rfl, by decide +kernel, rfl, by decide +kernel, by decide +kernel⟩
theorem ok_law (T : Tx mg) (D__law_source : DefS P w K mg base "_law_source" 1) (D__law_draw : DefQ P w K mg base "_law_draw" 1 1 F__law_draw) (D__law_cell : Def P w K mg base "_law_cell" 1 2 F__law_cell) (D__law_setting : DefQ P w K mg base "_law_setting" 2 0 F__law_setting) (D__law_kinds : Def P w K mg base "_law_kinds" 2 2 F__law_kinds) (D_choices : Def P w K mg base "choices" 1 2 F_choices) (D__law_due : Def P w K mg base "_law_due" 2 3 F__law_due) (D__law_odd : DefQ P w K mg base "_law_odd" 2 2 F__law_odd) (D__law_is_right : Def P w K mg base "_law_is_right" 1 2 F__law_is_right) (D_is_kind : Def P w K mg base "is_kind" 6 3 F_is_kind) (D_all_kinds : DefO P w K mg base "all_kinds" 6 2 F_all_kinds) (L_all_kinds : ∀ ds d, F_all_kinds ds = .ok d → ∃ l, d = TD.T.list l) (D_due_of : Def P w K mg base "due_of" 6 3 F_due_of) (D_team_count : Def P w K mg base "team_count" 6 2 F_team_count) (D__law_choose : Def P w K mg base "_law_choose" 1 2 F__law_choose) (D__law_due_told : Def P w K mg base "_law_due_told" 7 3 F__law_due_told)   {f : Addr} {fd : FuncData} (F : FnP K "law" (top 41) f fd) : FnOk P w K mg base (CX P w) 8 f fd ["_law_script"] (spV K 1 F_law) := by
  refine fun_td F sc_law (by decide) fun cdv A outer s H E rm => ?_
  have nd := sc_law.nd
  have tk : Takes (BX P w K mg base ["_law_script", "_law_source_here", "_law_rows", "_law_many", "_law_row", "_law_k", "_law_few", "_law_cell_here", "_law_sizes", "_law_games", "_law_kinds_here", "_law_kind", "_law_dues", "_law_whole", "_law_team", "_law_value", "_law_right", "_law_told"] "law" (defScope (top 41)) f cdv A outer s H E) (fun cls d _ H => E cls d H) := takes_of rfl rfl rfl rfl
  have lt : Lets (BX P w K mg base ["_law_script", "_law_source_here", "_law_rows", "_law_many", "_law_row", "_law_k", "_law_few", "_law_cell_here", "_law_sizes", "_law_games", "_law_kinds_here", "_law_kind", "_law_dues", "_law_whole", "_law_team", "_law_value", "_law_right", "_law_told"] "law" (defScope (top 41)) f cdv A outer s H E) (fun cls d _ H => E cls d H) := lets_of tk
  exact (ds_cons (d_own (i := 1) nd rfl (by first | exact Or.inl rfl | exact Or.inr rfl) (by simp) (df_src D__law_source (rm.mono (by decide)) lt (dd_fn D__law_cell (rm.mono (by decide)) lt (ln_cons (ln_cons ln_nil)) (da_cons (de_var (pv 0)) (da_cons de_int da_nil)))))
  (ds_cons (d_own (i := 2) nd rfl (by first | exact Or.inl rfl | exact Or.inr rfl) (by simp) (df_lst (da_cons (de_lst (da_cons de_int da_nil) fun h => pe_lst h) da_nil) fun h => pe_lst h))
  (ds_cons (d_for (passes_of rfl) rfl (di_range2 rfl T.nm.range (da_cons de_int (da_cons de_int da_nil))) (pg_name (i := 3) nd rfl (by first | exact Or.inl rfl | exact Or.inr rfl)) (tg_name (by simp)) (ds_cons (d_set (i := 4) nd rfl (by first | exact Or.inl rfl | exact Or.inr rfl) (by simp) (de_ixO (pv 2) (de_un un_neg opd_neg de_int) (fun _ _ => rfl)))
  (ds_one (d_app (pv 2) (de_op op_addT opd_add (de_op op_addT opd_add (de_lst (da_cons de_int da_nil) fun h => pe_lst h) (de_lc rfl nd (di_range1 rfl T.nm.range (da_cons (de_op op_sub opd_sub (de_var (pv 3)) de_int) da_nil)) (blkOk_by (own := [("_law_k", 5)]) (N := (["_law_script", "_law_source_here", "_law_rows", "_law_many", "_law_row", "_law_k", "_law_few", "_law_cell_here", "_law_sizes", "_law_games", "_law_kinds_here", "_law_kind", "_law_dues", "_law_whole", "_law_team", "_law_value", "_law_right", "_law_told"] : List Str)) (sc := defScope (top 41)) (by decide +kernel)) (fun _ _ _ _ _ => (pg_name (i := 5) nd rfl (by first | exact Or.inl rfl | exact Or.inr rfl))) (tg_name (by simp)) (by simp) (by simp) (fun _ _ _ _ _ => dts_nil) (fun _ _ _ _ _ => (de_op op_addT opd_add (de_ix (ix_all (hu1 rm)) opd_it (de_var (pv 4)) (de_var (pv 5)) (fun _ _ => rfl)) (de_ix (ix_all (hu1 rm)) opd_it (de_var (pv 4)) (de_op op_addT opd_add (de_var (pv 5)) de_int) (fun _ _ => rfl)))))) (de_lst (da_cons de_int da_nil) fun h => pe_lst h))))))
  (ds_cons (d_set (i := 3) nd rfl (by first | exact Or.inl rfl | exact Or.inr rfl) (by simp) (dd_fnQ D__law_draw (rm.mono (by decide)) lt (ln_cons ln_nil) (pv 1) (da_cons de_int da_nil)))
  (ds_cons (d_if (PW.pt (dw_or (dt_cmp (op_neD rm.units) (nomark _) opd_ne (de_lc rfl nd (di_range1 rfl T.nm.range (da_cons (de_op op_addT opd_add (de_var (pv 3)) de_int) da_nil)) (blkOk_by (own := [("_law_few", 6)]) (N := (["_law_script", "_law_source_here", "_law_rows", "_law_many", "_law_row", "_law_k", "_law_few", "_law_cell_here", "_law_sizes", "_law_games", "_law_kinds_here", "_law_kind", "_law_dues", "_law_whole", "_law_team", "_law_value", "_law_right", "_law_told"] : List Str)) (sc := defScope (top 41)) (by decide +kernel)) (fun _ _ _ _ _ => (pg_name (i := 6) nd rfl (by first | exact Or.inl rfl | exact Or.inr rfl))) (tg_name (by simp)) (by simp) (by simp) (fun _ _ _ _ _ => dts_nil) (fun _ _ _ _ _ => (dd_fn D_choices (rm.mono (by decide)) lets0 (ln_cons (ln_cons ln_nil)) (da_cons (de_var (pv 3)) (da_cons (de_var (pv 6)) da_nil))))) (de_ixO (pv 2) (de_var (pv 3)) (fun _ _ => rfl))) (pw_or1 (dt_cmp (op_neD rm.units) (nomark _) opd_ne (dd_fn D_choices (rm.mono (by decide)) lt (ln_cons (ln_cons ln_nil)) (da_cons (dd_min T.nm rfl (de_var (pv 3)) de_int) (da_cons de_int da_nil))) de_int)))) (ds_one (d_ret de_bl)) ds_nil)
  (ds_cons (d_for (passes_of rfl) rfl (di_seqK (de_sli (de_var (pv 0)) do_none (do_some de_int))) (pg_name (i := 7) nd rfl (by first | exact Or.inl rfl | exact Or.inr rfl)) (tg_name (by simp)) (ds_cons (d_own (i := 1) nd rfl (by first | exact Or.inl rfl | exact Or.inr rfl) (by simp) (df_src D__law_source (rm.mono (by decide)) lt (de_var (pv 7))))
  (ds_cons (d_unp (dd_fnQ D__law_setting (rm.mono (by decide)) lt ln_nil (pv 1) da_nil) (pg_tup rfl (pgs_cons (pg_name (i := 8) nd rfl (by first | exact Or.inl rfl | exact Or.inr rfl)) (pgs_cons (pg_name (i := 9) nd rfl (by first | exact Or.inl rfl | exact Or.inr rfl)) pgs_nil))) (tg_two (by simp) (by simp)))
  (ds_cons (d_set (i := 10) nd rfl (by first | exact Or.inl rfl | exact Or.inr rfl) (by simp) (dd_fn D__law_kinds (rm.mono (by decide)) lt (ln_cons (ln_cons ln_nil)) (da_cons (de_var (pv 8)) (da_cons (de_var (pv 9)) da_nil))))
  (ds_cons (d_clear (df_fn D_all_kinds (rm.mono (by decide)) lt (ln_cons (ln_cons ln_nil)) (da_cons (de_var (pv 8)) (da_cons (de_var (pv 9)) da_nil))) (listF L_all_kinds))
  (ds_cons (d_if (PW.pt (dw_or (dt_cmp (op_neD rm.units) (nomark _) opd_ne (d_valL (df_fn D_all_kinds (rm.mono (by decide)) lt (ln_cons (ln_cons ln_nil)) (da_cons (de_var (pv 8)) (da_cons (de_var (pv 9)) da_nil))) (listF L_all_kinds)) (de_var (pv 10))) (pw_or1 (dt_cmp (op_neD rm.units) (nomark _) opd_ne (d_valL (df_fn D_all_kinds (rm.mono (by decide)) lt (ln_cons (ln_cons ln_nil)) (da_cons (dd_tuple T.nm (de_var (pv 8))) (da_cons (d_val (df_dictOf T.nm (de_var (pv 9))) fun _ _ _ h => dict_of h) da_nil))) (listF L_all_kinds)) (de_var (pv 10)))))) (ds_one (d_ret de_bl)) ds_nil)
  (ds_cons (d_if (dt_cmp (op_neD rm.units) (nomark _) opd_ne (de_lc rfl nd (di_seqK (de_var (pv 10))) (blkOk_by (own := [("_law_kind", 11)]) (N := (["_law_script", "_law_source_here", "_law_rows", "_law_many", "_law_row", "_law_k", "_law_few", "_law_cell_here", "_law_sizes", "_law_games", "_law_kinds_here", "_law_kind", "_law_dues", "_law_whole", "_law_team", "_law_value", "_law_right", "_law_told"] : List Str)) (sc := defScope (top 41)) (by decide +kernel)) (fun _ _ _ _ _ => (pg_name (i := 11) nd rfl (by first | exact Or.inl rfl | exact Or.inr rfl))) (tg_name (by simp)) (by simp) (by simp) (fun _ _ _ _ _ => dts_nil) (fun _ _ _ _ _ => (dd_fn D_is_kind (rm.mono (by decide)) lets0 (ln_cons (ln_cons (ln_cons ln_nil))) (da_cons (dd_tuple T.nm (de_var (pv 8))) (da_cons (de_var (pv 9)) (da_cons (de_var (pv 11)) da_nil)))))) (de_op op_mulT opd_mul (de_lst (da_cons de_bl da_nil) fun h => pe_lst h) (dd_lenA T.nm (de_var (pv 10))))) (ds_one (d_ret de_bl)) ds_nil)
  (ds_cons (d_setLc (i := 12) rfl nd rfl rfl (by simp) (sw_true rfl rfl rfl (by decide +kernel)) (di_seqK (de_var (pv 10))) (blkOk_by (own := [("_law_kind", 11)]) (N := (["_law_script", "_law_source_here", "_law_rows", "_law_many", "_law_row", "_law_k", "_law_few", "_law_cell_here", "_law_sizes", "_law_games", "_law_kinds_here", "_law_kind", "_law_dues", "_law_whole", "_law_team", "_law_value", "_law_right", "_law_told"] : List Str)) (sc := defScope (top 41)) (by decide +kernel)) (fun _ _ _ _ _ => (pg_name (i := 11) nd rfl (by first | exact Or.inl rfl | exact Or.inr rfl))) (tg_name (by simp)) (by simp) (by simp) (fun _ _ _ _ _ => dts_nil) (fun _ _ _ _ _ => (dd_fn D__law_due (rm.mono (by decide)) lets0 (ln_cons (ln_cons (ln_cons ln_nil))) (da_cons (de_var (pv 8)) (da_cons (de_var (pv 9)) (da_cons (de_var (pv 11)) da_nil))))))
  (ds_cons (d_if (dt_cmp (op_neD rm.units) (nomark _) opd_ne (de_lc rfl nd (di_seqK (de_var (pv 10))) (blkOk_by (own := [("_law_kind", 11)]) (N := (["_law_script", "_law_source_here", "_law_rows", "_law_many", "_law_row", "_law_k", "_law_few", "_law_cell_here", "_law_sizes", "_law_games", "_law_kinds_here", "_law_kind", "_law_dues", "_law_whole", "_law_team", "_law_value", "_law_right", "_law_told"] : List Str)) (sc := defScope (top 41)) (by decide +kernel)) (fun _ _ _ _ _ => (pg_name (i := 11) nd rfl (by first | exact Or.inl rfl | exact Or.inr rfl))) (tg_name (by simp)) (by simp) (by simp) (fun _ _ _ _ _ => dts_nil) (fun _ _ _ _ _ => (dd_fn D_due_of (rm.mono (by decide)) lets0 (ln_cons (ln_cons (ln_cons ln_nil))) (da_cons (dd_tuple T.nm (de_var (pv 8))) (da_cons (de_var (pv 9)) (da_cons (de_var (pv 11)) da_nil)))))) (de_var (pv 12))) (ds_one (d_ret de_bl)) ds_nil)
  (ds_cons (d_set (i := 13) nd rfl (by first | exact Or.inl rfl | exact Or.inr rfl) (by simp) (dd_sum T.nm rfl (de_lc rfl nd (di_seqK (de_var (pv 9))) (blkOk_by (own := [("_law_team", 14)]) (N := (["_law_script", "_law_source_here", "_law_rows", "_law_many", "_law_row", "_law_k", "_law_few", "_law_cell_here", "_law_sizes", "_law_games", "_law_kinds_here", "_law_kind", "_law_dues", "_law_whole", "_law_team", "_law_value", "_law_right", "_law_told"] : List Str)) (sc := defScope (top 41)) (by decide +kernel)) (fun _ _ _ _ _ => (pg_name (i := 14) nd rfl (by first | exact Or.inl rfl | exact Or.inr rfl))) (tg_name (by simp)) (by simp) (by simp) (fun _ _ _ _ _ => dts_nil) (fun _ _ _ _ _ => (de_op op_mulT opd_mul (de_ix (ix_all (hu1 rm)) opd_it (de_var (pv 9)) (de_var (pv 14)) (fun _ _ => rfl)) (dd_fn D__law_choose (rm.mono (by decide)) lets0 (ln_cons (ln_cons ln_nil)) (da_cons (dd_sum T.nm rfl (de_var (pv 8))) (da_cons (de_var (pv 14)) da_nil))))))))
  (ds_cons (d_if (PW.pt (dw_or (dt_cmp (op_neD rm.units) (nomark _) opd_ne (dd_fn D_team_count (rm.mono (by decide)) lt (ln_cons (ln_cons ln_nil)) (da_cons (de_var (pv 8)) (da_cons (de_var (pv 9)) da_nil))) (de_var (pv 13))) (pw_or1 (dt_cmp (op_neD rm.units) (nomark _) opd_ne (dd_sum T.nm rfl (de_var (pv 12))) (de_var (pv 13)))))) (ds_one (d_ret de_bl)) ds_nil)
  (ds_one (d_for (passes_of rfl) rfl (di_range1 rfl T.nm.range (da_cons de_int da_nil)) (pg_name (i := 5) nd rfl (by first | exact Or.inl rfl | exact Or.inr rfl)) (tg_name (by simp)) (ds_cons (d_set (i := 15) nd rfl (by first | exact Or.inl rfl | exact Or.inr rfl) (by simp) (dd_fnQ D__law_odd (rm.mono (by decide)) lt (ln_cons (ln_cons ln_nil)) (pv 1) (da_cons (de_var (pv 10)) (da_cons (de_var (pv 8)) da_nil))))
  (ds_cons (d_set (i := 16) nd rfl (by first | exact Or.inl rfl | exact Or.inr rfl) (by simp) (dd_fn D__law_is_right (rm.mono (by decide)) lt (ln_cons (ln_cons ln_nil)) (da_cons (de_var (pv 10)) (da_cons (de_var (pv 15)) da_nil))))
  (ds_cons (d_set (i := 17) nd rfl (by first | exact Or.inl rfl | exact Or.inr rfl) (by simp) (dd_fn D_is_kind (rm.mono (by decide)) lt (ln_cons (ln_cons (ln_cons ln_nil))) (da_cons (de_var (pv 8)) (da_cons (de_var (pv 9)) (da_cons (de_var (pv 15)) da_nil)))))
  (ds_cons (d_if (PW.pt (dw_or (dt_not (dt_tru (dd_is T.nm (by decide) (de_var (pv 17)) T.nm.bool PyProof.Rows.boot_bool))) (pw_or1 (dt_cmp (op_neD rm.units) (nomark _) opd_ne (de_var (pv 17)) (de_var (pv 16)))))) (ds_one (d_ret de_bl)) ds_nil)
  (ds_one (d_if (PW.pt (dw_and (dt_not (dt_tru (de_var (pv 16)))) (pw_and1 (dt_cmp (op_neD rm.units) (nomark _) opd_ne (dd_fn D__law_due_told (rm.mono (by decide)) lt (ln_cons (ln_cons (ln_cons ln_nil))) (da_cons (de_var (pv 8)) (da_cons (de_var (pv 9)) (da_cons (de_var (pv 15)) da_nil)))) (de_tup (da_cons de_str (da_cons de_bl da_nil)) fun h => pe_tup h))))) (ds_one (d_ret de_bl)) ds_nil)))))))))))))))))))
  (ds_one (d_ret de_bl))))))))
end
end K01

end
section
namespace K01
open PySem PySem.Spec PyProof.Rows L2 Evl TD Mi
def fa : List He.Fa := [.free "len", .free "sum", .free "all", .free "any", .free "int", .free "list", .free "tuple", .free "dict", .free "min", .free "max", .free "range", .free "zip", .free "isinstance", .free "sorted", .free "bool", .free "str", .int "MOST_TEAMS" 130, .int "MOST_PEOPLE" 10, .int "MOST_IN_TEAM" 4, .int "MOST_TIMES" 3, .int "MOST_GAMES" 2, .glo "_law_source", .glo "_law_draw", .glo "_law_cell", .glo "_law_choose", .glo "_law_setting", .glo "_law_tuples", .glo "_law_kinds", .glo "choices", .glo "_law_due", .glo "_law_odd", .glo "_law_is_right", .glo "is_list", .glo "is_integer", .glo "is_within", .glo "are_sizes", .glo "check_sizes", .glo "total_of", .glo "are_games", .glo "check_games", .glo "check_setting", .glo "fits_classes", .glo "is_kind_of", .glo "is_kind", .glo "all_kinds", .glo "due_of", .glo "team_count", .glo "_law_due_told", .glo "law", .glo "BadSizes", .glo "BadGames", .glo "TooMany", .glo "BadKind"]
def dF (x : Str) (i : Nat) : He.DefD := ⟨(x, none), x, x, defArgs (top i), defBody (top i), defScope (top i), [], []⟩
def inClass (st : Stmt) (j : Nat) : Stmt := match st with | .ClassDef _ _ _ body _ _ _ _ _ _ _ => body.getD j (.Pass ⟨0, 0, 0, 0⟩) | s => s
def dI (x q : Str) (i j : Nat) : He.DefD := ⟨(x, some "__init__"), "__init__", q, defArgs (inClass (top i) j), defBody (inClass (top i) j), defScope (inClass (top i) j), [], []⟩
def fn : List He.DefD := [dF "_law_source" 31, dF "_law_draw" 32, dF "_law_cell" 30, dF "_law_choose" 33, dF "_law_setting" 37, dF "_law_tuples" 34, dF "_law_kinds" 35, dF "choices" 16, dF "_law_due" 36, dF "_law_odd" 38, dF "_law_is_right" 39, dF "is_list" 3, dF "is_integer" 1, dF "is_within" 2, dF "are_sizes" 17, dF "check_sizes" 20, dF "total_of" 19, dF "are_games" 18, dF "check_games" 21, dF "check_setting" 22, dF "fits_classes" 25, dF "is_kind_of" 26, dF "is_kind" 27, dF "all_kinds" 24, dF "due_of" 28, dF "team_count" 23, dF "_law_due_told" 40, dF "law" 41, dI "BadSizes" "BadSizes.__init__" 6 0, dI "BadGames" "BadGames.__init__" 7 0, dI "TooMany" "TooMany.__init__" 8 0, dI "BadKind" "BadKind.__init__" 9 0]
def tf : List He.Defn := [("all_kinds", none)]
def ex (K : PySem.W.Frag) : Bool := clsB K "BadSizes" ["value"] && clsB K "BadGames" ["value"] && clsB K "TooMany" ["count"] && clsB K "BadKind" ["value"]
abbrev R : PySem.W.OpenRow := PySem.W.OpenLaw.row PySem.Challenge.rw_allteams_k01_choices_kinds_and_dues
abbrev hk : PySem.W.Hook := hookL 280 fa fn tf ex
def ob (s : PySem.W.SharedT) : He.AlD × Bool := obsL 280 fa fn tf ex (HandSHeadRun.getT s)
theorem ob_eq (s : PySem.W.SharedT) : ob s = hk.obs s.abs := obsL_eq (HandSHeadRun.getT_eq s)
def loose : List Str := ([("is_integer" : Str), ("is_within" : Str), ("is_list" : Str), ("TeamError" : Str), ("BadSizes" : Str), ("BadGames" : Str), ("TooMany" : Str), ("BadKind" : Str), ("MOST_TEAMS" : Str), ("MOST_PEOPLE" : Str), ("MOST_IN_TEAM" : Str), ("MOST_TIMES" : Str), ("MOST_GAMES" : Str), ("choices" : Str), ("are_sizes" : Str), ("are_games" : Str), ("total_of" : Str), ("check_sizes" : Str), ("check_games" : Str), ("check_setting" : Str), ("team_count" : Str), ("all_kinds" : Str), ("fits_classes" : Str), ("is_kind_of" : Str), ("is_kind" : Str), ("due_of" : Str), ("_law_cell" : Str), ("_law_source" : Str), ("_law_draw" : Str), ("_law_choose" : Str), ("_law_tuples" : Str), ("_law_kinds" : Str), ("_law_due" : Str), ("_law_setting" : Str), ("_law_odd" : Str), ("_law_is_right" : Str), ("_law_due_told" : Str)] : List Str)
theorem sc_BadSizes : FnScope (["self", "value"] : List Str) (["self", "value"] : List Str) (defScope (inClass (top 6) 0)) := ⟨rfl, rfl, rfl, by decide +kernel, rfl, by decide +kernel, by decide +kernel⟩
theorem ini_BadSizes [HasT] {P : Program} {w : World} {K : PySem.W.Frag} {mg : Str → Option Value} {base : Heap} {f C : Addr} {fd : FuncData} (F : FunD K "__init__" "BadSizes.__init__" (defArgs (inClass (top 6) 0)) (defBody (inClass (top 6) 0)) (defScope (inClass (top 6) 0)) [] [] f fd) (O : OexC K C) (n0 : PySem.W.findIn K (.ref C) "value" = some none) : FnOk P w K mg base CX0 1 f fd (["self", "value"] : List Str) (spInit C ["value"]) := by
  refine F.ok sc_BadSizes (fun vs H Q E h => ?_) (fun cdv A outer st H vs Q E hr h => ?_)
  · obtain ⟨a, ws, rfl, hl, _⟩ := h
    exact congrArg Nat.succ hl
  · exact ⟨_, PSs.nox (pss_one (ps_ost (pv 0) (pv 1))), init1 O n0 h rfl⟩
theorem sc_BadGames : FnScope (["self", "value"] : List Str) (["self", "value"] : List Str) (defScope (inClass (top 7) 0)) := ⟨rfl, rfl, rfl, by decide +kernel, rfl, by decide +kernel, by decide +kernel⟩
theorem ini_BadGames [HasT] {P : Program} {w : World} {K : PySem.W.Frag} {mg : Str → Option Value} {base : Heap} {f C : Addr} {fd : FuncData} (F : FunD K "__init__" "BadGames.__init__" (defArgs (inClass (top 7) 0)) (defBody (inClass (top 7) 0)) (defScope (inClass (top 7) 0)) [] [] f fd) (O : OexC K C) (n0 : PySem.W.findIn K (.ref C) "value" = some none) : FnOk P w K mg base CX0 1 f fd (["self", "value"] : List Str) (spInit C ["value"]) := by
  refine F.ok sc_BadGames (fun vs H Q E h => ?_) (fun cdv A outer st H vs Q E hr h => ?_)
  · obtain ⟨a, ws, rfl, hl, _⟩ := h
    exact congrArg Nat.succ hl
  · exact ⟨_, PSs.nox (pss_one (ps_ost (pv 0) (pv 1))), init1 O n0 h rfl⟩
theorem sc_TooMany : FnScope (["self", "count"] : List Str) (["self", "count"] : List Str) (defScope (inClass (top 8) 0)) := ⟨rfl, rfl, rfl, by decide +kernel, rfl, by decide +kernel, by decide +kernel⟩
theorem ini_TooMany [HasT] {P : Program} {w : World} {K : PySem.W.Frag} {mg : Str → Option Value} {base : Heap} {f C : Addr} {fd : FuncData} (F : FunD K "__init__" "TooMany.__init__" (defArgs (inClass (top 8) 0)) (defBody (inClass (top 8) 0)) (defScope (inClass (top 8) 0)) [] [] f fd) (O : OexC K C) (n0 : PySem.W.findIn K (.ref C) "count" = some none) : FnOk P w K mg base CX0 1 f fd (["self", "count"] : List Str) (spInit C ["count"]) := by
  refine F.ok sc_TooMany (fun vs H Q E h => ?_) (fun cdv A outer st H vs Q E hr h => ?_)
  · obtain ⟨a, ws, rfl, hl, _⟩ := h
    exact congrArg Nat.succ hl
  · exact ⟨_, PSs.nox (pss_one (ps_ost (pv 0) (pv 1))), init1 O n0 h rfl⟩
theorem sc_BadKind : FnScope (["self", "value"] : List Str) (["self", "value"] : List Str) (defScope (inClass (top 9) 0)) := ⟨rfl, rfl, rfl, by decide +kernel, rfl, by decide +kernel, by decide +kernel⟩
theorem ini_BadKind [HasT] {P : Program} {w : World} {K : PySem.W.Frag} {mg : Str → Option Value} {base : Heap} {f C : Addr} {fd : FuncData} (F : FunD K "__init__" "BadKind.__init__" (defArgs (inClass (top 9) 0)) (defBody (inClass (top 9) 0)) (defScope (inClass (top 9) 0)) [] [] f fd) (O : OexC K C) (n0 : PySem.W.findIn K (.ref C) "value" = some none) : FnOk P w K mg base CX0 1 f fd (["self", "value"] : List Str) (spInit C ["value"]) := by
  refine F.ok sc_BadKind (fun vs H Q E h => ?_) (fun cdv A outer st H vs Q E hr h => ?_)
  · obtain ⟨a, ws, rfl, hl, _⟩ := h
    exact congrArg Nat.succ hl
  · exact ⟨_, PSs.nox (pss_one (ps_ost (pv 0) (pv 1))), init1 O n0 h rfl⟩
def tabL (K : PySem.W.Frag) : List (Addr × Str) := [((He.cT K ("all_kinds", none)).2, "all_kinds.<locals>." ++ "<lambda>")]
@[reducible] def tabT (K : PySem.W.Frag) : HasT := ⟨tabL K⟩
theorem facts {w : World} {K : PySem.W.Frag} {h : Heap} {mg : Str → Option Value} {f : Addr} (X : K.In h) (G : h.Ns mainGlobals mg) (hfa : mg ("law" : Str) = some (.ref f)) (c : SaysL fa fn tf ex h K)
    (plain : ∀ ns : List Int, ns.length ≤ 63 → F_law [.scr ns] = .ok (.bool true)) : LamX.LawAtS PySem.Challenge.rw_allteams_k01_choices_kinds_and_dues w K (L2.CX (PySem.Challenge.rw_allteams_k01_choices_kinds_and_dues).prog w) 8 63 "_law_script" mg f h := by
  letI : HasT := tabT K
  have hTT : (HasT.T : List (Addr × Str)) = tabL K := rfl
  have N : Nm mg := ⟨He.free_ok X G (c.d.fact 0 (f := .free "len") rfl), He.free_ok X G (c.d.fact 1 (f := .free "sum") rfl), He.free_ok X G (c.d.fact 2 (f := .free "all") rfl), He.free_ok X G (c.d.fact 3 (f := .free "any") rfl), He.free_ok X G (c.d.fact 4 (f := .free "int") rfl), He.free_ok X G (c.d.fact 5 (f := .free "list") rfl), He.free_ok X G (c.d.fact 6 (f := .free "tuple") rfl), He.free_ok X G (c.d.fact 7 (f := .free "dict") rfl), He.free_ok X G (c.d.fact 8 (f := .free "min") rfl), He.free_ok X G (c.d.fact 9 (f := .free "max") rfl), He.free_ok X G (c.d.fact 10 (f := .free "range") rfl), He.free_ok X G (c.d.fact 11 (f := .free "zip") rfl), He.free_ok X G (c.d.fact 12 (f := .free "isinstance") rfl), He.free_ok X G (c.d.fact 13 (f := .free "sorted") rfl), He.free_ok X G (c.d.fact 14 (f := .free "bool") rfl), He.free_ok X G (c.d.fact 15 (f := .free "str") rfl)⟩
  have T : Tx mg := ⟨N, He.int_ok X G (c.d.fact 16 (f := .int "MOST_TEAMS" 130) rfl), He.int_ok X G (c.d.fact 17 (f := .int "MOST_PEOPLE" 10) rfl), He.int_ok X G (c.d.fact 18 (f := .int "MOST_IN_TEAM" 4) rfl), He.int_ok X G (c.d.fact 19 (f := .int "MOST_TIMES" 3) rfl), He.int_ok X G (c.d.fact 20 (f := .int "MOST_GAMES" 2) rfl)⟩
  obtain ⟨d__law_source, FD__law_source⟩ := c.d.def_ 0 (d := dF "_law_source" 31) rfl
  obtain ⟨d__law_draw, FD__law_draw⟩ := c.d.def_ 1 (d := dF "_law_draw" 32) rfl
  obtain ⟨d__law_cell, FD__law_cell⟩ := c.d.def_ 2 (d := dF "_law_cell" 30) rfl
  obtain ⟨d__law_choose, FD__law_choose⟩ := c.d.def_ 3 (d := dF "_law_choose" 33) rfl
  obtain ⟨d__law_setting, FD__law_setting⟩ := c.d.def_ 4 (d := dF "_law_setting" 37) rfl
  obtain ⟨d__law_tuples, FD__law_tuples⟩ := c.d.def_ 5 (d := dF "_law_tuples" 34) rfl
  obtain ⟨d__law_kinds, FD__law_kinds⟩ := c.d.def_ 6 (d := dF "_law_kinds" 35) rfl
  obtain ⟨d_choices, FD_choices⟩ := c.d.def_ 7 (d := dF "choices" 16) rfl
  obtain ⟨d__law_due, FD__law_due⟩ := c.d.def_ 8 (d := dF "_law_due" 36) rfl
  obtain ⟨d__law_odd, FD__law_odd⟩ := c.d.def_ 9 (d := dF "_law_odd" 38) rfl
  obtain ⟨d__law_is_right, FD__law_is_right⟩ := c.d.def_ 10 (d := dF "_law_is_right" 39) rfl
  obtain ⟨d_is_list, FD_is_list⟩ := c.d.def_ 11 (d := dF "is_list" 3) rfl
  obtain ⟨d_is_integer, FD_is_integer⟩ := c.d.def_ 12 (d := dF "is_integer" 1) rfl
  obtain ⟨d_is_within, FD_is_within⟩ := c.d.def_ 13 (d := dF "is_within" 2) rfl
  obtain ⟨d_are_sizes, FD_are_sizes⟩ := c.d.def_ 14 (d := dF "are_sizes" 17) rfl
  obtain ⟨d_check_sizes, FD_check_sizes⟩ := c.d.def_ 15 (d := dF "check_sizes" 20) rfl
  obtain ⟨d_total_of, FD_total_of⟩ := c.d.def_ 16 (d := dF "total_of" 19) rfl
  obtain ⟨d_are_games, FD_are_games⟩ := c.d.def_ 17 (d := dF "are_games" 18) rfl
  obtain ⟨d_check_games, FD_check_games⟩ := c.d.def_ 18 (d := dF "check_games" 21) rfl
  obtain ⟨d_check_setting, FD_check_setting⟩ := c.d.def_ 19 (d := dF "check_setting" 22) rfl
  obtain ⟨d_fits_classes, FD_fits_classes⟩ := c.d.def_ 20 (d := dF "fits_classes" 25) rfl
  obtain ⟨d_is_kind_of, FD_is_kind_of⟩ := c.d.def_ 21 (d := dF "is_kind_of" 26) rfl
  obtain ⟨d_is_kind, FD_is_kind⟩ := c.d.def_ 22 (d := dF "is_kind" 27) rfl
  obtain ⟨d_all_kinds, FD_all_kinds⟩ := c.d.def_ 23 (d := dF "all_kinds" 24) rfl
  obtain ⟨d_due_of, FD_due_of⟩ := c.d.def_ 24 (d := dF "due_of" 28) rfl
  obtain ⟨d_team_count, FD_team_count⟩ := c.d.def_ 25 (d := dF "team_count" 23) rfl
  obtain ⟨d__law_due_told, FD__law_due_told⟩ := c.d.def_ 26 (d := dF "_law_due_told" 40) rfl
  obtain ⟨d_law, FD_law⟩ := c.d.def_ 27 (d := dF "law" 41) rfl
  obtain ⟨d_BadSizes, FD_BadSizes⟩ := c.d.def_ 28 (d := dI "BadSizes" "BadSizes.__init__" 6 0) rfl
  obtain ⟨d_BadGames, FD_BadGames⟩ := c.d.def_ 29 (d := dI "BadGames" "BadGames.__init__" 7 0) rfl
  obtain ⟨d_TooMany, FD_TooMany⟩ := c.d.def_ 30 (d := dI "TooMany" "TooMany.__init__" 8 0) rfl
  obtain ⟨d_BadKind, FD_BadKind⟩ := c.d.def_ 31 (d := dI "BadKind" "BadKind.__init__" 9 0) rfl
  have e := hfa.symm.trans (He.glo_ok X G (c.d.fact 48 (f := .glo "law") rfl))
  cases e
  have b := FunD.bindsA (ps := ["_law_script"]) FD_law fun _ _ _ _ _ _ us hl => match us, hl with | [_], _ => rfl
  refine ⟨d_law, [(He.cT K ("all_kinds", none))], spV K 1 F_law, fun p hp => ?_, fun p hp => ?_, fun p hp => ?_, fun s v => b s [v] rfl, fun H a ns hl _ hH hS => ?_, fun base KB NB TB => ?_⟩
  · obtain ⟨q, hq, rfl⟩ : ∃ q ∈ tf, p = He.cT K q := by simpa [tf] using hp
    exact c.empty q hq
  · obtain ⟨q, hq, rfl⟩ : ∃ q ∈ tf, p = He.cT K q := by simpa [tf] using hp
    exact c.out q hq
  · obtain ⟨q, hq, rfl⟩ : ∃ q ∈ tf, p = He.cT K q := by simpa [tf] using hp
    exact PySem.W.codeHd_of_K X (c.hd q hq)
  · exact start_law hH hS (fun p hp => by rw [hTT] at hp; simp only [tabL, List.mem_cons, List.not_mem_nil, or_false] at hp; rcases hp with rfl <;> exact ⟨_, by simp, rfl⟩) (by rw [hTT]; simp [tabL]) (plain ns hl)
  have ce_BadSizes : ClsF K "BadSizes" ["value"] := clsF_of (by have z := c.more; simp only [ex, Bool.and_eq_true] at z; simp [z])
  have X_BadSizes : Kl (PySem.Challenge.rw_allteams_k01_choices_kinds_and_dues).prog w K mg base "BadSizes" ["value"] := ⟨ce_BadSizes.oex, ce_BadSizes.xf, He.glo_ok X G (c.d.fact 49 (f := .glo "BadSizes") rfl), ce_BadSizes.iC, ce_BadSizes.tI, ce_BadSizes.no, d_BadSizes, ini_BadSizes FD_BadSizes ce_BadSizes.oex (ce_BadSizes.no "value" (by decide +kernel)), FunD.bindsN (ps := ["self", "value"]) FD_BadSizes fun _ _ _ _ _ _ us hl => match us, hl with | [_, _], _ => rfl⟩
  have eX_BadSizes := ce_BadSizes.me
  have ce_BadGames : ClsF K "BadGames" ["value"] := clsF_of (by have z := c.more; simp only [ex, Bool.and_eq_true] at z; simp [z])
  have X_BadGames : Kl (PySem.Challenge.rw_allteams_k01_choices_kinds_and_dues).prog w K mg base "BadGames" ["value"] := ⟨ce_BadGames.oex, ce_BadGames.xf, He.glo_ok X G (c.d.fact 50 (f := .glo "BadGames") rfl), ce_BadGames.iC, ce_BadGames.tI, ce_BadGames.no, d_BadGames, ini_BadGames FD_BadGames ce_BadGames.oex (ce_BadGames.no "value" (by decide +kernel)), FunD.bindsN (ps := ["self", "value"]) FD_BadGames fun _ _ _ _ _ _ us hl => match us, hl with | [_, _], _ => rfl⟩
  have eX_BadGames := ce_BadGames.me
  have ce_TooMany : ClsF K "TooMany" ["count"] := clsF_of (by have z := c.more; simp only [ex, Bool.and_eq_true] at z; simp [z])
  have X_TooMany : Kl (PySem.Challenge.rw_allteams_k01_choices_kinds_and_dues).prog w K mg base "TooMany" ["count"] := ⟨ce_TooMany.oex, ce_TooMany.xf, He.glo_ok X G (c.d.fact 51 (f := .glo "TooMany") rfl), ce_TooMany.iC, ce_TooMany.tI, ce_TooMany.no, d_TooMany, ini_TooMany FD_TooMany ce_TooMany.oex (ce_TooMany.no "count" (by decide +kernel)), FunD.bindsN (ps := ["self", "count"]) FD_TooMany fun _ _ _ _ _ _ us hl => match us, hl with | [_, _], _ => rfl⟩
  have eX_TooMany := ce_TooMany.me
  have ce_BadKind : ClsF K "BadKind" ["value"] := clsF_of (by have z := c.more; simp only [ex, Bool.and_eq_true] at z; simp [z])
  have X_BadKind : Kl (PySem.Challenge.rw_allteams_k01_choices_kinds_and_dues).prog w K mg base "BadKind" ["value"] := ⟨ce_BadKind.oex, ce_BadKind.xf, He.glo_ok X G (c.d.fact 52 (f := .glo "BadKind") rfl), ce_BadKind.iC, ce_BadKind.tI, ce_BadKind.no, d_BadKind, ini_BadKind FD_BadKind ce_BadKind.oex (ce_BadKind.no "value" (by decide +kernel)), FunD.bindsN (ps := ["self", "value"]) FD_BadKind fun _ _ _ _ _ _ us hl => match us, hl with | [_, _], _ => rfl⟩
  have eX_BadKind := ce_BadKind.me
  have D__law_source : DefS (PySem.Challenge.rw_allteams_k01_choices_kinds_and_dues).prog w K mg base "_law_source" 1 := ⟨_, d__law_source, _, ok__law_source  FD__law_source, He.glo_ok X G (c.d.fact 21 (f := .glo "_law_source") rfl), FD__law_source.kp, FunD.bindsN (ps := ["_law_cell_here"]) FD__law_source fun _ _ _ _ _ _ us hl => match us, hl with | [_], _ => rfl⟩
  have D__law_draw : DefQ (PySem.Challenge.rw_allteams_k01_choices_kinds_and_dues).prog w K mg base "_law_draw" 1 1 F__law_draw := ⟨_, d__law_draw, _, ok__law_draw T  FD__law_draw, He.glo_ok X G (c.d.fact 22 (f := .glo "_law_draw") rfl), FD__law_draw.kp, FunD.bindsN (ps := ["_law_source_here", "_law_limit"]) FD__law_draw fun _ _ _ _ _ _ us hl => match us, hl with | [_, _], _ => rfl⟩
  have D__law_cell : Def (PySem.Challenge.rw_allteams_k01_choices_kinds_and_dues).prog w K mg base "_law_cell" 1 2 F__law_cell := ⟨_, d__law_cell, _, ok__law_cell T  FD__law_cell, He.glo_ok X G (c.d.fact 23 (f := .glo "_law_cell") rfl), FD__law_cell.kp, FunD.bindsN (ps := ["_law_script", "_law_place"]) FD__law_cell fun _ _ _ _ _ _ us hl => match us, hl with | [_, _], _ => rfl⟩
  have D__law_choose : Def (PySem.Challenge.rw_allteams_k01_choices_kinds_and_dues).prog w K mg base "_law_choose" 1 2 F__law_choose := ⟨_, d__law_choose, _, ok__law_choose T  FD__law_choose, He.glo_ok X G (c.d.fact 24 (f := .glo "_law_choose") rfl), FD__law_choose.kp, FunD.bindsN (ps := ["_law_many", "_law_few"]) FD__law_choose fun _ _ _ _ _ _ us hl => match us, hl with | [_, _], _ => rfl⟩
  have D__law_setting : DefQ (PySem.Challenge.rw_allteams_k01_choices_kinds_and_dues).prog w K mg base "_law_setting" 2 0 F__law_setting := ⟨_, d__law_setting, _, ok__law_setting T D__law_draw D__law_choose FD__law_setting, He.glo_ok X G (c.d.fact 25 (f := .glo "_law_setting") rfl), FD__law_setting.kp, FunD.bindsN (ps := ["_law_source_here"]) FD__law_setting fun _ _ _ _ _ _ us hl => match us, hl with | [_], _ => rfl⟩
  have D__law_tuples : Def (PySem.Challenge.rw_allteams_k01_choices_kinds_and_dues).prog w K mg base "_law_tuples" 1 1 F__law_tuples := ⟨_, d__law_tuples, _, ok__law_tuples T  FD__law_tuples, He.glo_ok X G (c.d.fact 26 (f := .glo "_law_tuples") rfl), FD__law_tuples.kp, FunD.bindsN (ps := ["_law_sizes"]) FD__law_tuples fun _ _ _ _ _ _ us hl => match us, hl with | [_], _ => rfl⟩
  have D__law_kinds : Def (PySem.Challenge.rw_allteams_k01_choices_kinds_and_dues).prog w K mg base "_law_kinds" 2 2 F__law_kinds := ⟨_, d__law_kinds, _, ok__law_kinds T D__law_tuples FD__law_kinds, He.glo_ok X G (c.d.fact 27 (f := .glo "_law_kinds") rfl), FD__law_kinds.kp, FunD.bindsN (ps := ["_law_sizes", "_law_games"]) FD__law_kinds fun _ _ _ _ _ _ us hl => match us, hl with | [_, _], _ => rfl⟩
  have D_choices : Def (PySem.Challenge.rw_allteams_k01_choices_kinds_and_dues).prog w K mg base "choices" 1 2 F_choices := ⟨_, d_choices, _, ok_choices T  FD_choices, He.glo_ok X G (c.d.fact 28 (f := .glo "choices") rfl), FD_choices.kp, FunD.bindsN (ps := ["many", "few"]) FD_choices fun _ _ _ _ _ _ us hl => match us, hl with | [_, _], _ => rfl⟩
  have D__law_due : Def (PySem.Challenge.rw_allteams_k01_choices_kinds_and_dues).prog w K mg base "_law_due" 2 3 F__law_due := ⟨_, d__law_due, _, ok__law_due T D__law_choose FD__law_due, He.glo_ok X G (c.d.fact 29 (f := .glo "_law_due") rfl), FD__law_due.kp, FunD.bindsN (ps := ["_law_sizes", "_law_games", "_law_kind"]) FD__law_due fun _ _ _ _ _ _ us hl => match us, hl with | [_, _, _], _ => rfl⟩
  have D__law_odd : DefQ (PySem.Challenge.rw_allteams_k01_choices_kinds_and_dues).prog w K mg base "_law_odd" 2 2 F__law_odd := ⟨_, d__law_odd, _, ok__law_odd T D__law_draw FD__law_odd, He.glo_ok X G (c.d.fact 30 (f := .glo "_law_odd") rfl), FD__law_odd.kp, FunD.bindsN (ps := ["_law_source_here", "_law_kinds_here", "_law_sizes"]) FD__law_odd fun _ _ _ _ _ _ us hl => match us, hl with | [_, _, _], _ => rfl⟩
  have D__law_is_right : Def (PySem.Challenge.rw_allteams_k01_choices_kinds_and_dues).prog w K mg base "_law_is_right" 1 2 F__law_is_right := ⟨_, d__law_is_right, _, ok__law_is_right T  FD__law_is_right, He.glo_ok X G (c.d.fact 31 (f := .glo "_law_is_right") rfl), FD__law_is_right.kp, FunD.bindsN (ps := ["_law_kinds_here", "_law_value"]) FD__law_is_right fun _ _ _ _ _ _ us hl => match us, hl with | [_, _], _ => rfl⟩
  have D_is_list : Def (PySem.Challenge.rw_allteams_k01_choices_kinds_and_dues).prog w K mg base "is_list" 1 1 F_is_list := ⟨_, d_is_list, _, ok_is_list T  FD_is_list, He.glo_ok X G (c.d.fact 32 (f := .glo "is_list") rfl), FD_is_list.kp, FunD.bindsN (ps := ["value"]) FD_is_list fun _ _ _ _ _ _ us hl => match us, hl with | [_], _ => rfl⟩
  have D_is_integer : Def (PySem.Challenge.rw_allteams_k01_choices_kinds_and_dues).prog w K mg base "is_integer" 1 1 F_is_integer := ⟨_, d_is_integer, _, ok_is_integer T  FD_is_integer, He.glo_ok X G (c.d.fact 33 (f := .glo "is_integer") rfl), FD_is_integer.kp, FunD.bindsN (ps := ["value"]) FD_is_integer fun _ _ _ _ _ _ us hl => match us, hl with | [_], _ => rfl⟩
  have D_is_within : Def (PySem.Challenge.rw_allteams_k01_choices_kinds_and_dues).prog w K mg base "is_within" 2 3 F_is_within := ⟨_, d_is_within, _, ok_is_within T D_is_integer FD_is_within, He.glo_ok X G (c.d.fact 34 (f := .glo "is_within") rfl), FD_is_within.kp, FunD.bindsN (ps := ["value", "low", "high"]) FD_is_within fun _ _ _ _ _ _ us hl => match us, hl with | [_, _, _], _ => rfl⟩
  have D_are_sizes : Def (PySem.Challenge.rw_allteams_k01_choices_kinds_and_dues).prog w K mg base "are_sizes" 3 1 F_are_sizes := ⟨_, d_are_sizes, _, ok_are_sizes T D_is_list D_is_within FD_are_sizes, He.glo_ok X G (c.d.fact 35 (f := .glo "are_sizes") rfl), FD_are_sizes.kp, FunD.bindsN (ps := ["value"]) FD_are_sizes fun _ _ _ _ _ _ us hl => match us, hl with | [_], _ => rfl⟩
  have D_check_sizes : Def (PySem.Challenge.rw_allteams_k01_choices_kinds_and_dues).prog w K mg base "check_sizes" 4 1 F_check_sizes := ⟨_, d_check_sizes, _, ok_check_sizes T D_are_sizes X_BadSizes FD_check_sizes, He.glo_ok X G (c.d.fact 36 (f := .glo "check_sizes") rfl), FD_check_sizes.kp, FunD.bindsN (ps := ["sizes"]) FD_check_sizes fun _ _ _ _ _ _ us hl => match us, hl with | [_], _ => rfl⟩
  have D_total_of : Def (PySem.Challenge.rw_allteams_k01_choices_kinds_and_dues).prog w K mg base "total_of" 2 2 F_total_of := ⟨_, d_total_of, _, ok_total_of T D_choices FD_total_of, He.glo_ok X G (c.d.fact 37 (f := .glo "total_of") rfl), FD_total_of.kp, FunD.bindsN (ps := ["people", "games"]) FD_total_of fun _ _ _ _ _ _ us hl => match us, hl with | [_, _], _ => rfl⟩
  have D_are_games : Def (PySem.Challenge.rw_allteams_k01_choices_kinds_and_dues).prog w K mg base "are_games" 3 2 F_are_games := ⟨_, d_are_games, _, ok_are_games T D_is_within FD_are_games, He.glo_ok X G (c.d.fact 38 (f := .glo "are_games") rfl), FD_are_games.kp, FunD.bindsN (ps := ["people", "value"]) FD_are_games fun _ _ _ _ _ _ us hl => match us, hl with | [_, _], _ => rfl⟩
  have D_check_games : Def (PySem.Challenge.rw_allteams_k01_choices_kinds_and_dues).prog w K mg base "check_games" 4 2 F_check_games := ⟨_, d_check_games, _, ok_check_games T D_total_of D_are_games X_BadGames X_TooMany FD_check_games, He.glo_ok X G (c.d.fact 39 (f := .glo "check_games") rfl), FD_check_games.kp, FunD.bindsN (ps := ["people", "games"]) FD_check_games fun _ _ _ _ _ _ us hl => match us, hl with | [_, _], _ => rfl⟩
  have D_check_setting : Def (PySem.Challenge.rw_allteams_k01_choices_kinds_and_dues).prog w K mg base "check_setting" 5 2 F_check_setting := ⟨_, d_check_setting, _, ok_check_setting T D_check_sizes D_check_games FD_check_setting, He.glo_ok X G (c.d.fact 40 (f := .glo "check_setting") rfl), FD_check_setting.kp, FunD.bindsN (ps := ["sizes", "games"]) FD_check_setting fun _ _ _ _ _ _ us hl => match us, hl with | [_, _], _ => rfl⟩
  have D_fits_classes : Def (PySem.Challenge.rw_allteams_k01_choices_kinds_and_dues).prog w K mg base "fits_classes" 3 2 F_fits_classes := ⟨_, d_fits_classes, _, ok_fits_classes T D_is_within FD_fits_classes, He.glo_ok X G (c.d.fact 41 (f := .glo "fits_classes") rfl), FD_fits_classes.kp, FunD.bindsN (ps := ["sizes", "value"]) FD_fits_classes fun _ _ _ _ _ _ us hl => match us, hl with | [_, _], _ => rfl⟩
  have D_is_kind_of : Def (PySem.Challenge.rw_allteams_k01_choices_kinds_and_dues).prog w K mg base "is_kind_of" 4 3 F_is_kind_of := ⟨_, d_is_kind_of, _, ok_is_kind_of T D_fits_classes FD_is_kind_of, He.glo_ok X G (c.d.fact 42 (f := .glo "is_kind_of") rfl), FD_is_kind_of.kp, FunD.bindsN (ps := ["sizes", "games", "value"]) FD_is_kind_of fun _ _ _ _ _ _ us hl => match us, hl with | [_, _, _], _ => rfl⟩
  have D_is_kind : Def (PySem.Challenge.rw_allteams_k01_choices_kinds_and_dues).prog w K mg base "is_kind" 6 3 F_is_kind := ⟨_, d_is_kind, _, ok_is_kind T D_check_setting D_is_kind_of FD_is_kind, He.glo_ok X G (c.d.fact 43 (f := .glo "is_kind") rfl), FD_is_kind.kp, FunD.bindsN (ps := ["sizes", "games", "value"]) FD_is_kind fun _ _ _ _ _ _ us hl => match us, hl with | [_, _, _], _ => rfl⟩
  have Lm_all_kinds : LamIn d_all_kinds base mg "all_kinds.<locals>." := ⟨_, _, code_ref (p := ("all_kinds", none)) FD_all_kinds, TB (He.cT K ("all_kinds", none)) (by simp), (by rw [hTT]; simp [tabL]), fun p hp e => by rw [hTT] at hp; simp only [tabL, List.mem_singleton] at hp; rw [hp]⟩
  have D_all_kinds : DefO (PySem.Challenge.rw_allteams_k01_choices_kinds_and_dues).prog w K mg base "all_kinds" 6 2 F_all_kinds := ⟨_, d_all_kinds, _, ok_all_kinds T D_check_setting Lm_all_kinds FD_all_kinds, He.glo_ok X G (c.d.fact 44 (f := .glo "all_kinds") rfl), FD_all_kinds.kp, FunD.bindsN (ps := ["sizes", "games"]) FD_all_kinds fun _ _ _ _ _ _ us hl => match us, hl with | [_, _], _ => rfl⟩
  have L_all_kinds : ∀ ds d, F_all_kinds ds = .ok d → ∃ l, d = TD.T.list l := lst_all_kinds
  have D_due_of : Def (PySem.Challenge.rw_allteams_k01_choices_kinds_and_dues).prog w K mg base "due_of" 6 3 F_due_of := ⟨_, d_due_of, _, ok_due_of T D_check_setting D_is_kind_of D_choices X_BadKind FD_due_of, He.glo_ok X G (c.d.fact 45 (f := .glo "due_of") rfl), FD_due_of.kp, FunD.bindsN (ps := ["sizes", "games", "kind"]) FD_due_of fun _ _ _ _ _ _ us hl => match us, hl with | [_, _, _], _ => rfl⟩
  have D_team_count : Def (PySem.Challenge.rw_allteams_k01_choices_kinds_and_dues).prog w K mg base "team_count" 6 2 F_team_count := ⟨_, d_team_count, _, ok_team_count T D_check_setting D_total_of FD_team_count, He.glo_ok X G (c.d.fact 46 (f := .glo "team_count") rfl), FD_team_count.kp, FunD.bindsN (ps := ["sizes", "games"]) FD_team_count fun _ _ _ _ _ _ us hl => match us, hl with | [_, _], _ => rfl⟩
  have D__law_due_told : Def (PySem.Challenge.rw_allteams_k01_choices_kinds_and_dues).prog w K mg base "_law_due_told" 7 3 F__law_due_told := ⟨_, d__law_due_told, _, ok__law_due_told T D_due_of X_BadKind eX_BadKind FD__law_due_told, He.glo_ok X G (c.d.fact 47 (f := .glo "_law_due_told") rfl), FD__law_due_told.kp, FunD.bindsN (ps := ["_law_sizes", "_law_games", "_law_value"]) FD__law_due_told fun _ _ _ _ _ _ us hl => match us, hl with | [_, _, _], _ => rfl⟩
  exact ok_law T D__law_source D__law_draw D__law_cell D__law_setting D__law_kinds D_choices D__law_due D__law_odd D__law_is_right D_is_kind D_all_kinds L_all_kinds D_due_of D_team_count D__law_choose D__law_due_told FD_law
end K01

end
section
namespace K01
open PySem PySem.Spec PyProof.Rows L2 Evl TD Mi
theorem run (w : World) : HandSHeadRun.RunEq R (PySem.W.view R.prog [41]) hk ob 20000 loose w := by
  intro os
  kernel_rfl
end K01

end
section

/-! PW: the mirrors' outcomes, by what is to hold behind them -/
namespace TD
open PySem PySem.Spec PyProof.Rows L2 Evl
abbrev XP := Str → List (Str × T) → Env → Prop
/-- nothing may be raised -/
abbrev NX : XP := fun _ _ _ => False
def wpB {α : Type} (r : R α) (P : α → Env → Prop) (X : XP) : Prop := match r with
  | .ok a e => P a e
  | .ex c fs e => X c fs e
  | .bad => False
/-- in a box, so that nothing computes it -/
structure wp {α : Type} (r : R α) (P : α → Env → Prop) (X : XP) : Prop where
  h : wpB r P X
structure DS where
  nx : Env → Prop
  rt : T → Env → Prop
  bk : Env → Prop
  ct : Env → Prop
  ex : XP
def wsB (r : RS) (D : DS) : Prop := match r with
  | .nx e => D.nx e
  | .rt t e => D.rt t e
  | .bk e => D.bk e
  | .ct e => D.ct e
  | .ex c fs e => D.ex c fs e
  | .bad => False
structure ws (r : RS) (D : DS) : Prop where
  h : wsB r D
theorem wp_eq {α : Type} {r : R α} {P : α → Env → Prop} {X : XP} : wp r P X = wpB r P X := propext ⟨wp.h, wp.mk⟩
theorem ws_eq {r : RS} {D : DS} : ws r D = wsB r D := propext ⟨ws.h, ws.mk⟩
section
variable {α β : Type} {P : α → Env → Prop} {Q : β → Env → Prop} {X : XP} {D : DS} {e : Env}
theorem wp_ok {a : α} : wp (.ok a e) P X = P a e := wp_eq
theorem wp_ex {c : Str} {fs} : wp (α := α) (.ex c fs e) P X = X c fs e := wp_eq
theorem wp_bad : wp (α := α) .bad P X = False := wp_eq
theorem wp_bind {r : R α} {f : α → Env → R β} : wp (r.bind f) Q X = wp r (fun a e => wp (f a e) Q X) X := by
  simp only [wp_eq]
  cases r <;> rfl
theorem wp_ofO {o : Option α} : wp (ofO o e) P X = ∃ a, o = some a ∧ P a e := by
  rw [wp_eq]
  cases o with
  | none => exact propext ⟨fun h => h.elim, fun ⟨_, h, _⟩ => nomatch h⟩
  | some a => exact propext ⟨fun h => ⟨a, rfl, h⟩, fun ⟨_, h, q⟩ => by cases h; exact q⟩
theorem wp_ite {c : Prop} [Decidable c] {a b : R α} : wp (if c then a else b) P X = ((c → wp a P X) ∧ (¬ c → wp b P X)) := by
  by_cases h : c
  · rw [if_pos h]; exact propext ⟨fun q => ⟨fun _ => q, fun n => absurd h n⟩, fun q => q.1 h⟩
  · rw [if_neg h]; exact propext ⟨fun q => ⟨fun n => absurd n h, fun _ => q⟩, fun q => q.2 h⟩
theorem wp_noX {r : R α} : wp (noX r) P X = wp r P NX := by
  simp only [wp_eq]
  cases r <;> rfl
theorem wp_mono {r : R α} {P' : α → Env → Prop} {X' : XP} (h : wp r P X) (k : ∀ a e, P a e → P' a e) (kx : ∀ c fs e, X c fs e → X' c fs e) : wp r P' X' := by
  rw [wp_eq] at h ⊢
  cases r with
  | ok a e => exact k _ _ h
  | ex c fs e => exact kx _ _ _ h
  | bad => exact h
theorem wp_elim {r : R α} (h : wp r P NX) : ∃ a e, r = .ok a e ∧ P a e := by
  rw [wp_eq] at h
  cases r with
  | ok a e => exact ⟨a, e, rfl, h⟩
  | ex c fs e => exact h.elim
  | bad => exact h.elim
theorem ws_nx : ws (.nx e) D = D.nx e := ws_eq
theorem ws_rt {t : T} : ws (.rt t e) D = D.rt t e := ws_eq
theorem ws_bk : ws (.bk e) D = D.bk e := ws_eq
theorem ws_ct : ws (.ct e) D = D.ct e := ws_eq
theorem ws_ex {c : Str} {fs} : ws (.ex c fs e) D = D.ex c fs e := ws_eq
theorem ws_bad : ws .bad D = False := ws_eq
theorem ws_st {r : R α} {f : α → Env → RS} : ws (r.st f) D = wp r (fun a e => ws (f a e) D) D.ex := by
  simp only [wp_eq, ws_eq]
  cases r <;> rfl
theorem ws_seq {a b : MS} : ws (sSeq a b e) D = ws (a e) ⟨fun e1 => ws (b e1) D, D.rt, D.bk, D.ct, D.ex⟩ := by
  unfold sSeq
  simp only [ws_eq]
  cases a e <;> rfl
theorem ws_ite {c : Prop} [Decidable c] {a b : RS} : ws (if c then a else b) D = ((c → ws a D) ∧ (¬ c → ws b D)) := by
  by_cases h : c
  · rw [if_pos h]; exact propext ⟨fun q => ⟨fun _ => q, fun n => absurd h n⟩, fun q => q.1 h⟩
  · rw [if_neg h]; exact propext ⟨fun q => ⟨fun n => absurd n h, fun _ => q⟩, fun q => q.2 h⟩
theorem ws_mono {r : RS} {D' : DS} (h : ws r D) (k1 : ∀ e, D.nx e → D'.nx e) (k2 : ∀ t e, D.rt t e → D'.rt t e) (k3 : ∀ e, D.bk e → D'.bk e) (k4 : ∀ e, D.ct e → D'.ct e) (k5 : ∀ c fs e, D.ex c fs e → D'.ex c fs e) : ws r D' := by
  rw [ws_eq] at h ⊢
  cases r with
  | nx e => exact k1 _ h
  | rt t e => exact k2 _ _ h
  | bk e => exact k3 _ h
  | ct e => exact k4 _ h
  | ex c fs e => exact k5 _ _ _ h
  | bad => exact h
/-- a call -/
theorem wp_mF {f : F} {a : M (List T)} {P : T → Env → Prop} : wp (mF f a e) P X = wp (a e) (fun ds e1 => match f ds with | .ok d => P d e1 | .ex c fs => X c fs e1 | .bad => False) X := by
  unfold mF
  rw [wp_bind]
  refine congrArg (fun z => wp (a e) z X) (funext fun ds => funext fun e1 => ?_)
  cases f ds <;> exact wp_eq
/-- a loop -/
theorem ws_forI {t : T → Env → Option Env} {b : MS} (I : List T → Env → Prop) (hn : ∀ e, I [] e → D.nx e)
    (hs : ∀ x rest e, I (x :: rest) e → ∃ e1, t x e = some e1 ∧ ws (b e1) ⟨I rest, D.rt, D.nx, I rest, D.ex⟩) : ∀ (ds : List T) (e : Env), I ds e → ws (forL t b ds e) D
  | [], e, h => ⟨hn e h⟩
  | x :: rest, e, h => by
    obtain ⟨e1, h1, h2⟩ := hs x rest e h
    unfold forL
    rw [h1]
    rw [ws_eq] at h2
    show ws (match b e1 with | .nx e2 => forL t b rest e2 | .ct e2 => forL t b rest e2 | .bk e2 => .nx e2 | .rt v e2 => .rt v e2 | .ex c fs e2 => .ex c fs e2 | .bad => .bad) D
    cases q : b e1 with
    | nx e2 => rw [q] at h2; exact ws_forI I hn hs rest e2 h2
    | ct e2 => rw [q] at h2; exact ws_forI I hn hs rest e2 h2
    | bk e2 => rw [q] at h2; exact ⟨h2⟩
    | rt v e2 => rw [q] at h2; exact ⟨h2⟩
    | ex c fs e2 => rw [q] at h2; exact ⟨h2⟩
    | bad => rw [q] at h2; exact ⟨h2⟩
theorem ws_for {γ : Type} {t : T → Env → Option Env} {b : MS} {xs : List γ} (f : γ → T) (I : Nat → Env → Prop) (h0 : I 0 e)
    (hs : ∀ (i : Nat) (h : i < xs.length) e, I i e → ∃ e1, t (f xs[i]) e = some e1 ∧ ws (b e1) ⟨I (i + 1), D.rt, D.nx, I (i + 1), D.ex⟩) (hn : ∀ e, I xs.length e → D.nx e) : ws (forL t b (xs.map f) e) D := by
  refine ws_forI (fun ds e => ∃ i, i ≤ xs.length ∧ ds = (xs.drop i).map f ∧ I i e) ?_ ?_ _ _ ⟨0, Nat.zero_le _, rfl, h0⟩
  · rintro e ⟨i, hi, h, k⟩
    have : xs.length ≤ i := by
      have z : (xs.drop i).length = 0 := by rw [← List.length_map (f := f), ← h]; rfl
      rw [List.length_drop] at z
      omega
    rw [show i = xs.length by omega] at k
    exact hn e k
  · rintro x rest e ⟨i, hi, h, k⟩
    have hlt : i < xs.length := by
      refine Nat.lt_of_not_le fun z => ?_
      rw [List.drop_eq_nil_of_le z] at h
      cases h
    rw [List.drop_eq_getElem_cons hlt, List.map_cons] at h
    cases h
    obtain ⟨e1, h1, h2⟩ := hs i hlt e k
    exact ⟨e1, h1, ws_mono h2 (fun e q => ⟨i + 1, hlt, rfl, q⟩) (fun _ _ q => q) (fun _ q => q) (fun e q => ⟨i + 1, hlt, rfl, q⟩) fun _ _ _ q => q⟩
/-- a comprehension's loop, whose slots stay what they are -/
theorem lc_ok {γ : Type} {t : T → Env → Option Env} {c : M Bool} {m : M T} {vs : List Nat} (f : γ → T) (p : γ → Bool) (g : γ → T) (xs : List γ)
    (h : ∀ x ∈ xs, ∃ e1, t (f x) e = some e1 ∧ wp (c e1) (fun k e2 => k = p x ∧ (p x = true → wp (m e2) (fun y e3 => y = g x ∧ clearE e3 vs = true ∧ wipeE e3 vs = e) NX) ∧ (p x = false → clearE e2 vs = true ∧ wipeE e2 vs = e)) NX) :
    lcL t c m vs (xs.map f) e = .ok ((xs.filter p).map g) e := by
  induction xs with
  | nil => rfl
  | cons x xs ih =>
    obtain ⟨e1, h1, h2⟩ := h x List.mem_cons_self
    have ih' := ih fun y hy => h y (List.mem_cons_of_mem _ hy)
    obtain ⟨k, e2, q, rfl, ht, hf⟩ := wp_elim h2
    show lcL t c m vs (f x :: xs.map f) e = _
    unfold lcL
    rw [h1]
    show (noX (c e1)).bind _ = _
    rw [q]
    cases hp : p x with
    | true =>
      obtain ⟨y, e3, q3, rfl, h4, h5⟩ := wp_elim (ht hp)
      show (noX (m e2)).bind _ = _
      rw [q3]
      show (if clearE e3 vs = true then (lcL t c m vs (xs.map f) (wipeE e3 vs)).bind fun ys e4 => R.ok (g x :: ys) e4 else .bad) = _
      rw [if_pos h4, h5, ih', List.filter_cons_of_pos hp]
      rfl
    | false =>
      obtain ⟨h4, h5⟩ := hf hp
      show (if clearE e2 vs = true then lcL t c m vs (xs.map f) (wipeE e2 vs) else .bad) = _
      rw [if_pos h4, h5, ih', List.filter_cons_of_neg (by rw [hp]; exact Bool.false_ne_true)]
theorem wp_mLc {mi : M (List T)} {t : T → Env → Option Env} {c : M Bool} {m : M T} {vs : List Nat} {P : T → Env → Prop} : wp (mLc mi t c m vs e) P X = wp (mi e) (fun ds e1 => clearE e1 vs = true ∧ wp (lcL t c m vs ds (wipeE e1 vs)) (fun ys e2 => ys.length ≤ 100000 ∧ P (.list ys) (backE e1 e2 vs)) NX) X := by
  unfold mLc
  rw [wp_bind]
  refine congrArg (fun z => wp (mi e) z X) (funext fun ds => funext fun e1 => propext ?_)
  rw [wp_ite]
  constructor
  · rintro ⟨h1, h2⟩
    by_cases q : clearE e1 vs = true
    · refine ⟨q, ?_⟩
      have z := h1 q
      rw [wp_bind, wp_noX] at z
      refine wp_mono z (fun ys e2 h => ?_) fun _ _ _ h => h
      rw [wp_ite] at h
      by_cases l : ys.length ≤ 100000
      · exact ⟨l, (h.1 l).h⟩
      · exact (h.2 l).h.elim
    · exact (h2 q).h.elim
  · rintro ⟨h1, h2⟩
    refine ⟨fun _ => ?_, fun n => absurd h1 n⟩
    rw [wp_bind, wp_noX]
    refine wp_mono h2 (fun ys e2 ⟨l, h⟩ => ?_) fun _ _ _ h => h
    rw [wp_ite]
    exact ⟨fun _ => ⟨h⟩, fun n => absurd l n⟩
/-- a comprehension over xs, as a value -/
theorem wp_lc {γ : Type} {t : T → Env → Option Env} {c : M Bool} {m : M T} {vs : List Nat} {P : List T → Env → Prop} (f : γ → T) (p : γ → Bool) (g : γ → T) {xs : List γ}
    (h : ∀ x ∈ xs, ∃ e1, t (f x) e = some e1 ∧ wp (c e1) (fun k e2 => k = p x ∧ (p x = true → wp (m e2) (fun y e3 => y = g x ∧ clearE e3 vs = true ∧ wipeE e3 vs = e) NX) ∧ (p x = false → clearE e2 vs = true ∧ wipeE e2 vs = e)) NX)
    (k : P ((xs.filter p).map g) e) : wp (lcL t c m vs (xs.map f) e) P X := by
  rw [lc_ok f p g xs h]
  exact ⟨k⟩
end
theorem runF_ok {N : Nat} {m : MS} {ds : List T} {d : T} (h : ws (m (ds.map .val ++ List.replicate (N - ds.length) .un)) ⟨fun _ => d = .none, fun t _ => t = d, fun _ => False, fun _ => False, NX⟩) : runF N m ds = .ok d := by
  unfold runF
  rw [ws_eq] at h
  generalize m _ = r at h
  cases r with
  | nx e => rw [show d = .none from h]; rfl
  | rt t e => rw [← show t = d from h]; rfl
  | bk e => exact h.elim
  | ct e => exact h.elim
  | ex c fs e => exact h.elim
  | bad => exact h.elim
theorem runF_ex {N : Nat} {m : MS} {ds : List T} {c : Str} {fs : List (Str × T)} (h : ws (m (ds.map .val ++ List.replicate (N - ds.length) .un)) ⟨fun _ => False, fun _ _ => False, fun _ => False, fun _ => False, fun c' fs' _ => c' = c ∧ fs' = fs⟩) : runF N m ds = .ex c fs := by
  unfold runF
  rw [ws_eq] at h
  generalize m _ = r at h
  cases r with
  | ex c fs e => obtain ⟨rfl, rfl⟩ := h; rfl
  | nx e => exact h.elim
  | rt t e => exact h.elim
  | bk e => exact h.elim
  | ct e => exact h.elim
  | bad => exact h.elim
theorem runQ_ok {N : Nat} {m : MS} {ds : List T} {t : T} {A : T → T → Prop} (h : ws (m (.own t :: (ds.map .val ++ List.replicate (N - (ds.length + 1)) .un))) ⟨fun e => ∃ t', e[(0 : Nat)]? = some (.own t') ∧ A t' .none, fun d e => ∃ t', e[(0 : Nat)]? = some (.own t') ∧ A t' d, fun _ => False, fun _ => False, NX⟩) : ∃ t' d, runQ N m t ds = .ok t' d ∧ A t' d := by
  unfold runQ
  rw [ws_eq] at h
  generalize m _ = r at h
  cases r with
  | nx e =>
    obtain ⟨t', h1, h2⟩ := h
    exact ⟨t', .none, by unfold outQ; simp only [h1], h2⟩
  | rt d e =>
    obtain ⟨t', h1, h2⟩ := h
    exact ⟨t', d, by unfold outQ; simp only [h1], h2⟩
  | bk e => exact h.elim
  | ct e => exact h.elim
  | ex c fs e => exact h.elim
  | bad => exact h.elim
theorem runO_ok {N : Nat} {b : MS} {m : M T} {ds : List T} {d : T} (h : ws (b (ds.map .val ++ List.replicate (N - ds.length) .un)) ⟨fun e => wp (m e) (fun t _ => t = d) NX, fun _ _ => False, fun _ => False, fun _ => False, NX⟩) : runO N b m ds = .ok d := by
  unfold runO
  rw [ws_eq] at h
  generalize b _ = r at h
  cases r with
  | nx e =>
    obtain ⟨a, e1, q, rfl⟩ := wp_elim h
    unfold outO
    simp only [q]
  | rt t e => exact h.elim
  | bk e => exact h.elim
  | ct e => exact h.elim
  | ex c fs e => exact h.elim
  | bad => exact h.elim
/-- a comprehension of two clauses -/
theorem lc2_ok {γ : Type} {t t1 : T → Env → Option Env} {c c1 : M Bool} {mi1 : M (List T)} {m : M T} {vs vs1 : List Nat} {e : Env} (f : γ → T) (g : γ → List T) (xs : List γ)
    (h : ∀ x ∈ xs, ∃ e1, t (f x) e = some e1 ∧ wp (c e1) (fun k e2 => k = true ∧ wp (mi1 e2) (fun ds e3 => clearE e3 vs1 = true ∧ wp (lcL t1 c1 m vs1 ds (wipeE e3 vs1)) (fun ys e4 => ys = g x ∧ clearE e4 vs = true ∧ wipeE e4 vs = e) NX) NX) NX) :
    lc2L t c mi1 t1 c1 m vs vs1 (xs.map f) e = .ok (xs.flatMap g) e := by
  induction xs with
  | nil => rfl
  | cons x xs ih =>
    obtain ⟨e1, h1, h2⟩ := h x List.mem_cons_self
    have ih' := ih fun y hy => h y (List.mem_cons_of_mem _ hy)
    obtain ⟨k, e2, q, rfl, h3⟩ := wp_elim h2
    obtain ⟨ds, e3, q3, h4, h5⟩ := wp_elim h3
    obtain ⟨ys, e4, q4, rfl, h6, h7⟩ := wp_elim h5
    show lc2L t c mi1 t1 c1 m vs vs1 (f x :: xs.map f) e = _
    unfold lc2L
    rw [h1]
    show (noX (c e1)).bind _ = _
    rw [q]
    show (noX (mi1 e2)).bind _ = _
    rw [q3]
    show (if clearE e3 vs1 = true then (noX (lcL t1 c1 m vs1 ds (wipeE e3 vs1))).bind (fun ys e4 => if clearE e4 vs = true then (lc2L t c mi1 t1 c1 m vs vs1 (xs.map f) (wipeE e4 vs)).bind fun zs e5 => R.ok (ys ++ zs) e5 else .bad) else .bad) = _
    rw [if_pos h4, q4]
    show (if clearE e4 vs = true then (lc2L t c mi1 t1 c1 m vs vs1 (xs.map f) (wipeE e4 vs)).bind (fun zs e5 => R.ok (g x ++ zs) e5) else .bad) = _
    rw [if_pos h6, h7, ih']
    rfl
theorem wp_mLc2 {mi mi1 : M (List T)} {t t1 : T → Env → Option Env} {c c1 : M Bool} {m : M T} {vs vs1 : List Nat} {P : T → Env → Prop} {X : XP} {e : Env} : wp (mLc2 mi t c mi1 t1 c1 m vs vs1 e) P X = wp (mi e) (fun ds e1 => clearE e1 vs = true ∧ wp (lc2L t c mi1 t1 c1 m vs vs1 ds (wipeE e1 vs)) (fun ys e2 => ys.length ≤ 100000 ∧ P (.list ys) (backE e1 e2 vs)) NX) X := by
  unfold mLc2
  rw [wp_bind]
  refine congrArg (fun z => wp (mi e) z X) (funext fun ds => funext fun e1 => propext ?_)
  rw [wp_ite]
  constructor
  · rintro ⟨h1, h2⟩
    by_cases q : clearE e1 vs = true
    · refine ⟨q, ?_⟩
      have z := h1 q
      rw [wp_bind, wp_noX] at z
      refine wp_mono z (fun ys e2 h => ?_) fun _ _ _ h => h
      rw [wp_ite] at h
      by_cases l : ys.length ≤ 100000
      · exact ⟨l, (h.1 l).h⟩
      · exact (h.2 l).h.elim
    · exact (h2 q).h.elim
  · rintro ⟨h1, h2⟩
    refine ⟨fun _ => ?_, fun n => absurd h1 n⟩
    rw [wp_bind, wp_noX]
    refine wp_mono h2 (fun ys e2 ⟨l, h⟩ => ?_) fun _ _ _ h => h
    rw [wp_ite]
    exact ⟨fun _ => ⟨h⟩, fun n => absurd l n⟩
theorem wp_lc2 {γ : Type} {t t1 : T → Env → Option Env} {c c1 : M Bool} {mi1 : M (List T)} {m : M T} {vs vs1 : List Nat} {e : Env} {P : List T → Env → Prop} {X : XP} (f : γ → T) (g : γ → List T) {xs : List γ}
    (h : ∀ x ∈ xs, ∃ e1, t (f x) e = some e1 ∧ wp (c e1) (fun k e2 => k = true ∧ wp (mi1 e2) (fun ds e3 => clearE e3 vs1 = true ∧ wp (lcL t1 c1 m vs1 ds (wipeE e3 vs1)) (fun ys e4 => ys = g x ∧ clearE e4 vs = true ∧ wipeE e4 vs = e) NX) NX) NX)
    (k : P (xs.flatMap g) e) : wp (lc2L t c mi1 t1 c1 m vs vs1 (xs.map f) e) P X := by
  rw [lc2_ok f g xs h]
  exact ⟨k⟩
/-! operations on ints -/
section
variable {i j : Int}
theorem addT_i : addT (.int i) (.int j) = some (.int (i + j)) := rfl
theorem subT_i : subT (.int i) (.int j) = some (.int (i - j)) := rfl
theorem ltT_i : ltT (.int i) (.int j) = some (.bool (decide (i < j))) := rfl
theorem leT_i : leT (.int i) (.int j) = some (.bool (decide (i ≤ j))) := rfl
theorem gtT_i : gtT (.int i) (.int j) = some (.bool (decide (j < i))) := rfl
theorem geT_i : geT (.int i) (.int j) = some (.bool (decide (j ≤ i))) := rfl
theorem modT_i : modT (.int i) (.int j) = if decide (0 < j) = true then some (.int (i % j)) else none := rfl
theorem fdivT_i : fdivT (.int i) (.int j) = if (decide (0 < j) && decide (j < 1073741824)) = true then some (.int (i / j)) else none := rfl
theorem powT_i : powT (.int i) (.int j) = if (decide (0 ≤ j) && (decide (j ≤ 1000000) && decide (i.natAbs < 2 ^ 64))) = true then some (.int (i ^ j.toNat)) else none := rfl
theorem mulT_i : mulT (.int i) (.int j) = if (bigB i || bigB j) = true then some (.int (i * j)) else none := rfl
theorem min2T_i : min2T (.int i) (.int j) = some (.int (if j < i then j else i)) := rfl
theorem max2T_i : max2T (.int i) (.int j) = some (.int (if j > i then j else i)) := rfl
theorem negT_i : negT (.int i) = some (.int (-i)) := rfl
theorem intT_i : intT (.int i) = some (.int i) := rfl
theorem bigB_of (h1 : -1000000000000 ≤ i) (h2 : i ≤ 1000000000000) : bigB i = true := by
  unfold bigB
  simp only [Bool.and_eq_true, decide_eq_true_eq]
  omega
end
end TD

end
section

/-! PK1: numbers, choices, what is an integer -/
namespace Pl
open PySem PySem.Spec PyProof.Rows L2 Evl TD Mi
local instance : HasT := ⟨[]⟩
abbrev zs (ns : List Int) : List T := ns.map T.int
abbrev tupZ (ns : List Int) : T := .tuple (zs ns)
abbrev lstZ (ns : List Int) : T := .list (zs ns)
abbrev dctZ (gs : List (Int × Int)) : T := .dict (gs.map fun p => (T.int p.1, T.int p.2))
theorem intsT_zs : ∀ ns : List Int, intsT (zs ns) = some ns
  | [] => rfl
  | n :: ns => by
    show (intsT (zs ns)).map (n :: ·) = _
    rw [intsT_zs ns]
    rfl
theorem boolsT_bs : ∀ bs : List Bool, boolsT (bs.map T.bool) = some bs
  | [] => rfl
  | b :: bs => by
    show (boolsT (bs.map T.bool)).map (b :: ·) = _
    rw [boolsT_bs bs]
    rfl
theorem boolsT_of {α : Type} (f : α → T) (g : α → Bool) (xs : List α) (h : ∀ x ∈ xs, f x = .bool (g x)) : boolsT (xs.map f) = some (xs.map g) := by
  rw [List.map_congr_left h, show xs.map (fun x => T.bool (g x)) = (xs.map g).map T.bool by rw [List.map_map]; rfl, boolsT_bs]
def isI : T → Bool
  | .int _ => true
  | _ => false
theorem f_is_integer {d : T} (h : (tyN d).isSome = true) : F_is_integer [d] = .ok (.bool (isI d)) := by
  refine runF_ok ?_
  unfold m_is_integer
  simp only [wp_ok, wp_ex, wp_bad, wp_bind, wp_ofO, wp_noX, ws_nx, ws_rt, ws_bk, ws_ct, ws_ex, ws_bad, ws_st, ws_seq, ws_ite, wp_ite, wp_mF, mV, mC, mOp, mUn, mNil, mCons, mCa, mB, mAnd, mOr, mNot, mAndV, mOrV, mNotV, mIf, mTru, mChain, sNext, sBreak, sCont, sAsg, sDrop, sRet, sRetN, sIf, sBad, sFor, iSeq, iRng, iSeqK, iItm, iZp, mkTup, mkLst, mIxO, mUnO, sOwn, mDict, sFrz, sApp, sPut, sPutL, mDictOf, mDisp1, mSrc, sUnp, mSli, mSo, mNo, mYes, wp_mLc, mFQ, List.map_cons, List.map_nil, List.nil_append, List.cons_append, List.length_cons, List.length_nil, Nat.reduceAdd, Nat.reduceSub, List.replicate, List.getElem?_cons_succ, List.getElem?_cons_zero, List.set_cons_zero, List.set_cons_succ, List.length_set, Option.some.injEq, exists_eq_left', exists_eq_left, clearE, wipeE, backE, List.all_cons, List.all_nil, List.foldl_cons, List.foldl_nil, isOwn, Bool.not_false, Bool.not_true, Bool.and_true, Bool.and_self, Bool.true_and, true_and, and_true, List.getD_eq_getElem?_getD, Option.getD_some, asB, gN, gN2, if_true, if_false, reduceIte, Bool.false_eq_true, not_true_eq_false, not_false_eq_true, forall_const, false_implies, implies_true, true_implies, eq_self, addT_i, subT_i, ltT_i, leT_i, gtT_i, geT_i, modT_i, fdivT_i, powT_i, mulT_i, min2T_i, max2T_i, negT_i, intT_i, Int.reduceLT, Int.reduceLE, decide_true, decide_false, decide_eq_true_eq, Bool.and_eq_true, Nat.reduceLeDiff, Nat.zero_le, Nat.le_refl, wp_mLc2, Bool.or_true, Bool.true_or, Bool.false_or, Bool.or_false, Option.bind_some, Option.map_some]
  unfold isT
  cases d with
  | dict ps =>
    cases ps with
    | nil => simp [tyN, isN, isI]
    | cons p ps =>
      obtain ⟨k, v⟩ := p
      cases k <;> simp [tyN, isN, isI] at h ⊢
  | scr ns => simp [tyN] at h
  | obj c fs => simp [tyN] at h
  | _ => simp [tyN, isN, isI]
def within (d : T) (lo hi : Int) : Bool := match d with
  | .int i => decide (lo ≤ i) && decide (i ≤ hi)
  | _ => false
theorem f_is_within {d : T} {lo hi : Int} (h : (tyN d).isSome = true) : F_is_within [d, .int lo, .int hi] = .ok (.bool (within d lo hi)) := by
  refine runF_ok ?_
  unfold m_is_within
  simp only [wp_ok, wp_ex, wp_bad, wp_bind, wp_ofO, wp_noX, ws_nx, ws_rt, ws_bk, ws_ct, ws_ex, ws_bad, ws_st, ws_seq, ws_ite, wp_ite, wp_mF, mV, mC, mOp, mUn, mNil, mCons, mCa, mB, mAnd, mOr, mNot, mAndV, mOrV, mNotV, mIf, mTru, mChain, sNext, sBreak, sCont, sAsg, sDrop, sRet, sRetN, sIf, sBad, sFor, iSeq, iRng, iSeqK, iItm, iZp, mkTup, mkLst, mIxO, mUnO, sOwn, mDict, sFrz, sApp, sPut, sPutL, mDictOf, mDisp1, mSrc, sUnp, mSli, mSo, mNo, mYes, wp_mLc, mFQ, List.map_cons, List.map_nil, List.nil_append, List.cons_append, List.length_cons, List.length_nil, Nat.reduceAdd, Nat.reduceSub, List.replicate, List.getElem?_cons_succ, List.getElem?_cons_zero, List.set_cons_zero, List.set_cons_succ, List.length_set, Option.some.injEq, exists_eq_left', exists_eq_left, clearE, wipeE, backE, List.all_cons, List.all_nil, List.foldl_cons, List.foldl_nil, isOwn, Bool.not_false, Bool.not_true, Bool.and_true, Bool.and_self, Bool.true_and, true_and, and_true, List.getD_eq_getElem?_getD, Option.getD_some, asB, gN, gN2, if_true, if_false, reduceIte, Bool.false_eq_true, not_true_eq_false, not_false_eq_true, forall_const, false_implies, implies_true, true_implies, eq_self, addT_i, subT_i, ltT_i, leT_i, gtT_i, geT_i, modT_i, fdivT_i, powT_i, mulT_i, min2T_i, max2T_i, negT_i, intT_i, Int.reduceLT, Int.reduceLE, decide_true, decide_false, decide_eq_true_eq, Bool.and_eq_true, Nat.reduceLeDiff, Nat.zero_le, Nat.le_refl, wp_mLc2, Bool.or_true, Bool.true_or, Bool.false_or, Bool.or_false, Option.bind_some, Option.map_some, f_is_integer h]
  cases d with
  | int i =>
    simp only [isI, leT_i, within]
    by_cases h1 : lo ≤ i <;> simp [h1, wp_ok, ws_rt, asB]
  | _ => simp [isI, within, wp_ok, ws_rt]
/-- the number of ways to choose few of many -/
def chF (n k : Int) : Int := if n < k then 0 else (List.range k.toNat).foldl (fun w (i : Nat) => w * (n - i) / (i + 1)) 1
theorem f_choices {n k : Int} (h1 : 0 ≤ n) (h2 : n ≤ 100000) (h3 : k ≤ 100000) (h4 : 0 ≤ k) : F_choices [.int n, .int k] = .ok (.int (chF n k)) := by
  refine runF_ok ?_
  unfold m_choices chF
  simp only [wp_ok, wp_ex, wp_bad, wp_bind, wp_ofO, wp_noX, ws_nx, ws_rt, ws_bk, ws_ct, ws_ex, ws_bad, ws_st, ws_seq, ws_ite, wp_ite, wp_mF, mV, mC, mOp, mUn, mNil, mCons, mCa, mB, mAnd, mOr, mNot, mAndV, mOrV, mNotV, mIf, mTru, mChain, sNext, sBreak, sCont, sAsg, sDrop, sRet, sRetN, sIf, sBad, sFor, iSeq, iRng, iSeqK, iItm, iZp, mkTup, mkLst, mIxO, mUnO, sOwn, mDict, sFrz, sApp, sPut, sPutL, mDictOf, mDisp1, mSrc, sUnp, mSli, mSo, mNo, mYes, wp_mLc, mFQ, List.map_cons, List.map_nil, List.nil_append, List.cons_append, List.length_cons, List.length_nil, Nat.reduceAdd, Nat.reduceSub, List.replicate, List.getElem?_cons_succ, List.getElem?_cons_zero, List.set_cons_zero, List.set_cons_succ, List.length_set, Option.some.injEq, exists_eq_left', exists_eq_left, clearE, wipeE, backE, List.all_cons, List.all_nil, List.foldl_cons, List.foldl_nil, isOwn, Bool.not_false, Bool.not_true, Bool.and_true, Bool.and_self, Bool.true_and, true_and, and_true, List.getD_eq_getElem?_getD, Option.getD_some, asB, gN, gN2, if_true, if_false, reduceIte, Bool.false_eq_true, not_true_eq_false, not_false_eq_true, forall_const, false_implies, implies_true, true_implies, eq_self, addT_i, subT_i, ltT_i, leT_i, gtT_i, geT_i, modT_i, fdivT_i, powT_i, mulT_i, min2T_i, max2T_i, negT_i, intT_i, Int.reduceLT, Int.reduceLE, decide_true, decide_false, decide_eq_true_eq, Bool.and_eq_true, Nat.reduceLeDiff, Nat.zero_le, Nat.le_refl, wp_mLc2, Bool.or_true, Bool.true_or, Bool.false_or, Bool.or_false, Option.bind_some, Option.map_some, rng1]
  refine ⟨fun h => by rw [if_pos h], fun h => ?_⟩
  rw [if_neg h, if_pos (by omega)]
  simp only [wp_ok, wp_ex, wp_bad, wp_bind, wp_ofO, wp_noX, ws_nx, ws_rt, ws_bk, ws_ct, ws_ex, ws_bad, ws_st, ws_seq, ws_ite, wp_ite, wp_mF, mV, mC, mOp, mUn, mNil, mCons, mCa, mB, mAnd, mOr, mNot, mAndV, mOrV, mNotV, mIf, mTru, mChain, sNext, sBreak, sCont, sAsg, sDrop, sRet, sRetN, sIf, sBad, sFor, iSeq, iRng, iSeqK, iItm, iZp, mkTup, mkLst, mIxO, mUnO, sOwn, mDict, sFrz, sApp, sPut, sPutL, mDictOf, mDisp1, mSrc, sUnp, mSli, mSo, mNo, mYes, wp_mLc, mFQ, List.map_cons, List.map_nil, List.nil_append, List.cons_append, List.length_cons, List.length_nil, Nat.reduceAdd, Nat.reduceSub, List.replicate, List.getElem?_cons_succ, List.getElem?_cons_zero, List.set_cons_zero, List.set_cons_succ, List.length_set, Option.some.injEq, exists_eq_left', exists_eq_left, clearE, wipeE, backE, List.all_cons, List.all_nil, List.foldl_cons, List.foldl_nil, isOwn, Bool.not_false, Bool.not_true, Bool.and_true, Bool.and_self, Bool.true_and, true_and, and_true, List.getD_eq_getElem?_getD, Option.getD_some, asB, gN, gN2, if_true, if_false, reduceIte, Bool.false_eq_true, not_true_eq_false, not_false_eq_true, forall_const, false_implies, implies_true, true_implies, eq_self, addT_i, subT_i, ltT_i, leT_i, gtT_i, geT_i, modT_i, fdivT_i, powT_i, mulT_i, min2T_i, max2T_i, negT_i, intT_i, Int.reduceLT, Int.reduceLE, decide_true, decide_false, decide_eq_true_eq, Bool.and_eq_true, Nat.reduceLeDiff, Nat.zero_le, Nat.le_refl, wp_mLc2, Bool.or_true, Bool.true_or, Bool.false_or, Bool.or_false, Option.bind_some, Option.map_some]
  refine ws_for (xs := List.range k.toNat) (fun i : Nat => T.int (0 + (i : Int))) (fun i e => ∃ s, e = [.val (.int n), .val (.int k), .val (.int ((List.range i).foldl (fun w (i : Nat) => w * (n - i) / (i + 1)) 1)), s]) ⟨_, rfl⟩ ?_ ?_
  · rintro i hi e ⟨s, rfl⟩
    rw [List.length_range] at hi
    refine ⟨_, rfl, ?_⟩
    simp only [wp_ok, wp_ex, wp_bad, wp_bind, wp_ofO, wp_noX, ws_nx, ws_rt, ws_bk, ws_ct, ws_ex, ws_bad, ws_st, ws_seq, ws_ite, wp_ite, wp_mF, mV, mC, mOp, mUn, mNil, mCons, mCa, mB, mAnd, mOr, mNot, mAndV, mOrV, mNotV, mIf, mTru, mChain, sNext, sBreak, sCont, sAsg, sDrop, sRet, sRetN, sIf, sBad, sFor, iSeq, iRng, iSeqK, iItm, iZp, mkTup, mkLst, mIxO, mUnO, sOwn, mDict, sFrz, sApp, sPut, sPutL, mDictOf, mDisp1, mSrc, sUnp, mSli, mSo, mNo, mYes, wp_mLc, mFQ, List.map_cons, List.map_nil, List.nil_append, List.cons_append, List.length_cons, List.length_nil, Nat.reduceAdd, Nat.reduceSub, List.replicate, List.getElem?_cons_succ, List.getElem?_cons_zero, List.set_cons_zero, List.set_cons_succ, List.length_set, Option.some.injEq, exists_eq_left', exists_eq_left, clearE, wipeE, backE, List.all_cons, List.all_nil, List.foldl_cons, List.foldl_nil, isOwn, Bool.not_false, Bool.not_true, Bool.and_true, Bool.and_self, Bool.true_and, true_and, and_true, List.getD_eq_getElem?_getD, Option.getD_some, asB, gN, gN2, if_true, if_false, reduceIte, Bool.false_eq_true, not_true_eq_false, not_false_eq_true, forall_const, false_implies, implies_true, true_implies, eq_self, addT_i, subT_i, ltT_i, leT_i, gtT_i, geT_i, modT_i, fdivT_i, powT_i, mulT_i, min2T_i, max2T_i, negT_i, intT_i, Int.reduceLT, Int.reduceLE, decide_true, decide_false, decide_eq_true_eq, Bool.and_eq_true, Nat.reduceLeDiff, Nat.zero_le, Nat.le_refl, wp_mLc2, Bool.or_true, Bool.true_or, Bool.false_or, Bool.or_false, Option.bind_some, Option.map_some, List.getElem_range, Int.zero_add]
    rw [show bigB (n - (i : Int)) = true from bigB_of (by omega) (by omega)]
    simp only [wp_ok, wp_ex, wp_bad, wp_bind, wp_ofO, wp_noX, ws_nx, ws_rt, ws_bk, ws_ct, ws_ex, ws_bad, ws_st, ws_seq, ws_ite, wp_ite, wp_mF, mV, mC, mOp, mUn, mNil, mCons, mCa, mB, mAnd, mOr, mNot, mAndV, mOrV, mNotV, mIf, mTru, mChain, sNext, sBreak, sCont, sAsg, sDrop, sRet, sRetN, sIf, sBad, sFor, iSeq, iRng, iSeqK, iItm, iZp, mkTup, mkLst, mIxO, mUnO, sOwn, mDict, sFrz, sApp, sPut, sPutL, mDictOf, mDisp1, mSrc, sUnp, mSli, mSo, mNo, mYes, wp_mLc, mFQ, List.map_cons, List.map_nil, List.nil_append, List.cons_append, List.length_cons, List.length_nil, Nat.reduceAdd, Nat.reduceSub, List.replicate, List.getElem?_cons_succ, List.getElem?_cons_zero, List.set_cons_zero, List.set_cons_succ, List.length_set, Option.some.injEq, exists_eq_left', exists_eq_left, clearE, wipeE, backE, List.all_cons, List.all_nil, List.foldl_cons, List.foldl_nil, isOwn, Bool.not_false, Bool.not_true, Bool.and_true, Bool.and_self, Bool.true_and, true_and, and_true, List.getD_eq_getElem?_getD, Option.getD_some, asB, gN, gN2, if_true, if_false, reduceIte, Bool.false_eq_true, not_true_eq_false, not_false_eq_true, forall_const, false_implies, implies_true, true_implies, eq_self, addT_i, subT_i, ltT_i, leT_i, gtT_i, geT_i, modT_i, fdivT_i, powT_i, mulT_i, min2T_i, max2T_i, negT_i, intT_i, Int.reduceLT, Int.reduceLE, decide_true, decide_false, decide_eq_true_eq, Bool.and_eq_true, Nat.reduceLeDiff, Nat.zero_le, Nat.le_refl, wp_mLc2, Bool.or_true, Bool.true_or, Bool.false_or, Bool.or_false, Option.bind_some, Option.map_some]
    rw [if_pos (by omega)]
    simp only [wp_ok, wp_ex, wp_bad, wp_bind, wp_ofO, wp_noX, ws_nx, ws_rt, ws_bk, ws_ct, ws_ex, ws_bad, ws_st, ws_seq, ws_ite, wp_ite, wp_mF, mV, mC, mOp, mUn, mNil, mCons, mCa, mB, mAnd, mOr, mNot, mAndV, mOrV, mNotV, mIf, mTru, mChain, sNext, sBreak, sCont, sAsg, sDrop, sRet, sRetN, sIf, sBad, sFor, iSeq, iRng, iSeqK, iItm, iZp, mkTup, mkLst, mIxO, mUnO, sOwn, mDict, sFrz, sApp, sPut, sPutL, mDictOf, mDisp1, mSrc, sUnp, mSli, mSo, mNo, mYes, wp_mLc, mFQ, List.map_cons, List.map_nil, List.nil_append, List.cons_append, List.length_cons, List.length_nil, Nat.reduceAdd, Nat.reduceSub, List.replicate, List.getElem?_cons_succ, List.getElem?_cons_zero, List.set_cons_zero, List.set_cons_succ, List.length_set, Option.some.injEq, exists_eq_left', exists_eq_left, clearE, wipeE, backE, List.all_cons, List.all_nil, List.foldl_cons, List.foldl_nil, isOwn, Bool.not_false, Bool.not_true, Bool.and_true, Bool.and_self, Bool.true_and, true_and, and_true, List.getD_eq_getElem?_getD, Option.getD_some, asB, gN, gN2, if_true, if_false, reduceIte, Bool.false_eq_true, not_true_eq_false, not_false_eq_true, forall_const, false_implies, implies_true, true_implies, eq_self, addT_i, subT_i, ltT_i, leT_i, gtT_i, geT_i, modT_i, fdivT_i, powT_i, mulT_i, min2T_i, max2T_i, negT_i, intT_i, Int.reduceLT, Int.reduceLE, decide_true, decide_false, decide_eq_true_eq, Bool.and_eq_true, Nat.reduceLeDiff, Nat.zero_le, Nat.le_refl, wp_mLc2, Bool.or_true, Bool.true_or, Bool.false_or, Bool.or_false, Option.bind_some, Option.map_some]
    exact ⟨_, by rw [List.range_succ, List.foldl_append]; rfl⟩
  · rintro e ⟨s, rfl⟩
    rw [List.length_range]
    simp only [wp_ok, wp_ex, wp_bad, wp_bind, wp_ofO, wp_noX, ws_nx, ws_rt, ws_bk, ws_ct, ws_ex, ws_bad, ws_st, ws_seq, ws_ite, wp_ite, wp_mF, mV, mC, mOp, mUn, mNil, mCons, mCa, mB, mAnd, mOr, mNot, mAndV, mOrV, mNotV, mIf, mTru, mChain, sNext, sBreak, sCont, sAsg, sDrop, sRet, sRetN, sIf, sBad, sFor, iSeq, iRng, iSeqK, iItm, iZp, mkTup, mkLst, mIxO, mUnO, sOwn, mDict, sFrz, sApp, sPut, sPutL, mDictOf, mDisp1, mSrc, sUnp, mSli, mSo, mNo, mYes, wp_mLc, mFQ, List.map_cons, List.map_nil, List.nil_append, List.cons_append, List.length_cons, List.length_nil, Nat.reduceAdd, Nat.reduceSub, List.replicate, List.getElem?_cons_succ, List.getElem?_cons_zero, List.set_cons_zero, List.set_cons_succ, List.length_set, Option.some.injEq, exists_eq_left', exists_eq_left, clearE, wipeE, backE, List.all_cons, List.all_nil, List.foldl_cons, List.foldl_nil, isOwn, Bool.not_false, Bool.not_true, Bool.and_true, Bool.and_self, Bool.true_and, true_and, and_true, List.getD_eq_getElem?_getD, Option.getD_some, asB, gN, gN2, if_true, if_false, reduceIte, Bool.false_eq_true, not_true_eq_false, not_false_eq_true, forall_const, false_implies, implies_true, true_implies, eq_self, addT_i, subT_i, ltT_i, leT_i, gtT_i, geT_i, modT_i, fdivT_i, powT_i, mulT_i, min2T_i, max2T_i, negT_i, intT_i, Int.reduceLT, Int.reduceLE, decide_true, decide_false, decide_eq_true_eq, Bool.and_eq_true, Nat.reduceLeDiff, Nat.zero_le, Nat.le_refl, wp_mLc2, Bool.or_true, Bool.true_or, Bool.false_or, Bool.or_false, Option.bind_some, Option.map_some]
end Pl

end
section

/-! PK2: sizes, games, settings -/
namespace Pl
open PySem PySem.Spec PyProof.Rows L2 Evl TD Mi
local instance : HasT := ⟨[]⟩
theorem eqP_int {i j : Int} : eqP (.int i) (.int j) = (i == j) := rfl
theorem shp_int {i : Int} : shp (.int i) = true := rfl
theorem eqT_i {i j : Int} : eqT (.int i) (.int j) = some (.bool (i == j)) := rfl
theorem neT_i {i j : Int} : neT (.int i) (.int j) = some (.bool (!(i == j))) := rfl
structure Sz (ss : List Int) : Prop where
  ne : ss ≠ []
  b : ∀ s ∈ ss, 1 ≤ s ∧ s ≤ 10
  s : ss.sum ≤ 10
/-- a list or a tuple of ints -/
def SeqZ (ns : List Int) (d : T) : Prop := d = lstZ ns ∨ d = tupZ ns
theorem f_is_list {ns : List Int} {d : T} (h : SeqZ ns d) : F_is_list [d] = .ok (.bool true) := by
  refine runF_ok ?_
  unfold m_is_list
  simp only [wp_ok, wp_ex, wp_bad, wp_bind, wp_ofO, wp_noX, ws_nx, ws_rt, ws_bk, ws_ct, ws_ex, ws_bad, ws_st, ws_seq, ws_ite, wp_ite, wp_mF, mV, mC, mOp, mUn, mNil, mCons, mCa, mB, mAnd, mOr, mNot, mAndV, mOrV, mNotV, mIf, mTru, mChain, sNext, sBreak, sCont, sAsg, sDrop, sRet, sRetN, sIf, sBad, sFor, iSeq, iRng, iSeqK, iItm, iZp, mkTup, mkLst, mIxO, mUnO, sOwn, mDict, sFrz, sApp, sPut, sPutL, mDictOf, mDisp1, mSrc, sUnp, mSli, mSo, mNo, mYes, wp_mLc, mFQ, List.map_cons, List.map_nil, List.nil_append, List.cons_append, List.length_cons, List.length_nil, Nat.reduceAdd, Nat.reduceSub, List.replicate, List.getElem?_cons_succ, List.getElem?_cons_zero, List.set_cons_zero, List.set_cons_succ, List.length_set, Option.some.injEq, exists_eq_left', exists_eq_left, clearE, wipeE, backE, List.all_cons, List.all_nil, List.foldl_cons, List.foldl_nil, isOwn, Bool.not_false, Bool.not_true, Bool.and_true, Bool.and_self, Bool.true_and, true_and, and_true, List.getD_eq_getElem?_getD, Option.getD_some, asB, gN, gN2, if_true, if_false, reduceIte, Bool.false_eq_true, not_true_eq_false, not_false_eq_true, forall_const, false_implies, implies_true, true_implies, eq_self, addT_i, subT_i, ltT_i, leT_i, gtT_i, geT_i, modT_i, fdivT_i, powT_i, mulT_i, min2T_i, max2T_i, negT_i, intT_i, Int.reduceLT, Int.reduceLE, decide_true, decide_false, decide_eq_true_eq, Bool.and_eq_true, Nat.reduceLeDiff, Nat.zero_le, Nat.le_refl, wp_mLc2, Bool.or_true, Bool.true_or, Bool.false_or, Bool.or_false, Option.bind_some, Option.map_some]
  rcases h with rfl | rfl <;> simp [isTs, tyN, isN]
theorem lenA_seq {ns : List Int} {d : T} (h : SeqZ ns d) : lenA d = some (.int ns.length) := by
  rcases h with rfl | rfl <;> simp [lenA, lenT]
theorem sumT_seq {ns : List Int} {d : T} (h : SeqZ ns d) : sumT d = some (.int ns.sum) := by
  rcases h with rfl | rfl <;> simp [sumT, intsT_zs]
theorem keysD_seq {ns : List Int} {d : T} (h : SeqZ ns d) : keysD d = some (zs ns) := by
  rcases h with rfl | rfl <;> simp [keysD]
theorem allT_of {α : Type} (f : α → Bool) (xs : List α) : allT (.list (xs.map fun x => T.bool (f x))) = some (.bool (xs.all f)) := by
  unfold allT
  rw [show (xs.map fun x => T.bool (f x)) = (xs.map f).map T.bool by rw [List.map_map]; rfl]
  simp only [boolsT_bs, Option.map_some]
  rw [List.all_map]
  rfl
theorem anyT_of {α : Type} (f : α → Bool) (xs : List α) : anyT (.list (xs.map fun x => T.bool (f x))) = some (.bool (xs.any f)) := by
  unfold anyT
  rw [show (xs.map fun x => T.bool (f x)) = (xs.map f).map T.bool by rw [List.map_map]; rfl]
  simp only [boolsT_bs, Option.map_some]
  rw [List.any_map]
  rfl
theorem filter_yes {α : Type} (xs : List α) : xs.filter (fun _ => true) = xs := List.filter_eq_self.mpr fun _ _ => rfl
theorem Sz.pos {ss : List Int} (h : ∀ s ∈ ss, 1 ≤ s ∧ s ≤ 10) : (ss.length : Int) ≤ ss.sum := by
  induction ss with
  | nil => simp
  | cons s ss ih =>
    have := ih fun x hx => h x (List.mem_cons_of_mem _ hx)
    have := (h s List.mem_cons_self).1
    simp only [List.length_cons, List.sum_cons]
    omega
theorem Sz.len {ss : List Int} (h : Sz ss) : ss.length ≤ 10 := by
  have := Sz.pos h.b
  have := h.s
  omega
theorem Sz.len0 {ss : List Int} (h : Sz ss) : 1 ≤ ss.length := by
  rcases ss with _ | ⟨s, ss⟩
  · exact absurd rfl h.ne
  · simp
theorem Sz.sum1 {ss : List Int} (h : Sz ss) : 1 ≤ ss.sum := by
  have := Sz.pos h.b
  have := h.len0
  omega
theorem f_are_sizes {ss : List Int} {d : T} (h : SeqZ ss d) (z : Sz ss) : F_are_sizes [d] = .ok (.bool true) := by
  refine runF_ok ?_
  unfold m_are_sizes
  have l0 := z.len0
  have l1 := z.len
  have hne : ((ss.length : Int) == 0) = false := by
    rw [beq_eq_false_iff_ne]; omega
  simp only [wp_ok, wp_ex, wp_bad, wp_bind, wp_ofO, wp_noX, ws_nx, ws_rt, ws_bk, ws_ct, ws_ex, ws_bad, ws_st, ws_seq, ws_ite, wp_ite, wp_mF, mV, mC, mOp, mUn, mNil, mCons, mCa, mB, mAnd, mOr, mNot, mAndV, mOrV, mNotV, mIf, mTru, mChain, sNext, sBreak, sCont, sAsg, sDrop, sRet, sRetN, sIf, sBad, sFor, iSeq, iRng, iSeqK, iItm, iZp, mkTup, mkLst, mIxO, mUnO, sOwn, mDict, sFrz, sApp, sPut, sPutL, mDictOf, mDisp1, mSrc, sUnp, mSli, mSo, mNo, mYes, wp_mLc, mFQ, List.map_cons, List.map_nil, List.nil_append, List.cons_append, List.length_cons, List.length_nil, Nat.reduceAdd, Nat.reduceSub, List.replicate, List.getElem?_cons_succ, List.getElem?_cons_zero, List.set_cons_zero, List.set_cons_succ, List.length_set, Option.some.injEq, exists_eq_left', exists_eq_left, clearE, wipeE, backE, List.all_cons, List.all_nil, List.foldl_cons, List.foldl_nil, isOwn, Bool.not_false, Bool.not_true, Bool.and_true, Bool.and_self, Bool.true_and, true_and, and_true, List.getD_eq_getElem?_getD, Option.getD_some, asB, gN, gN2, if_true, if_false, reduceIte, Bool.false_eq_true, not_true_eq_false, not_false_eq_true, forall_const, false_implies, implies_true, true_implies, eq_self, addT_i, subT_i, ltT_i, leT_i, gtT_i, geT_i, modT_i, fdivT_i, powT_i, mulT_i, min2T_i, max2T_i, negT_i, intT_i, Int.reduceLT, Int.reduceLE, decide_true, decide_false, decide_eq_true_eq, Bool.and_eq_true, Nat.reduceLeDiff, Nat.zero_le, Nat.le_refl, wp_mLc2, Bool.or_true, Bool.true_or, Bool.false_or, Bool.or_false, Option.bind_some, Option.map_some, f_is_list h, lenA_seq h, keysD_seq h, sumT_seq h, tru, eqT_i, hne]
  refine wp_lc (xs := ss) T.int (fun _ => true) (fun s => T.bool (within (.int s) 1 10)) ?_ ?_
  · intro x hx
    refine ⟨_, rfl, ?_⟩
    simp only [wp_ok, wp_ex, wp_bad, wp_bind, wp_ofO, wp_noX, ws_nx, ws_rt, ws_bk, ws_ct, ws_ex, ws_bad, ws_st, ws_seq, ws_ite, wp_ite, wp_mF, mV, mC, mOp, mUn, mNil, mCons, mCa, mB, mAnd, mOr, mNot, mAndV, mOrV, mNotV, mIf, mTru, mChain, sNext, sBreak, sCont, sAsg, sDrop, sRet, sRetN, sIf, sBad, sFor, iSeq, iRng, iSeqK, iItm, iZp, mkTup, mkLst, mIxO, mUnO, sOwn, mDict, sFrz, sApp, sPut, sPutL, mDictOf, mDisp1, mSrc, sUnp, mSli, mSo, mNo, mYes, wp_mLc, mFQ, List.map_cons, List.map_nil, List.nil_append, List.cons_append, List.length_cons, List.length_nil, Nat.reduceAdd, Nat.reduceSub, List.replicate, List.getElem?_cons_succ, List.getElem?_cons_zero, List.set_cons_zero, List.set_cons_succ, List.length_set, Option.some.injEq, exists_eq_left', exists_eq_left, clearE, wipeE, backE, List.all_cons, List.all_nil, List.foldl_cons, List.foldl_nil, isOwn, Bool.not_false, Bool.not_true, Bool.and_true, Bool.and_self, Bool.true_and, true_and, and_true, List.getD_eq_getElem?_getD, Option.getD_some, asB, gN, gN2, if_true, if_false, reduceIte, Bool.false_eq_true, not_true_eq_false, not_false_eq_true, forall_const, false_implies, implies_true, true_implies, eq_self, addT_i, subT_i, ltT_i, leT_i, gtT_i, geT_i, modT_i, fdivT_i, powT_i, mulT_i, min2T_i, max2T_i, negT_i, intT_i, Int.reduceLT, Int.reduceLE, decide_true, decide_false, decide_eq_true_eq, Bool.and_eq_true, Nat.reduceLeDiff, Nat.zero_le, Nat.le_refl, wp_mLc2, Bool.or_true, Bool.true_or, Bool.false_or, Bool.or_false, Option.bind_some, Option.map_some, f_is_within (d := T.int x) rfl]
  · have hall : (ss.all fun x => within (T.int x) 1 10) = true := by
      rw [List.all_eq_true]
      intro x hx
      have := z.b x hx
      simp only [within, Bool.and_eq_true, decide_eq_true_eq]
      exact this
    simp only [wp_ok, wp_ex, wp_bad, wp_bind, wp_ofO, wp_noX, ws_nx, ws_rt, ws_bk, ws_ct, ws_ex, ws_bad, ws_st, ws_seq, ws_ite, wp_ite, wp_mF, mV, mC, mOp, mUn, mNil, mCons, mCa, mB, mAnd, mOr, mNot, mAndV, mOrV, mNotV, mIf, mTru, mChain, sNext, sBreak, sCont, sAsg, sDrop, sRet, sRetN, sIf, sBad, sFor, iSeq, iRng, iSeqK, iItm, iZp, mkTup, mkLst, mIxO, mUnO, sOwn, mDict, sFrz, sApp, sPut, sPutL, mDictOf, mDisp1, mSrc, sUnp, mSli, mSo, mNo, mYes, wp_mLc, mFQ, List.map_cons, List.map_nil, List.nil_append, List.cons_append, List.length_cons, List.length_nil, Nat.reduceAdd, Nat.reduceSub, List.replicate, List.getElem?_cons_succ, List.getElem?_cons_zero, List.set_cons_zero, List.set_cons_succ, List.length_set, Option.some.injEq, exists_eq_left', exists_eq_left, clearE, wipeE, backE, List.all_cons, List.all_nil, List.foldl_cons, List.foldl_nil, isOwn, Bool.not_false, Bool.not_true, Bool.and_true, Bool.and_self, Bool.true_and, true_and, and_true, List.getD_eq_getElem?_getD, Option.getD_some, asB, gN, gN2, if_true, if_false, reduceIte, Bool.false_eq_true, not_true_eq_false, not_false_eq_true, forall_const, false_implies, implies_true, true_implies, eq_self, addT_i, subT_i, ltT_i, leT_i, gtT_i, geT_i, modT_i, fdivT_i, powT_i, mulT_i, min2T_i, max2T_i, negT_i, intT_i, Int.reduceLT, Int.reduceLE, decide_true, decide_false, decide_eq_true_eq, Bool.and_eq_true, Nat.reduceLeDiff, Nat.zero_le, Nat.le_refl, wp_mLc2, Bool.or_true, Bool.true_or, Bool.false_or, Bool.or_false, Option.bind_some, Option.map_some, filter_yes, List.length_map, allT_of, hall, sumT_seq h, decide_eq_true z.s]
    omega
/-! games -/
def gKeys (gs : List (Int × Int)) : List Int := gs.map (·.1)
def gLook (gs : List (Int × Int)) (k : Int) : Option Int := (gs.find? fun p => decide (p.1 = k)).map (·.2)
theorem flat_d (gs : List (Int × Int)) : flatKs (gs.map fun p => (T.int p.1, T.int p.2)) = true := by
  cases gs <;> rfl
theorem lookK_d (gs : List (Int × Int)) (k : Int) : lookK (gs.map fun p => (T.int p.1, T.int p.2)) (.inl k) = (gLook gs k).map T.int := by
  unfold lookK gLook
  induction gs with
  | nil => rfl
  | cons p gs ih =>
    simp only [List.map_cons, List.find?_cons, keyT]
    by_cases h : p.1 = k
    · simp [h]
    · have : ¬ (some (Sum.inl p.1) : Option Key) = some (Sum.inl k) := fun z => h (by cases z; rfl)
      simp only [h, this, decide_false]
      exact ih
theorem lookD_d (gs : List (Int × Int)) (k : Int) : lookD (gs.map fun p => (T.int p.1, T.int p.2)) (.int k) = some ((gLook gs k).map T.int) := by
  unfold lookD
  simp only [keyT, flat_d, if_true, lookK_d]
structure Gm (n : Int) (gs : List (Int × Int)) : Prop where
  ne : gs ≠ []
  len : gs.length ≤ 2
  nd : (gKeys gs).Nodup
  k : ∀ p ∈ gs, 1 ≤ p.1 ∧ p.1 ≤ 4 ∧ p.1 ≤ n
  v : ∀ p ∈ gs, 1 ≤ p.2 ∧ p.2 ≤ 3
theorem lenA_d (gs : List (Int × Int)) : lenA (dctZ gs) = some (.int gs.length) := by
  simp only [lenA, flat_d, if_true, List.length_map]
theorem tyN_d (gs : List (Int × Int)) : tyN (dctZ gs) = some "dict" := by
  cases gs <;> rfl
theorem itemsD_d (gs : List (Int × Int)) : itemsD (dctZ gs) = some (gs.map fun p => .tuple [.int p.1, .int p.2]) := by
  simp only [itemsD, flat_d, if_true, List.map_map]
  rfl
theorem keysD_d (gs : List (Int × Int)) : keysD (dctZ gs) = some (zs (gKeys gs)) := by
  simp only [keysD, flat_d, if_true, List.map_map, gKeys, zs]
  rfl
theorem itT_d (gs : List (Int × Int)) (k : Int) : itT (dctZ gs) (.int k) = (gLook gs k).map T.int := by
  simp only [itT, lookD_d]
  rfl
theorem hasT_d (gs : List (Int × Int)) (k : Int) : hasT false (.int k) (dctZ gs) = some (.bool (gLook gs k).isSome) := by
  simp only [hasT, lookD_d, Option.map_some]
  cases gLook gs k <;> rfl
theorem gLook_mem {gs : List (Int × Int)} (nd : (gKeys gs).Nodup) {p : Int × Int} (h : p ∈ gs) : gLook gs p.1 = some p.2 := by
  induction gs with
  | nil => cases h
  | cons q gs ih =>
    unfold gLook
    rw [List.find?_cons]
    have nd' : q.1 ∉ gKeys gs ∧ (gKeys gs).Nodup := List.nodup_cons.mp nd
    rcases List.mem_cons.mp h with rfl | h
    · simp
    · have : q.1 ≠ p.1 := fun z => nd'.1 (by rw [z]; exact List.mem_map_of_mem h)
      simp only [this, decide_false]
      exact ih nd'.2 h
theorem gLook_some {gs : List (Int × Int)} {k v : Int} (h : gLook gs k = some v) : (k, v) ∈ gs := by
  unfold gLook at h
  cases q : gs.find? fun p => decide (p.1 = k) with
  | none => rw [q] at h; cases h
  | some p =>
    rw [q] at h
    cases h
    have h1 := List.mem_of_find?_eq_some q
    have h2 := List.find?_some q
    have h3 : p.1 = k := by simpa using h2
    rw [← h3]
    exact h1
theorem f_are_games {n : Int} {gs : List (Int × Int)} (hn : 0 ≤ n) (z : Gm n gs) : F_are_games [.int n, dctZ gs] = .ok (.bool true) := by
  refine runF_ok ?_
  unfold m_are_games
  have l0 : 1 ≤ gs.length := by
    rcases gs with _ | ⟨p, gs⟩
    · exact absurd rfl z.ne
    · simp
  have l1 := z.len
  have hw : within (T.int (gs.length : Int)) 1 2 = true := by
    simp only [within, Bool.and_eq_true, decide_eq_true_eq]; omega
  simp only [wp_ok, wp_ex, wp_bad, wp_bind, wp_ofO, wp_noX, ws_nx, ws_rt, ws_bk, ws_ct, ws_ex, ws_bad, ws_st, ws_seq, ws_ite, wp_ite, wp_mF, mV, mC, mOp, mUn, mNil, mCons, mCa, mB, mAnd, mOr, mNot, mAndV, mOrV, mNotV, mIf, mTru, mChain, sNext, sBreak, sCont, sAsg, sDrop, sRet, sRetN, sIf, sBad, sFor, iSeq, iRng, iSeqK, iItm, iZp, mkTup, mkLst, mIxO, mUnO, sOwn, mDict, sFrz, sApp, sPut, sPutL, mDictOf, mDisp1, mSrc, sUnp, mSli, mSo, mNo, mYes, wp_mLc, mFQ, List.map_cons, List.map_nil, List.nil_append, List.cons_append, List.length_cons, List.length_nil, Nat.reduceAdd, Nat.reduceSub, List.replicate, List.getElem?_cons_succ, List.getElem?_cons_zero, List.set_cons_zero, List.set_cons_succ, List.length_set, Option.some.injEq, exists_eq_left', exists_eq_left, clearE, wipeE, backE, List.all_cons, List.all_nil, List.foldl_cons, List.foldl_nil, isOwn, Bool.not_false, Bool.not_true, Bool.and_true, Bool.and_self, Bool.true_and, true_and, and_true, List.getD_eq_getElem?_getD, Option.getD_some, asB, gN, gN2, if_true, if_false, reduceIte, Bool.false_eq_true, not_true_eq_false, not_false_eq_true, forall_const, false_implies, implies_true, true_implies, eq_self, addT_i, subT_i, ltT_i, leT_i, gtT_i, geT_i, modT_i, fdivT_i, powT_i, mulT_i, min2T_i, max2T_i, negT_i, intT_i, Int.reduceLT, Int.reduceLE, decide_true, decide_false, decide_eq_true_eq, Bool.and_eq_true, Nat.reduceLeDiff, Nat.zero_le, Nat.le_refl, wp_mLc2, Bool.or_true, Bool.true_or, Bool.false_or, Bool.or_false, Option.bind_some, Option.map_some, lenA_d, isT, tyN_d, isN, f_is_within (d := T.int (gs.length : Int)) rfl, hw, tru, itemsD_d, beq_self_eq_true]
  refine wp_lc (xs := gs) (fun p => .tuple [.int p.1, .int p.2]) (fun _ => true) (fun p => T.bool true) ?_ ?_
  · intro x hx
    refine ⟨_, rfl, ?_⟩
    have hk := z.k x hx
    have hv := z.v x hx
    have w1 : within (T.int x.1) 1 (if n < 4 then n else 4) = true := by
      simp only [within, Bool.and_eq_true, decide_eq_true_eq]
      split <;> omega
    have w2 : within (T.int x.2) 1 3 = true := by
      simp only [within, Bool.and_eq_true, decide_eq_true_eq]
      omega
    simp only [wp_ok, wp_ex, wp_bad, wp_bind, wp_ofO, wp_noX, ws_nx, ws_rt, ws_bk, ws_ct, ws_ex, ws_bad, ws_st, ws_seq, ws_ite, wp_ite, wp_mF, mV, mC, mOp, mUn, mNil, mCons, mCa, mB, mAnd, mOr, mNot, mAndV, mOrV, mNotV, mIf, mTru, mChain, sNext, sBreak, sCont, sAsg, sDrop, sRet, sRetN, sIf, sBad, sFor, iSeq, iRng, iSeqK, iItm, iZp, mkTup, mkLst, mIxO, mUnO, sOwn, mDict, sFrz, sApp, sPut, sPutL, mDictOf, mDisp1, mSrc, sUnp, mSli, mSo, mNo, mYes, wp_mLc, mFQ, List.map_cons, List.map_nil, List.nil_append, List.cons_append, List.length_cons, List.length_nil, Nat.reduceAdd, Nat.reduceSub, List.replicate, List.getElem?_cons_succ, List.getElem?_cons_zero, List.set_cons_zero, List.set_cons_succ, List.length_set, Option.some.injEq, exists_eq_left', exists_eq_left, clearE, wipeE, backE, List.all_cons, List.all_nil, List.foldl_cons, List.foldl_nil, isOwn, Bool.not_false, Bool.not_true, Bool.and_true, Bool.and_self, Bool.true_and, true_and, and_true, List.getD_eq_getElem?_getD, Option.getD_some, asB, gN, gN2, if_true, if_false, reduceIte, Bool.false_eq_true, not_true_eq_false, not_false_eq_true, forall_const, false_implies, implies_true, true_implies, eq_self, addT_i, subT_i, ltT_i, leT_i, gtT_i, geT_i, modT_i, fdivT_i, powT_i, mulT_i, min2T_i, max2T_i, negT_i, intT_i, Int.reduceLT, Int.reduceLE, decide_true, decide_false, decide_eq_true_eq, Bool.and_eq_true, Nat.reduceLeDiff, Nat.zero_le, Nat.le_refl, wp_mLc2, Bool.or_true, Bool.true_or, Bool.false_or, Bool.or_false, Option.bind_some, Option.map_some, f_is_within (d := T.int x.1) rfl, f_is_within (d := T.int x.2) rfl, w1, w2]
  · simp only [wp_ok, wp_ex, wp_bad, wp_bind, wp_ofO, wp_noX, ws_nx, ws_rt, ws_bk, ws_ct, ws_ex, ws_bad, ws_st, ws_seq, ws_ite, wp_ite, wp_mF, mV, mC, mOp, mUn, mNil, mCons, mCa, mB, mAnd, mOr, mNot, mAndV, mOrV, mNotV, mIf, mTru, mChain, sNext, sBreak, sCont, sAsg, sDrop, sRet, sRetN, sIf, sBad, sFor, iSeq, iRng, iSeqK, iItm, iZp, mkTup, mkLst, mIxO, mUnO, sOwn, mDict, sFrz, sApp, sPut, sPutL, mDictOf, mDisp1, mSrc, sUnp, mSli, mSo, mNo, mYes, wp_mLc, mFQ, List.map_cons, List.map_nil, List.nil_append, List.cons_append, List.length_cons, List.length_nil, Nat.reduceAdd, Nat.reduceSub, List.replicate, List.getElem?_cons_succ, List.getElem?_cons_zero, List.set_cons_zero, List.set_cons_succ, List.length_set, Option.some.injEq, exists_eq_left', exists_eq_left, clearE, wipeE, backE, List.all_cons, List.all_nil, List.foldl_cons, List.foldl_nil, isOwn, Bool.not_false, Bool.not_true, Bool.and_true, Bool.and_self, Bool.true_and, true_and, and_true, List.getD_eq_getElem?_getD, Option.getD_some, asB, gN, gN2, if_true, if_false, reduceIte, Bool.false_eq_true, not_true_eq_false, not_false_eq_true, forall_const, false_implies, implies_true, true_implies, eq_self, addT_i, subT_i, ltT_i, leT_i, gtT_i, geT_i, modT_i, fdivT_i, powT_i, mulT_i, min2T_i, max2T_i, negT_i, intT_i, Int.reduceLT, Int.reduceLE, decide_true, decide_false, decide_eq_true_eq, Bool.and_eq_true, Nat.reduceLeDiff, Nat.zero_le, Nat.le_refl, wp_mLc2, Bool.or_true, Bool.true_or, Bool.false_or, Bool.or_false, Option.bind_some, Option.map_some, filter_yes, List.length_map, allT_of]
    refine ⟨by omega, ?_⟩
    rw [List.all_eq_true.mpr fun _ _ => rfl]
/-- the number of all teams -/
def tot (n : Int) (gs : List (Int × Int)) : Int := ((gKeys gs).map fun k => (gLook gs k).getD 0 * chF n k).sum
theorem f_total_of {n : Int} {gs : List (Int × Int)} (h0 : 0 ≤ n) (h1 : n ≤ 10) (z : Gm n gs) : F_total_of [.int n, dctZ gs] = .ok (.int (tot n gs)) := by
  refine runF_ok ?_
  unfold m_total_of
  have l1 := z.len
  simp only [wp_ok, wp_ex, wp_bad, wp_bind, wp_ofO, wp_noX, ws_nx, ws_rt, ws_bk, ws_ct, ws_ex, ws_bad, ws_st, ws_seq, ws_ite, wp_ite, wp_mF, mV, mC, mOp, mUn, mNil, mCons, mCa, mB, mAnd, mOr, mNot, mAndV, mOrV, mNotV, mIf, mTru, mChain, sNext, sBreak, sCont, sAsg, sDrop, sRet, sRetN, sIf, sBad, sFor, iSeq, iRng, iSeqK, iItm, iZp, mkTup, mkLst, mIxO, mUnO, sOwn, mDict, sFrz, sApp, sPut, sPutL, mDictOf, mDisp1, mSrc, sUnp, mSli, mSo, mNo, mYes, wp_mLc, mFQ, List.map_cons, List.map_nil, List.nil_append, List.cons_append, List.length_cons, List.length_nil, Nat.reduceAdd, Nat.reduceSub, List.replicate, List.getElem?_cons_succ, List.getElem?_cons_zero, List.set_cons_zero, List.set_cons_succ, List.length_set, Option.some.injEq, exists_eq_left', exists_eq_left, clearE, wipeE, backE, List.all_cons, List.all_nil, List.foldl_cons, List.foldl_nil, isOwn, Bool.not_false, Bool.not_true, Bool.and_true, Bool.and_self, Bool.true_and, true_and, and_true, List.getD_eq_getElem?_getD, Option.getD_some, asB, gN, gN2, if_true, if_false, reduceIte, Bool.false_eq_true, not_true_eq_false, not_false_eq_true, forall_const, false_implies, implies_true, true_implies, eq_self, addT_i, subT_i, ltT_i, leT_i, gtT_i, geT_i, modT_i, fdivT_i, powT_i, mulT_i, min2T_i, max2T_i, negT_i, intT_i, Int.reduceLT, Int.reduceLE, decide_true, decide_false, decide_eq_true_eq, Bool.and_eq_true, Nat.reduceLeDiff, Nat.zero_le, Nat.le_refl, wp_mLc2, Bool.or_true, Bool.true_or, Bool.false_or, Bool.or_false, Option.bind_some, Option.map_some, keysD_d]
  refine wp_lc (xs := gKeys gs) T.int (fun _ => true) (fun k => T.int ((gLook gs k).getD 0 * chF n k)) ?_ ?_
  · intro x hx
    refine ⟨_, rfl, ?_⟩
    obtain ⟨p, hp, rfl⟩ := List.mem_map.mp hx
    have hk := z.k p hp
    have hv := z.v p hp
    simp only [wp_ok, wp_ex, wp_bad, wp_bind, wp_ofO, wp_noX, ws_nx, ws_rt, ws_bk, ws_ct, ws_ex, ws_bad, ws_st, ws_seq, ws_ite, wp_ite, wp_mF, mV, mC, mOp, mUn, mNil, mCons, mCa, mB, mAnd, mOr, mNot, mAndV, mOrV, mNotV, mIf, mTru, mChain, sNext, sBreak, sCont, sAsg, sDrop, sRet, sRetN, sIf, sBad, sFor, iSeq, iRng, iSeqK, iItm, iZp, mkTup, mkLst, mIxO, mUnO, sOwn, mDict, sFrz, sApp, sPut, sPutL, mDictOf, mDisp1, mSrc, sUnp, mSli, mSo, mNo, mYes, wp_mLc, mFQ, List.map_cons, List.map_nil, List.nil_append, List.cons_append, List.length_cons, List.length_nil, Nat.reduceAdd, Nat.reduceSub, List.replicate, List.getElem?_cons_succ, List.getElem?_cons_zero, List.set_cons_zero, List.set_cons_succ, List.length_set, Option.some.injEq, exists_eq_left', exists_eq_left, clearE, wipeE, backE, List.all_cons, List.all_nil, List.foldl_cons, List.foldl_nil, isOwn, Bool.not_false, Bool.not_true, Bool.and_true, Bool.and_self, Bool.true_and, true_and, and_true, List.getD_eq_getElem?_getD, Option.getD_some, asB, gN, gN2, if_true, if_false, reduceIte, Bool.false_eq_true, not_true_eq_false, not_false_eq_true, forall_const, false_implies, implies_true, true_implies, eq_self, addT_i, subT_i, ltT_i, leT_i, gtT_i, geT_i, modT_i, fdivT_i, powT_i, mulT_i, min2T_i, max2T_i, negT_i, intT_i, Int.reduceLT, Int.reduceLE, decide_true, decide_false, decide_eq_true_eq, Bool.and_eq_true, Nat.reduceLeDiff, Nat.zero_le, Nat.le_refl, wp_mLc2, Bool.or_true, Bool.true_or, Bool.false_or, Bool.or_false, Option.bind_some, Option.map_some, itT_d, gLook_mem z.nd hp, f_choices h0 (show n ≤ 100000 by omega) (show p.1 ≤ 100000 by omega) (show 0 ≤ p.1 by omega), show bigB p.2 = true from bigB_of (by omega) (by omega)]
  · simp only [wp_ok, wp_ex, wp_bad, wp_bind, wp_ofO, wp_noX, ws_nx, ws_rt, ws_bk, ws_ct, ws_ex, ws_bad, ws_st, ws_seq, ws_ite, wp_ite, wp_mF, mV, mC, mOp, mUn, mNil, mCons, mCa, mB, mAnd, mOr, mNot, mAndV, mOrV, mNotV, mIf, mTru, mChain, sNext, sBreak, sCont, sAsg, sDrop, sRet, sRetN, sIf, sBad, sFor, iSeq, iRng, iSeqK, iItm, iZp, mkTup, mkLst, mIxO, mUnO, sOwn, mDict, sFrz, sApp, sPut, sPutL, mDictOf, mDisp1, mSrc, sUnp, mSli, mSo, mNo, mYes, wp_mLc, mFQ, List.map_cons, List.map_nil, List.nil_append, List.cons_append, List.length_cons, List.length_nil, Nat.reduceAdd, Nat.reduceSub, List.replicate, List.getElem?_cons_succ, List.getElem?_cons_zero, List.set_cons_zero, List.set_cons_succ, List.length_set, Option.some.injEq, exists_eq_left', exists_eq_left, clearE, wipeE, backE, List.all_cons, List.all_nil, List.foldl_cons, List.foldl_nil, isOwn, Bool.not_false, Bool.not_true, Bool.and_true, Bool.and_self, Bool.true_and, true_and, and_true, List.getD_eq_getElem?_getD, Option.getD_some, asB, gN, gN2, if_true, if_false, reduceIte, Bool.false_eq_true, not_true_eq_false, not_false_eq_true, forall_const, false_implies, implies_true, true_implies, eq_self, addT_i, subT_i, ltT_i, leT_i, gtT_i, geT_i, modT_i, fdivT_i, powT_i, mulT_i, min2T_i, max2T_i, negT_i, intT_i, Int.reduceLT, Int.reduceLE, decide_true, decide_false, decide_eq_true_eq, Bool.and_eq_true, Nat.reduceLeDiff, Nat.zero_le, Nat.le_refl, wp_mLc2, Bool.or_true, Bool.true_or, Bool.false_or, Bool.or_false, Option.bind_some, Option.map_some, filter_yes, List.length_map, gKeys]
    refine ⟨by omega, ?_⟩
    have e := intsT_zs ((gKeys gs).map fun k => (gLook gs k).getD 0 * chF n k)
    rw [zs, List.map_map] at e
    simp only [sumT]
    have e' : intsT (List.map (fun k => T.int ((gLook gs k).getD 0 * chF n k)) (List.map (fun x => x.1) gs)) = some ((gKeys gs).map fun k => (gLook gs k).getD 0 * chF n k) := e
    rw [e']
    exact ⟨_, rfl, rfl⟩
structure Stg (ss : List Int) (gs : List (Int × Int)) : Prop where
  s : Sz ss
  g : Gm ss.sum gs
  t : tot ss.sum gs ≤ 130
theorem f_check_setting {ss : List Int} {gs : List (Int × Int)} {d : T} (h : SeqZ ss d) (z : Stg ss gs) : F_check_setting [d, dctZ gs] = .ok .none := by
  refine runF_ok ?_
  have n0 := z.s.sum1
  have n1 := z.s.s
  have c1 : F_check_sizes [d] = .ok .none := by
    refine runF_ok ?_
    unfold m_check_sizes
    simp only [wp_ok, wp_ex, wp_bad, wp_bind, wp_ofO, wp_noX, ws_nx, ws_rt, ws_bk, ws_ct, ws_ex, ws_bad, ws_st, ws_seq, ws_ite, wp_ite, wp_mF, mV, mC, mOp, mUn, mNil, mCons, mCa, mB, mAnd, mOr, mNot, mAndV, mOrV, mNotV, mIf, mTru, mChain, sNext, sBreak, sCont, sAsg, sDrop, sRet, sRetN, sIf, sBad, sFor, iSeq, iRng, iSeqK, iItm, iZp, mkTup, mkLst, mIxO, mUnO, sOwn, mDict, sFrz, sApp, sPut, sPutL, mDictOf, mDisp1, mSrc, sUnp, mSli, mSo, mNo, mYes, wp_mLc, mFQ, List.map_cons, List.map_nil, List.nil_append, List.cons_append, List.length_cons, List.length_nil, Nat.reduceAdd, Nat.reduceSub, List.replicate, List.getElem?_cons_succ, List.getElem?_cons_zero, List.set_cons_zero, List.set_cons_succ, List.length_set, Option.some.injEq, exists_eq_left', exists_eq_left, clearE, wipeE, backE, List.all_cons, List.all_nil, List.foldl_cons, List.foldl_nil, isOwn, Bool.not_false, Bool.not_true, Bool.and_true, Bool.and_self, Bool.true_and, true_and, and_true, List.getD_eq_getElem?_getD, Option.getD_some, asB, gN, gN2, if_true, if_false, reduceIte, Bool.false_eq_true, not_true_eq_false, not_false_eq_true, forall_const, false_implies, implies_true, true_implies, eq_self, addT_i, subT_i, ltT_i, leT_i, gtT_i, geT_i, modT_i, fdivT_i, powT_i, mulT_i, min2T_i, max2T_i, negT_i, intT_i, Int.reduceLT, Int.reduceLE, decide_true, decide_false, decide_eq_true_eq, Bool.and_eq_true, Nat.reduceLeDiff, Nat.zero_le, Nat.le_refl, wp_mLc2, Bool.or_true, Bool.true_or, Bool.false_or, Bool.or_false, Option.bind_some, Option.map_some, f_are_sizes h z.s, tru]
  have c2 : F_check_games [.int ss.sum, dctZ gs] = .ok .none := by
    refine runF_ok ?_
    unfold m_check_games
    have := z.t
    simp only [wp_ok, wp_ex, wp_bad, wp_bind, wp_ofO, wp_noX, ws_nx, ws_rt, ws_bk, ws_ct, ws_ex, ws_bad, ws_st, ws_seq, ws_ite, wp_ite, wp_mF, mV, mC, mOp, mUn, mNil, mCons, mCa, mB, mAnd, mOr, mNot, mAndV, mOrV, mNotV, mIf, mTru, mChain, sNext, sBreak, sCont, sAsg, sDrop, sRet, sRetN, sIf, sBad, sFor, iSeq, iRng, iSeqK, iItm, iZp, mkTup, mkLst, mIxO, mUnO, sOwn, mDict, sFrz, sApp, sPut, sPutL, mDictOf, mDisp1, mSrc, sUnp, mSli, mSo, mNo, mYes, wp_mLc, mFQ, List.map_cons, List.map_nil, List.nil_append, List.cons_append, List.length_cons, List.length_nil, Nat.reduceAdd, Nat.reduceSub, List.replicate, List.getElem?_cons_succ, List.getElem?_cons_zero, List.set_cons_zero, List.set_cons_succ, List.length_set, Option.some.injEq, exists_eq_left', exists_eq_left, clearE, wipeE, backE, List.all_cons, List.all_nil, List.foldl_cons, List.foldl_nil, isOwn, Bool.not_false, Bool.not_true, Bool.and_true, Bool.and_self, Bool.true_and, true_and, and_true, List.getD_eq_getElem?_getD, Option.getD_some, asB, gN, gN2, if_true, if_false, reduceIte, Bool.false_eq_true, not_true_eq_false, not_false_eq_true, forall_const, false_implies, implies_true, true_implies, eq_self, addT_i, subT_i, ltT_i, leT_i, gtT_i, geT_i, modT_i, fdivT_i, powT_i, mulT_i, min2T_i, max2T_i, negT_i, intT_i, Int.reduceLT, Int.reduceLE, decide_true, decide_false, decide_eq_true_eq, Bool.and_eq_true, Nat.reduceLeDiff, Nat.zero_le, Nat.le_refl, wp_mLc2, Bool.or_true, Bool.true_or, Bool.false_or, Bool.or_false, Option.bind_some, Option.map_some, f_are_games (by omega) z.g, f_total_of (show 0 ≤ ss.sum by omega) n1 z.g, tru]
    exact fun h => by omega
  unfold m_check_setting
  simp only [wp_ok, wp_ex, wp_bad, wp_bind, wp_ofO, wp_noX, ws_nx, ws_rt, ws_bk, ws_ct, ws_ex, ws_bad, ws_st, ws_seq, ws_ite, wp_ite, wp_mF, mV, mC, mOp, mUn, mNil, mCons, mCa, mB, mAnd, mOr, mNot, mAndV, mOrV, mNotV, mIf, mTru, mChain, sNext, sBreak, sCont, sAsg, sDrop, sRet, sRetN, sIf, sBad, sFor, iSeq, iRng, iSeqK, iItm, iZp, mkTup, mkLst, mIxO, mUnO, sOwn, mDict, sFrz, sApp, sPut, sPutL, mDictOf, mDisp1, mSrc, sUnp, mSli, mSo, mNo, mYes, wp_mLc, mFQ, List.map_cons, List.map_nil, List.nil_append, List.cons_append, List.length_cons, List.length_nil, Nat.reduceAdd, Nat.reduceSub, List.replicate, List.getElem?_cons_succ, List.getElem?_cons_zero, List.set_cons_zero, List.set_cons_succ, List.length_set, Option.some.injEq, exists_eq_left', exists_eq_left, clearE, wipeE, backE, List.all_cons, List.all_nil, List.foldl_cons, List.foldl_nil, isOwn, Bool.not_false, Bool.not_true, Bool.and_true, Bool.and_self, Bool.true_and, true_and, and_true, List.getD_eq_getElem?_getD, Option.getD_some, asB, gN, gN2, if_true, if_false, reduceIte, Bool.false_eq_true, not_true_eq_false, not_false_eq_true, forall_const, false_implies, implies_true, true_implies, eq_self, addT_i, subT_i, ltT_i, leT_i, gtT_i, geT_i, modT_i, fdivT_i, powT_i, mulT_i, min2T_i, max2T_i, negT_i, intT_i, Int.reduceLT, Int.reduceLE, decide_true, decide_false, decide_eq_true_eq, Bool.and_eq_true, Nat.reduceLeDiff, Nat.zero_le, Nat.le_refl, wp_mLc2, Bool.or_true, Bool.true_or, Bool.false_or, Bool.or_false, Option.bind_some, Option.map_some, c1, c2, sumT_seq h]
theorem f_team_count {ss : List Int} {gs : List (Int × Int)} {d : T} (h : SeqZ ss d) (z : Stg ss gs) : F_team_count [d, dctZ gs] = .ok (.int (tot ss.sum gs)) := by
  refine runF_ok ?_
  have n0 := z.s.sum1
  have n1 := z.s.s
  unfold m_team_count
  simp only [wp_ok, wp_ex, wp_bad, wp_bind, wp_ofO, wp_noX, ws_nx, ws_rt, ws_bk, ws_ct, ws_ex, ws_bad, ws_st, ws_seq, ws_ite, wp_ite, wp_mF, mV, mC, mOp, mUn, mNil, mCons, mCa, mB, mAnd, mOr, mNot, mAndV, mOrV, mNotV, mIf, mTru, mChain, sNext, sBreak, sCont, sAsg, sDrop, sRet, sRetN, sIf, sBad, sFor, iSeq, iRng, iSeqK, iItm, iZp, mkTup, mkLst, mIxO, mUnO, sOwn, mDict, sFrz, sApp, sPut, sPutL, mDictOf, mDisp1, mSrc, sUnp, mSli, mSo, mNo, mYes, wp_mLc, mFQ, List.map_cons, List.map_nil, List.nil_append, List.cons_append, List.length_cons, List.length_nil, Nat.reduceAdd, Nat.reduceSub, List.replicate, List.getElem?_cons_succ, List.getElem?_cons_zero, List.set_cons_zero, List.set_cons_succ, List.length_set, Option.some.injEq, exists_eq_left', exists_eq_left, clearE, wipeE, backE, List.all_cons, List.all_nil, List.foldl_cons, List.foldl_nil, isOwn, Bool.not_false, Bool.not_true, Bool.and_true, Bool.and_self, Bool.true_and, true_and, and_true, List.getD_eq_getElem?_getD, Option.getD_some, asB, gN, gN2, if_true, if_false, reduceIte, Bool.false_eq_true, not_true_eq_false, not_false_eq_true, forall_const, false_implies, implies_true, true_implies, eq_self, addT_i, subT_i, ltT_i, leT_i, gtT_i, geT_i, modT_i, fdivT_i, powT_i, mulT_i, min2T_i, max2T_i, negT_i, intT_i, Int.reduceLT, Int.reduceLE, decide_true, decide_false, decide_eq_true_eq, Bool.and_eq_true, Nat.reduceLeDiff, Nat.zero_le, Nat.le_refl, wp_mLc2, Bool.or_true, Bool.true_or, Bool.false_or, Bool.or_false, Option.bind_some, Option.map_some, f_check_setting h z, sumT_seq h, f_total_of (show 0 ≤ ss.sum by omega) n1 z.g]
end Pl

end
section

/-! PK3: tuples, kinds, their order -/
namespace Pl
open PySem PySem.Spec PyProof.Rows L2 Evl TD Mi
local instance : HasT := ⟨[]⟩
def zr (n : Int) : List Int := (List.range n.toNat).map fun i : Nat => (i : Int)
theorem mem_zr {n x : Int} : x ∈ zr n ↔ 0 ≤ x ∧ x < n := by
  unfold zr
  rw [List.mem_map]
  constructor
  · rintro ⟨i, hi, rfl⟩
    rw [List.mem_range] at hi
    omega
  · intro h
    exact ⟨x.toNat, by rw [List.mem_range]; omega, by omega⟩
theorem zr_len (n : Int) : (zr n).length = n.toNat := by unfold zr; rw [List.length_map, List.length_range]
theorem rng1_z {n : Int} (h1 : -100000 ≤ n) (h2 : n ≤ 100000) : rng1 [.int n] = some (zs (zr n)) := by
  show (if (decide (-100000 ≤ n) && decide (n ≤ 100000)) = true then some ((List.range n.toNat).map fun i : Nat => (.int (0 + (i : Int)) : T)) else none) = _
  rw [if_pos (by simp only [Bool.and_eq_true, decide_eq_true_eq]; exact ⟨h1, h2⟩)]
  unfold zs zr
  rw [List.map_map]
  refine congrArg some (List.map_congr_left fun i _ => ?_)
  show T.int (0 + (i : Int)) = T.int (i : Int)
  rw [Int.zero_add]
theorem zr_split {m n : Int} (h0 : 0 ≤ m) (h : m ≤ n) : ∃ l, zr n = zr m ++ l ∧ ∀ x ∈ l, m ≤ x := by
  refine ⟨(List.range (n.toNat - m.toNat)).map fun i : Nat => (m + i : Int), ?_, ?_⟩
  · unfold zr
    rw [show n.toNat = m.toNat + (n.toNat - m.toNat) by omega, List.range_add, List.map_append, List.map_map]
    congr 1
    rw [show m.toNat + (n.toNat - m.toNat) - m.toNat = n.toNat - m.toNat by omega]
    refine List.map_congr_left fun i _ => ?_
    simp only [Function.comp]
    omega
  · intro x hx
    obtain ⟨i, _, rfl⟩ := List.mem_map.mp hx
    omega
def tup : List Int → List (List Int)
  | [] => [[]]
  | s :: ss => (zr (s + 1)).flatMap fun n => (tup ss).map (n :: ·)
def ptup : List Int → Int → List (List Int)
  | [], _ => [[]]
  | s :: ss, m => (zr ((if m < s then m else s) + 1)).flatMap fun n => (ptup ss (m - n)).map (n :: ·)
theorem mem_tup {ss : List Int} : ∀ {r : List Int}, r ∈ tup ss ↔ r.length = ss.length ∧ ∀ p ∈ r.zip ss, 0 ≤ p.1 ∧ p.1 ≤ p.2 := by
  induction ss with
  | nil =>
    intro r
    simp only [tup, List.mem_singleton, List.length_nil, List.length_eq_zero_iff]
    constructor
    · rintro rfl; exact ⟨rfl, by simp⟩
    · exact fun h => h.1
  | cons s ss ih =>
    intro r
    simp only [tup, List.mem_flatMap, List.mem_map]
    constructor
    · rintro ⟨n, hn, r', hr, rfl⟩
      obtain ⟨h1, h2⟩ := ih.mp hr
      rw [mem_zr] at hn
      refine ⟨by simp [h1], ?_⟩
      rw [List.zip_cons_cons]
      intro p hp
      rcases List.mem_cons.mp hp with rfl | hp
      · exact ⟨hn.1, by show n ≤ s; omega⟩
      · exact h2 p hp
    · rintro ⟨h1, h2⟩
      rcases r with _ | ⟨n, r'⟩
      · simp at h1
      · rw [List.zip_cons_cons] at h2
        have h3 := h2 _ List.mem_cons_self
        refine ⟨n, mem_zr.mpr ⟨h3.1, by have := h3.2; simp only at this; omega⟩, r', ih.mpr ⟨by simpa using h1, fun p hp => h2 p (List.mem_cons_of_mem _ hp)⟩, rfl⟩
theorem tup_sum {ss r : List Int} (h : r ∈ tup ss) : 0 ≤ r.sum ∧ r.sum ≤ ss.sum := by
  induction ss generalizing r with
  | nil =>
    simp only [tup, List.mem_singleton] at h
    subst h
    simp
  | cons s ss ih =>
    simp only [tup, List.mem_flatMap, List.mem_map] at h
    obtain ⟨n, hn, r', hr, rfl⟩ := h
    have := ih hr
    rw [mem_zr] at hn
    simp only [List.sum_cons]
    omega
theorem ptup_eq (ss : List Int) : ∀ (m : Int), 0 ≤ m → (∀ s ∈ ss, 0 ≤ s) → ptup ss m = (tup ss).filter fun r => decide (r.sum ≤ m) := by
  induction ss with
  | nil =>
    intro m hm _
    simp [ptup, tup, hm]
  | cons s ss ih =>
    intro m hm hs
    have hs0 := hs s List.mem_cons_self
    have hs' := fun x hx => hs x (List.mem_cons_of_mem _ hx)
    have key : ∀ n, 0 ≤ n → n ≤ m → (ptup ss (m - n)).map (n :: ·) = ((tup ss).map (n :: ·)).filter fun r => decide (r.sum ≤ m) := fun n h0 h1 => by
      rw [ih (m - n) (by omega) hs', List.filter_map]
      refine congrArg (List.map _) (List.filter_congr fun r _ => ?_)
      simp only [Function.comp, List.sum_cons]
      exact decide_eq_decide.mpr ⟨fun h => by omega, fun h => by omega⟩
    show (zr ((if m < s then m else s) + 1)).flatMap (fun n => (ptup ss (m - n)).map (n :: ·)) = ((zr (s + 1)).flatMap fun n => (tup ss).map (n :: ·)).filter _
    rw [List.filter_flatMap]
    by_cases h : m < s
    · rw [if_pos h]
      obtain ⟨l, e, hl⟩ := zr_split (m := m + 1) (n := s + 1) (by omega) (by omega)
      rw [e, List.flatMap_append]
      have z : l.flatMap (fun n => ((tup ss).map (n :: ·)).filter fun r => decide (r.sum ≤ m)) = [] := by
        rw [List.flatMap_eq_nil_iff]
        intro n hn
        rw [List.filter_eq_nil_iff]
        intro r hr
        obtain ⟨r', hr', rfl⟩ := List.mem_map.mp hr
        have := (tup_sum hr').1
        have := hl n hn
        intro z
        have z := of_decide_eq_true z
        rw [List.sum_cons] at z
        omega
      rw [z, List.append_nil, List.flatMap_def, List.flatMap_def]
      refine congrArg List.flatten (List.map_congr_left fun n hn => ?_)
      rw [mem_zr] at hn
      exact key n hn.1 (by omega)
    · rw [if_neg h, List.flatMap_def, List.flatMap_def]
      refine congrArg List.flatten (List.map_congr_left fun n hn => ?_)
      rw [mem_zr] at hn
      exact key n hn.1 (by omega)
theorem pow2 {s : Int} (h : 0 ≤ s) : (s + 1).toNat ≤ 2 ^ s.toNat := by
  obtain ⟨k, rfl⟩ := Int.eq_ofNat_of_zero_le h
  have : k + 1 ≤ 2 ^ k := Nat.lt_two_pow_self
  simpa using this
theorem tup_len (ss : List Int) (h : ∀ s ∈ ss, 0 ≤ s) : (tup ss).length ≤ 2 ^ ss.sum.toNat := by
  induction ss with
  | nil => simp [tup]
  | cons s ss ih =>
    have h0 := h s List.mem_cons_self
    have ih' := ih fun x hx => h x (List.mem_cons_of_mem _ hx)
    have hsum : ∀ l : List Int, (∀ x ∈ l, 0 ≤ x) → 0 ≤ l.sum := by
      intro l
      induction l with
      | nil => simp
      | cons a l ih => intro hl; have := hl a List.mem_cons_self; have := ih fun x hx => hl x (List.mem_cons_of_mem _ hx); simp only [List.sum_cons]; omega
    have h1 := hsum ss fun x hx => h x (List.mem_cons_of_mem _ hx)
    have e : (tup (s :: ss)).length = (s + 1).toNat * (tup ss).length := by
      show ((zr (s + 1)).flatMap fun n => (tup ss).map (n :: ·)).length = _
      rw [List.length_flatMap]
      simp only [List.length_map, List.map_const', List.sum_replicate_nat, zr_len]
    rw [e, List.sum_cons, show (s + ss.sum).toNat = s.toNat + ss.sum.toNat by omega, Nat.pow_add]
    exact Nat.mul_le_mul (pow2 h0) ih'
theorem flat1 {α : Type} (R : List α) : R.flatMap (fun r => [r]) = R := by
  induction R with
  | nil => rfl
  | cons a R ih => rw [List.flatMap_cons, ih]; rfl
/-- rows grown class by class -/
def lstep (R : List (List Int)) (s : Int) : List (List Int) := R.flatMap fun r => (zr (s + 1)).map fun n => r ++ [n]
def pstep (m : Int) (R : List (List Int)) (s : Int) : List (List Int) := R.flatMap fun r => (zr ((if m - r.sum < s then m - r.sum else s) + 1)).map fun n => r ++ [n]
theorem lstep_all (ss : List Int) : ∀ R, ss.foldl lstep R = R.flatMap fun r => (tup ss).map (r ++ ·) := by
  induction ss with
  | nil => intro R; simp [tup, flat1]
  | cons s ss ih =>
    intro R
    rw [List.foldl_cons, ih]
    unfold lstep
    rw [List.flatMap_assoc]
    simp only [tup, List.map_flatMap, List.map_map, List.flatMap_map, Function.comp_def, List.append_assoc, List.cons_append, List.nil_append]
theorem pstep_all (m : Int) (ss : List Int) : ∀ R, ss.foldl (pstep m) R = R.flatMap fun r => (ptup ss (m - r.sum)).map (r ++ ·) := by
  induction ss with
  | nil => intro R; simp [ptup, flat1]
  | cons s ss ih =>
    intro R
    rw [List.foldl_cons, ih]
    unfold pstep
    rw [List.flatMap_assoc]
    simp only [ptup, List.map_flatMap, List.map_map, List.flatMap_map, Function.comp_def, List.append_assoc, List.cons_append, List.nil_append, List.sum_append, List.sum_cons, List.sum_nil, Int.add_zero, Int.sub_sub]
/-- lexicographic order -/
def lexB : List Int → List Int → Bool
  | [], [] => false
  | [], _ :: _ => true
  | _ :: _, [] => false
  | x :: r, y :: t => decide (x < y) || (!decide (y < x) && lexB r t)
theorem lexB_irr : ∀ r, lexB r r = false
  | [] => rfl
  | x :: r => by simp [lexB, lexB_irr r]
theorem lexB_asym : ∀ {r t}, lexB r t = true → lexB t r = false
  | [], [], h => by cases h
  | [], _ :: _, _ => rfl
  | _ :: _, [], h => by cases h
  | x :: r, y :: t, h => by
    simp only [lexB, Bool.or_eq_true, Bool.and_eq_true, decide_eq_true_eq, Bool.not_eq_true', decide_eq_false_iff_not] at h
    rcases h with h | ⟨h1, h2⟩
    · have : ¬ y < x := by omega
      simp [lexB, this, h]
    · have := lexB_asym h2
      simp [lexB, h1, this]
theorem lexB_tri : ∀ {r t}, lexB r t = false → lexB t r = false → r = t
  | [], [], _, _ => rfl
  | [], _ :: _, h, _ => by cases h
  | _ :: _, [], _, h => by cases h
  | x :: r, y :: t, h1, h2 => by
    simp only [lexB, Bool.or_eq_false_iff, Bool.and_eq_false_iff, decide_eq_false_iff_not, Bool.not_eq_false', decide_eq_true_eq] at h1 h2
    have e : x = y := by omega
    subst e
    rcases h1.2 with h | h
    · omega
    · rcases h2.2 with h' | h'
      · omega
      · rw [lexB_tri h h']
theorem tup_lex (ss : List Int) : (tup ss).Pairwise fun a b => lexB a b = true := by
  induction ss with
  | nil => simp [tup]
  | cons s ss ih =>
    simp only [tup]
    rw [List.pairwise_flatMap]
    refine ⟨fun n _ => ?_, ?_⟩
    · rw [List.pairwise_map]
      exact ih.imp fun h => by simp [lexB, h]
    · unfold zr
      rw [List.pairwise_map]
      refine List.pairwise_lt_range.imp fun {i j} hij x hx y hy => ?_
      obtain ⟨x', _, rfl⟩ := List.mem_map.mp hx
      obtain ⟨y', _, rfl⟩ := List.mem_map.mp hy
      have : (i : Int) < (j : Int) := by omega
      simp [lexB, this]
/-- the order of kinds -/
def kltB (a b : List Int) : Bool := decide (a.sum < b.sum) || (!decide (b.sum < a.sum) && lexB a b)
theorem kltB_tri {a b : List Int} (h1 : kltB a b = false) (h2 : kltB b a = false) : a = b := by
  simp only [kltB, Bool.or_eq_false_iff, Bool.and_eq_false_iff, decide_eq_false_iff_not, Bool.not_eq_false', decide_eq_true_eq] at h1 h2
  refine lexB_tri ?_ ?_
  · rcases h1.2 with h | h
    · omega
    · exact h
  · rcases h2.2 with h | h
    · omega
    · exact h
theorem kltB_asym {a b : List Int} (h : kltB a b = true) : kltB b a = false := by
  simp only [kltB, Bool.or_eq_true, Bool.and_eq_true, decide_eq_true_eq, Bool.not_eq_true', decide_eq_false_iff_not] at h
  rcases h with h | ⟨h1, h2⟩
  · have : ¬ b.sum < a.sum := by omega
    simp [kltB, this, h]
  · simp [kltB, h1, lexB_asym h2]
theorem toks_lex : ∀ (a b : List Int) (r t : List (Int ⊕ List Nat)), PyProof.Rows.lexLt itemOrd (PySem.W.keyToksAll (a.map PyData.int) ++ r) (PySem.W.keyToksAll (b.map PyData.int) ++ t) = (lexB a b || (!lexB b a && PyProof.Rows.lexLt itemOrd r t))
  | [], [], r, t => by
    simp [PySem.W.keyToksAll, lexB, PyProof.Rows.lexLt, itemLt]
  | [], _ :: _, r, t => by
    simp [PySem.W.keyToksAll, lexB, PyProof.Rows.lexLt, itemLt]
  | _ :: _, [], r, t => by
    simp [PySem.W.keyToksAll, lexB, PyProof.Rows.lexLt, itemLt]
  | x :: a, y :: b, r, t => by
    have ih := toks_lex a b r t
    simp only [List.map_cons, PySem.W.keyToksAll, PySem.W.keyToks, List.cons_append, List.nil_append, List.append_assoc, PyProof.Rows.lexLt, itemLt, lexB, Int.lt_irrefl, decide_false, Bool.false_or, Bool.not_false, Bool.true_and]
    rw [ih]
    by_cases h1 : x < y
    · simp [h1]
    · by_cases h2 : y < x
      · have : ¬ x < y := by omega
        simp [h1, h2]
      · simp [h1, h2]
theorem key_lt (a b : List Int) : PySem.W.dataLe false (keyD SumB) (tupZ a) (tupZ b) = !kltB b a := by
  have e : ∀ r : List Int, PySem.W.keyToks (keyD SumB (tupZ r)) = .inl 1 :: .inl r.sum :: .inl 1 :: (PySem.W.keyToksAll (r.map PyData.int) ++ [.inl 0]) := fun r => by
    unfold keyD
    have h1 : tupI (tupZ r) = some r := intsT_zs r
    rw [h1]
    simp only [Option.getD_some, tupZ, zs, toP, toPs_ints, PySem.W.keyToks, PySem.W.keyToksAll, List.cons_append, List.nil_append, SumB]
  show (!PyProof.Rows.lexLt itemOrd (PySem.W.keyToks (keyD SumB (tupZ b))) (PySem.W.keyToks (keyD SumB (tupZ a)))) = _
  rw [e, e]
  simp only [PyProof.Rows.lexLt, itemLt, Int.lt_irrefl, decide_false, Bool.false_or, Bool.not_false, Bool.true_and, toks_lex, kltB]
  simp [PyProof.Rows.lexLt, itemLt]
end Pl

end
section

/-! PK4: all kinds -/
namespace Pl
open PySem PySem.Spec PyProof.Rows L2 Evl TD Mi
local instance : HasT := ⟨[]⟩
/-- all kinds, in order -/
def Kn (ss : List Int) (gs : List (Int × Int)) : List (List Int) := (sortI (gKeys gs)).flatMap fun t => (tup ss).filter fun r => r.sum == t
theorem sortI_nodup {l : List Int} (h : l.Nodup) : (sortI l).Nodup := (sortI_perm l).nodup_iff.mpr h
theorem mem_sortI {l : List Int} {x : Int} : x ∈ sortI l ↔ x ∈ l := (sortI_perm l).mem_iff
theorem gLook_isSome {gs : List (Int × Int)} {k : Int} : (gLook gs k).isSome = true ↔ k ∈ gKeys gs := by
  constructor
  · intro h
    obtain ⟨v, hv⟩ := Option.isSome_iff_exists.mp h
    exact List.mem_map.mpr ⟨_, gLook_some hv, rfl⟩
  · intro h
    obtain ⟨p, hp, rfl⟩ := List.mem_map.mp h
    unfold gLook
    rw [Option.isSome_map, List.find?_isSome]
    exact ⟨p, hp, by simp⟩
theorem mem_Kn {ss : List Int} {gs : List (Int × Int)} {r : List Int} : r ∈ Kn ss gs ↔ r ∈ tup ss ∧ (gLook gs r.sum).isSome = true := by
  unfold Kn
  rw [List.mem_flatMap, gLook_isSome]
  constructor
  · rintro ⟨t, ht, hr⟩
    obtain ⟨h1, h2⟩ := List.mem_filter.mp hr
    have h3 : r.sum = t := by simpa using h2
    exact ⟨h1, by rw [h3]; exact mem_sortI.mp ht⟩
  · rintro ⟨h1, h2⟩
    exact ⟨r.sum, mem_sortI.mpr h2, List.mem_filter.mpr ⟨h1, by simp⟩⟩
theorem perm_parts {α : Type} (f : α → Int) (l : List α) : ∀ ts : List Int, ts.Nodup → (ts.flatMap fun t => l.filter fun x => f x == t).Perm (l.filter fun x => decide (f x ∈ ts)) := by
  intro ts
  induction ts with
  | nil => intro _; simp
  | cons t ts ih =>
    intro nd
    obtain ⟨n1, n2⟩ := List.nodup_cons.mp nd
    rw [List.flatMap_cons]
    have h := List.filter_append_perm (fun x => f x == t) (l.filter fun x => decide (f x ∈ t :: ts))
    refine List.Perm.trans ?_ h
    rw [List.filter_filter, List.filter_filter]
    have e1 : (l.filter fun x => f x == t) = l.filter fun a => (f a == t) && decide (f a ∈ t :: ts) := List.filter_congr fun x _ => by
      by_cases q : f x = t <;> simp [q]
    have e2 : (l.filter fun x => decide (f x ∈ ts)) = l.filter fun a => (!(f a == t)) && decide (f a ∈ t :: ts) := List.filter_congr fun x _ => by
      by_cases q : f x = t
      · simp [q, n1]
      · simp [q]
    rw [← e1, ← e2]
    exact List.Perm.append_left _ (ih n2)
/-- the kinds as they come before they are sorted -/
def Pn (ss : List Int) (gs : List (Int × Int)) : List (List Int) := (tup ss).filter fun r => (gLook gs r.sum).isSome
theorem Kn_perm {ss : List Int} {gs : List (Int × Int)} (nd : (gKeys gs).Nodup) : (Kn ss gs).Perm (Pn ss gs) := by
  have h := perm_parts (fun r : List Int => r.sum) (tup ss) (sortI (gKeys gs)) (sortI_nodup nd)
  refine h.trans (List.Perm.of_eq (List.filter_congr fun r _ => ?_))
  rw [Bool.eq_iff_iff, decide_eq_true_eq, gLook_isSome, mem_sortI]
theorem sortI_sorted (l : List Int) : (sortI l).Pairwise (· ≤ ·) := (List.pairwise_mergeSort (le := fun a b : Int => decide (a ≤ b)) (fun a b c h1 h2 => decide_eq_true (Int.le_trans (of_decide_eq_true h1) (of_decide_eq_true h2))) (fun a b => by
    rcases Int.le_total a b with h | h
    · rw [decide_eq_true h]; rfl
    · rw [decide_eq_true h, Bool.or_true]) l).imp fun h => of_decide_eq_true h
theorem Kn_sorted {ss : List Int} {gs : List (Int × Int)} (nd : (gKeys gs).Nodup) : (Kn ss gs).Pairwise fun a b => kltB a b = true := by
  unfold Kn
  rw [List.pairwise_flatMap]
  refine ⟨fun t _ => ?_, ?_⟩
  · refine ((tup_lex ss).filter _).imp_of_mem fun {a b} ha hb h => ?_
    have h1 : a.sum = t := by simpa using (List.mem_filter.mp ha).2
    have h2 : b.sum = t := by simpa using (List.mem_filter.mp hb).2
    simp [kltB, h1, h2, h]
  · refine (List.Pairwise.and (sortI_sorted (gKeys gs)) (sortI_nodup nd)).imp fun {a b} h x hx y hy => ?_
    have h1 : x.sum = a := by simpa using (List.mem_filter.mp hx).2
    have h2 : y.sum = b := by simpa using (List.mem_filter.mp hy).2
    have : a < b := by omega
    simp [kltB, h1, h2, this]
theorem sortGT_Kn {ss : List Int} {gs : List (Int × Int)} (nd : (gKeys gs).Nodup) (hl : (tup ss).length ≤ 100000) : sortGT SumB (.list ((Pn ss gs).map tupZ)) = some (.list ((Kn ss gs).map tupZ)) := by
  have hl2 : (Pn ss gs).length ≤ 100000 := Nat.le_trans (List.length_filter_le _ _) hl
  show sortKL SumB _ = _
  unfold sortKL
  rw [if_pos (by
    rw [Bool.and_eq_true, decide_eq_true_eq, List.length_map]
    refine ⟨List.all_eq_true.mpr fun d hd => ?_, hl2⟩
    obtain ⟨r, _, rfl⟩ := List.mem_map.mp hd
    show (intsT (zs r)).isSome = true
    rw [intsT_zs]
    rfl)]
  have tl := PySem.W.sortLe_total (listOrd itemOrd) false fun b => PySem.W.keyToks (keyD SumB b)
  refine congrArg (fun z => some (T.list z)) (List.Perm.eq_of_pairwise (le := fun a b => PySem.W.dataLe false (keyD SumB) a b = true) ?_ ?_ ?_ ?_)
  · intro a b ha hb h1 h2
    have ha' : a ∈ (Pn ss gs).map tupZ := (List.mergeSort_perm _ _).mem_iff.mp ha
    obtain ⟨r, _, rfl⟩ := List.mem_map.mp ha'
    obtain ⟨t, _, rfl⟩ := List.mem_map.mp hb
    rw [key_lt, Bool.not_eq_true'] at h1 h2
    rw [kltB_tri h2 h1]
  · exact List.pairwise_mergeSort (fun a b c => tl.trans a b c) (fun a b => by rcases tl.total a b with h | h <;> simp only [PySem.W.dataLe, h, Bool.true_or, Bool.or_true]) _
  · rw [List.pairwise_map]
    refine (Kn_sorted nd).imp fun {a b} h => ?_
    rw [key_lt, kltB_asym h]
    rfl
  · exact (List.mergeSort_perm _ _).trans ((Kn_perm nd).symm.map tupZ)
theorem max_keys {gs : List (Int × Int)} (h : gs ≠ []) : ∃ m, (gKeys gs).max? = some m ∧ m ∈ gKeys gs ∧ ∀ k ∈ gKeys gs, k ≤ m := by
  cases q : (gKeys gs).max? with
  | none =>
    rw [List.max?_eq_none_iff] at q
    exact absurd (List.map_eq_nil_iff.mp q) h
  | some m =>
    obtain ⟨h1, h2⟩ := List.max?_eq_some_iff.mp q
    exact ⟨m, rfl, h1, h2⟩
theorem Sz.nn {ss : List Int} (z : Sz ss) : ∀ s ∈ ss, 0 ≤ s := fun s h => by have := (z.b s h).1; omega
theorem Sz.tl {ss : List Int} (z : Sz ss) : (tup ss).length ≤ 1024 := by
  refine Nat.le_trans (tup_len ss z.nn) ?_
  have := z.s
  exact Nat.pow_le_pow_right (n := 2) (by decide) (show ss.sum.toNat ≤ 10 by omega)
theorem sum_take {ss : List Int} (h : ∀ s ∈ ss, 0 ≤ s) (i : Nat) : 0 ≤ (ss.take i).sum ∧ (ss.take i).sum ≤ ss.sum := by
  induction ss generalizing i with
  | nil => simp
  | cons s ss ih =>
    cases i with
    | zero =>
      have := ih (fun x hx => h x (List.mem_cons_of_mem _ hx)) ss.length
      rw [List.take_length] at this
      have := h s List.mem_cons_self
      simp only [List.take_zero, List.sum_nil, List.sum_cons]
      omega
    | succ i =>
      have := ih (fun x hx => h x (List.mem_cons_of_mem _ hx)) i
      have := h s List.mem_cons_self
      simp only [List.take_succ_cons, List.sum_cons]
      omega
theorem take_succ_foldl {α β : Type} (f : β → α → β) (b : β) (xs : List α) (i : Nat) (h : i < xs.length) : (xs.take (i + 1)).foldl f b = f ((xs.take i).foldl f b) xs[i] := by
  rw [List.take_succ_eq_append_getElem h, List.foldl_append]
  rfl
theorem addT_tup {a b : List Int} (h : a.length + b.length ≤ 100000) : addT (tupZ a) (tupZ b) = some (tupZ (a ++ b)) := by
  show (if (zs a).length + (zs b).length ≤ 100000 then some (T.tuple (zs a ++ zs b)) else none) = _
  rw [List.length_map, List.length_map, if_pos h]
  simp [tupZ, zs]
/-- what a prefix of the loop has made -/
theorem pst_rows {ss : List Int} {m : Int} (z : Sz ss) (hm : 0 ≤ m) (i : Nat) : ((ss.take i).foldl (pstep m) [[]]) = (tup (ss.take i)).filter fun r => decide (r.sum ≤ m) := by
  rw [pstep_all]
  simp only [List.flatMap_cons, List.flatMap_nil, List.append_nil, List.sum_nil, Int.sub_zero, List.nil_append, List.map_id']
  exact ptup_eq _ m hm fun s hs => z.nn s (List.mem_of_mem_take hs)
theorem take_tl {ss : List Int} (z : Sz ss) (i : Nat) : (tup (ss.take i)).length ≤ 1024 := by
  refine Nat.le_trans (tup_len _ fun s hs => z.nn s (List.mem_of_mem_take hs)) ?_
  have := sum_take z.nn i
  have := z.s
  exact Nat.pow_le_pow_right (n := 2) (by decide) (show (ss.take i).sum.toNat ≤ 10 by omega)
theorem f_all_kinds {ss : List Int} {gs : List (Int × Int)} {d : T} (h : SeqZ ss d) (z : Stg ss gs) : F_all_kinds [d, dctZ gs] = .ok (.list ((Kn ss gs).map tupZ)) := by
  obtain ⟨m, hm, hm1, hm2⟩ := max_keys z.g.ne
  have hmk : maxKT (dctZ gs) = some (.int m) := by
    show ((intsT ((gs.map fun p => (T.int p.1, T.int p.2)).map (·.1))).bind fun ns => ns.max?.map T.int) = _
    have e : (gs.map fun p => (T.int p.1, T.int p.2)).map (·.1) = zs (gKeys gs) := by simp [zs, gKeys]
    rw [e, intsT_zs, Option.bind_some, hm]
    rfl
  have m1 : 1 ≤ m ∧ m ≤ 4 := by
    obtain ⟨p, hp, rfl⟩ := List.mem_map.mp hm1
    have := z.g.k p hp
    omega
  refine runO_ok ?_
  unfold m_all_kinds o_all_kinds
  simp only [wp_ok, wp_ex, wp_bad, wp_bind, wp_ofO, wp_noX, ws_nx, ws_rt, ws_bk, ws_ct, ws_ex, ws_bad, ws_st, ws_seq, ws_ite, wp_ite, wp_mF, mV, mC, mOp, mUn, mNil, mCons, mCa, mB, mAnd, mOr, mNot, mAndV, mOrV, mNotV, mIf, mTru, mChain, sNext, sBreak, sCont, sAsg, sDrop, sRet, sRetN, sIf, sBad, sFor, iSeq, iRng, iSeqK, iItm, iZp, mkTup, mkLst, mIxO, mUnO, sOwn, mDict, sFrz, sApp, sPut, sPutL, mDictOf, mDisp1, mSrc, sUnp, mSli, mSo, mNo, mYes, wp_mLc, mFQ, List.map_cons, List.map_nil, List.nil_append, List.cons_append, List.length_cons, List.length_nil, Nat.reduceAdd, Nat.reduceSub, List.replicate, List.getElem?_cons_succ, List.getElem?_cons_zero, List.set_cons_zero, List.set_cons_succ, List.length_set, Option.some.injEq, exists_eq_left', exists_eq_left, clearE, wipeE, backE, List.all_cons, List.all_nil, List.foldl_cons, List.foldl_nil, isOwn, Bool.not_false, Bool.not_true, Bool.and_true, Bool.and_self, Bool.true_and, true_and, and_true, List.getD_eq_getElem?_getD, Option.getD_some, asB, gN, gN2, if_true, if_false, reduceIte, Bool.false_eq_true, not_true_eq_false, not_false_eq_true, forall_const, false_implies, implies_true, true_implies, eq_self, addT_i, subT_i, ltT_i, leT_i, gtT_i, geT_i, modT_i, fdivT_i, powT_i, mulT_i, min2T_i, max2T_i, negT_i, intT_i, Int.reduceLT, Int.reduceLE, decide_true, decide_false, decide_eq_true_eq, Bool.and_eq_true, Nat.reduceLeDiff, Nat.zero_le, Nat.le_refl, wp_mLc2, Bool.or_true, Bool.true_or, Bool.false_or, Bool.or_false, Option.bind_some, Option.map_some, f_check_setting h z, hmk, keysD_seq h]
  refine ws_for (xs := ss) T.int (fun i e => ∃ s, e = [.val d, .val (dctZ gs), .val (.int m), .val (.list (((ss.take i).foldl (pstep m) [[]]).map tupZ)), s, .un, .un]) ⟨_, rfl⟩ ?_ ?_
  · rintro i hi e ⟨s, rfl⟩
    refine ⟨_, rfl, ?_⟩
    have hs := z.s.b ss[i] (List.getElem_mem hi)
    have e1 := pst_rows z.s (show 0 ≤ m by omega) i
    have e2 := pst_rows z.s (show 0 ≤ m by omega) (i + 1)
    have e3 := take_succ_foldl (pstep m) [[]] ss i hi
    simp only [wp_ok, wp_ex, wp_bad, wp_bind, wp_ofO, wp_noX, ws_nx, ws_rt, ws_bk, ws_ct, ws_ex, ws_bad, ws_st, ws_seq, ws_ite, wp_ite, wp_mF, mV, mC, mOp, mUn, mNil, mCons, mCa, mB, mAnd, mOr, mNot, mAndV, mOrV, mNotV, mIf, mTru, mChain, sNext, sBreak, sCont, sAsg, sDrop, sRet, sRetN, sIf, sBad, sFor, iSeq, iRng, iSeqK, iItm, iZp, mkTup, mkLst, mIxO, mUnO, sOwn, mDict, sFrz, sApp, sPut, sPutL, mDictOf, mDisp1, mSrc, sUnp, mSli, mSo, mNo, mYes, wp_mLc, mFQ, List.map_cons, List.map_nil, List.nil_append, List.cons_append, List.length_cons, List.length_nil, Nat.reduceAdd, Nat.reduceSub, List.replicate, List.getElem?_cons_succ, List.getElem?_cons_zero, List.set_cons_zero, List.set_cons_succ, List.length_set, Option.some.injEq, exists_eq_left', exists_eq_left, clearE, wipeE, backE, List.all_cons, List.all_nil, List.foldl_cons, List.foldl_nil, isOwn, Bool.not_false, Bool.not_true, Bool.and_true, Bool.and_self, Bool.true_and, true_and, and_true, List.getD_eq_getElem?_getD, Option.getD_some, asB, gN, gN2, if_true, if_false, reduceIte, Bool.false_eq_true, not_true_eq_false, not_false_eq_true, forall_const, false_implies, implies_true, true_implies, eq_self, addT_i, subT_i, ltT_i, leT_i, gtT_i, geT_i, modT_i, fdivT_i, powT_i, mulT_i, min2T_i, max2T_i, negT_i, intT_i, Int.reduceLT, Int.reduceLE, decide_true, decide_false, decide_eq_true_eq, Bool.and_eq_true, Nat.reduceLeDiff, Nat.zero_le, Nat.le_refl, wp_mLc2, Bool.or_true, Bool.true_or, Bool.false_or, Bool.or_false, Option.bind_some, Option.map_some, wp_mLc2, keysD]
    refine wp_lc2 (xs := (ss.take i).foldl (pstep m) [[]]) tupZ (fun r => (zr ((if m - r.sum < ss[i] then m - r.sum else ss[i]) + 1)).map fun n => tupZ (r ++ [n])) ?_ ?_
    · intro r hr
      refine ⟨_, rfl, ?_⟩
      rw [e1] at hr
      obtain ⟨hr1, hr2⟩ := List.mem_filter.mp hr
      have hr2 := of_decide_eq_true hr2
      have hr3 := (tup_sum hr1).1
      have hlen : r.length ≤ 10 := by
        have := (mem_tup.mp hr1).1
        have := z.s.len
        rw [List.length_take] at *
        omega
      have hb : 0 ≤ (if m - r.sum < ss[i] then m - r.sum else ss[i]) ∧ (if m - r.sum < ss[i] then m - r.sum else ss[i]) ≤ 10 := by split <;> omega
      simp only [wp_ok, wp_ex, wp_bad, wp_bind, wp_ofO, wp_noX, ws_nx, ws_rt, ws_bk, ws_ct, ws_ex, ws_bad, ws_st, ws_seq, ws_ite, wp_ite, wp_mF, mV, mC, mOp, mUn, mNil, mCons, mCa, mB, mAnd, mOr, mNot, mAndV, mOrV, mNotV, mIf, mTru, mChain, sNext, sBreak, sCont, sAsg, sDrop, sRet, sRetN, sIf, sBad, sFor, iSeq, iRng, iSeqK, iItm, iZp, mkTup, mkLst, mIxO, mUnO, sOwn, mDict, sFrz, sApp, sPut, sPutL, mDictOf, mDisp1, mSrc, sUnp, mSli, mSo, mNo, mYes, wp_mLc, mFQ, List.map_cons, List.map_nil, List.nil_append, List.cons_append, List.length_cons, List.length_nil, Nat.reduceAdd, Nat.reduceSub, List.replicate, List.getElem?_cons_succ, List.getElem?_cons_zero, List.set_cons_zero, List.set_cons_succ, List.length_set, Option.some.injEq, exists_eq_left', exists_eq_left, clearE, wipeE, backE, List.all_cons, List.all_nil, List.foldl_cons, List.foldl_nil, isOwn, Bool.not_false, Bool.not_true, Bool.and_true, Bool.and_self, Bool.true_and, true_and, and_true, List.getD_eq_getElem?_getD, Option.getD_some, asB, gN, gN2, if_true, if_false, reduceIte, Bool.false_eq_true, not_true_eq_false, not_false_eq_true, forall_const, false_implies, implies_true, true_implies, eq_self, addT_i, subT_i, ltT_i, leT_i, gtT_i, geT_i, modT_i, fdivT_i, powT_i, mulT_i, min2T_i, max2T_i, negT_i, intT_i, Int.reduceLT, Int.reduceLE, decide_true, decide_false, decide_eq_true_eq, Bool.and_eq_true, Nat.reduceLeDiff, Nat.zero_le, Nat.le_refl, wp_mLc2, Bool.or_true, Bool.true_or, Bool.false_or, Bool.or_false, Option.bind_some, Option.map_some, sumT, intsT_zs, rng1_z (n := (if m - r.sum < ss[i] then m - r.sum else ss[i]) + 1) (by omega) (by omega)]
      refine wp_lc (xs := zr _) T.int (fun _ => true) (fun n => tupZ (r ++ [n])) ?_ ?_
      · intro n hn
        refine ⟨_, rfl, ?_⟩
        simp only [wp_ok, wp_ex, wp_bad, wp_bind, wp_ofO, wp_noX, ws_nx, ws_rt, ws_bk, ws_ct, ws_ex, ws_bad, ws_st, ws_seq, ws_ite, wp_ite, wp_mF, mV, mC, mOp, mUn, mNil, mCons, mCa, mB, mAnd, mOr, mNot, mAndV, mOrV, mNotV, mIf, mTru, mChain, sNext, sBreak, sCont, sAsg, sDrop, sRet, sRetN, sIf, sBad, sFor, iSeq, iRng, iSeqK, iItm, iZp, mkTup, mkLst, mIxO, mUnO, sOwn, mDict, sFrz, sApp, sPut, sPutL, mDictOf, mDisp1, mSrc, sUnp, mSli, mSo, mNo, mYes, wp_mLc, mFQ, List.map_cons, List.map_nil, List.nil_append, List.cons_append, List.length_cons, List.length_nil, Nat.reduceAdd, Nat.reduceSub, List.replicate, List.getElem?_cons_succ, List.getElem?_cons_zero, List.set_cons_zero, List.set_cons_succ, List.length_set, Option.some.injEq, exists_eq_left', exists_eq_left, clearE, wipeE, backE, List.all_cons, List.all_nil, List.foldl_cons, List.foldl_nil, isOwn, Bool.not_false, Bool.not_true, Bool.and_true, Bool.and_self, Bool.true_and, true_and, and_true, List.getD_eq_getElem?_getD, Option.getD_some, asB, gN, gN2, if_true, if_false, reduceIte, Bool.false_eq_true, not_true_eq_false, not_false_eq_true, forall_const, false_implies, implies_true, true_implies, eq_self, addT_i, subT_i, ltT_i, leT_i, gtT_i, geT_i, modT_i, fdivT_i, powT_i, mulT_i, min2T_i, max2T_i, negT_i, intT_i, Int.reduceLT, Int.reduceLE, decide_true, decide_false, decide_eq_true_eq, Bool.and_eq_true, Nat.reduceLeDiff, Nat.zero_le, Nat.le_refl, wp_mLc2, Bool.or_true, Bool.true_or, Bool.false_or, Bool.or_false, Option.bind_some, Option.map_some]
        rw [show T.tuple [T.int n] = tupZ [n] from rfl, addT_tup (by simp; omega)]
        exact ⟨_, rfl, rfl⟩
      · simp only [wp_ok, wp_ex, wp_bad, wp_bind, wp_ofO, wp_noX, ws_nx, ws_rt, ws_bk, ws_ct, ws_ex, ws_bad, ws_st, ws_seq, ws_ite, wp_ite, wp_mF, mV, mC, mOp, mUn, mNil, mCons, mCa, mB, mAnd, mOr, mNot, mAndV, mOrV, mNotV, mIf, mTru, mChain, sNext, sBreak, sCont, sAsg, sDrop, sRet, sRetN, sIf, sBad, sFor, iSeq, iRng, iSeqK, iItm, iZp, mkTup, mkLst, mIxO, mUnO, sOwn, mDict, sFrz, sApp, sPut, sPutL, mDictOf, mDisp1, mSrc, sUnp, mSli, mSo, mNo, mYes, wp_mLc, mFQ, List.map_cons, List.map_nil, List.nil_append, List.cons_append, List.length_cons, List.length_nil, Nat.reduceAdd, Nat.reduceSub, List.replicate, List.getElem?_cons_succ, List.getElem?_cons_zero, List.set_cons_zero, List.set_cons_succ, List.length_set, Option.some.injEq, exists_eq_left', exists_eq_left, clearE, wipeE, backE, List.all_cons, List.all_nil, List.foldl_cons, List.foldl_nil, isOwn, Bool.not_false, Bool.not_true, Bool.and_true, Bool.and_self, Bool.true_and, true_and, and_true, List.getD_eq_getElem?_getD, Option.getD_some, asB, gN, gN2, if_true, if_false, reduceIte, Bool.false_eq_true, not_true_eq_false, not_false_eq_true, forall_const, false_implies, implies_true, true_implies, eq_self, addT_i, subT_i, ltT_i, leT_i, gtT_i, geT_i, modT_i, fdivT_i, powT_i, mulT_i, min2T_i, max2T_i, negT_i, intT_i, Int.reduceLT, Int.reduceLE, decide_true, decide_false, decide_eq_true_eq, Bool.and_eq_true, Nat.reduceLeDiff, Nat.zero_le, Nat.le_refl, wp_mLc2, Bool.or_true, Bool.true_or, Bool.false_or, Bool.or_false, Option.bind_some, Option.map_some, filter_yes]
    · have e4 : ((ss.take i).foldl (pstep m) [[]]).flatMap (fun r => (zr ((if m - r.sum < ss[i] then m - r.sum else ss[i]) + 1)).map fun n => tupZ (r ++ [n])) = (((ss.take (i + 1)).foldl (pstep m) [[]])).map tupZ := by
        rw [e3]
        unfold pstep
        rw [List.map_flatMap]
        simp only [List.map_map]
        rfl
      rw [e4]
      simp only [wp_ok, wp_ex, wp_bad, wp_bind, wp_ofO, wp_noX, ws_nx, ws_rt, ws_bk, ws_ct, ws_ex, ws_bad, ws_st, ws_seq, ws_ite, wp_ite, wp_mF, mV, mC, mOp, mUn, mNil, mCons, mCa, mB, mAnd, mOr, mNot, mAndV, mOrV, mNotV, mIf, mTru, mChain, sNext, sBreak, sCont, sAsg, sDrop, sRet, sRetN, sIf, sBad, sFor, iSeq, iRng, iSeqK, iItm, iZp, mkTup, mkLst, mIxO, mUnO, sOwn, mDict, sFrz, sApp, sPut, sPutL, mDictOf, mDisp1, mSrc, sUnp, mSli, mSo, mNo, mYes, wp_mLc, mFQ, List.map_cons, List.map_nil, List.nil_append, List.cons_append, List.length_cons, List.length_nil, Nat.reduceAdd, Nat.reduceSub, List.replicate, List.getElem?_cons_succ, List.getElem?_cons_zero, List.set_cons_zero, List.set_cons_succ, List.length_set, Option.some.injEq, exists_eq_left', exists_eq_left, clearE, wipeE, backE, List.all_cons, List.all_nil, List.foldl_cons, List.foldl_nil, isOwn, Bool.not_false, Bool.not_true, Bool.and_true, Bool.and_self, Bool.true_and, true_and, and_true, List.getD_eq_getElem?_getD, Option.getD_some, asB, gN, gN2, if_true, if_false, reduceIte, Bool.false_eq_true, not_true_eq_false, not_false_eq_true, forall_const, false_implies, implies_true, true_implies, eq_self, addT_i, subT_i, ltT_i, leT_i, gtT_i, geT_i, modT_i, fdivT_i, powT_i, mulT_i, min2T_i, max2T_i, negT_i, intT_i, Int.reduceLT, Int.reduceLE, decide_true, decide_false, decide_eq_true_eq, Bool.and_eq_true, Nat.reduceLeDiff, Nat.zero_le, Nat.le_refl, wp_mLc2, Bool.or_true, Bool.true_or, Bool.false_or, Bool.or_false, Option.bind_some, Option.map_some, List.length_map]
      refine ⟨?_, _, rfl⟩
      rw [e2]
      have := List.length_filter_le (fun r : List Int => decide (r.sum ≤ m)) (tup (ss.take (i + 1)))
      have := take_tl z.s (i + 1)
      omega
  · rintro e ⟨s, rfl⟩
    have e1 := pst_rows z.s (show 0 ≤ m by omega) ss.length
    rw [List.take_length] at e1 ⊢
    rw [e1]
    simp only [wp_ok, wp_ex, wp_bad, wp_bind, wp_ofO, wp_noX, ws_nx, ws_rt, ws_bk, ws_ct, ws_ex, ws_bad, ws_st, ws_seq, ws_ite, wp_ite, wp_mF, mV, mC, mOp, mUn, mNil, mCons, mCa, mB, mAnd, mOr, mNot, mAndV, mOrV, mNotV, mIf, mTru, mChain, sNext, sBreak, sCont, sAsg, sDrop, sRet, sRetN, sIf, sBad, sFor, iSeq, iRng, iSeqK, iItm, iZp, mkTup, mkLst, mIxO, mUnO, sOwn, mDict, sFrz, sApp, sPut, sPutL, mDictOf, mDisp1, mSrc, sUnp, mSli, mSo, mNo, mYes, wp_mLc, mFQ, List.map_cons, List.map_nil, List.nil_append, List.cons_append, List.length_cons, List.length_nil, Nat.reduceAdd, Nat.reduceSub, List.replicate, List.getElem?_cons_succ, List.getElem?_cons_zero, List.set_cons_zero, List.set_cons_succ, List.length_set, Option.some.injEq, exists_eq_left', exists_eq_left, clearE, wipeE, backE, List.all_cons, List.all_nil, List.foldl_cons, List.foldl_nil, isOwn, Bool.not_false, Bool.not_true, Bool.and_true, Bool.and_self, Bool.true_and, true_and, and_true, List.getD_eq_getElem?_getD, Option.getD_some, asB, gN, gN2, if_true, if_false, reduceIte, Bool.false_eq_true, not_true_eq_false, not_false_eq_true, forall_const, false_implies, implies_true, true_implies, eq_self, addT_i, subT_i, ltT_i, leT_i, gtT_i, geT_i, modT_i, fdivT_i, powT_i, mulT_i, min2T_i, max2T_i, negT_i, intT_i, Int.reduceLT, Int.reduceLE, decide_true, decide_false, decide_eq_true_eq, Bool.and_eq_true, Nat.reduceLeDiff, Nat.zero_le, Nat.le_refl, wp_mLc2, Bool.or_true, Bool.true_or, Bool.false_or, Bool.or_false, Option.bind_some, Option.map_some, keysD]
    refine wp_lc (xs := (tup ss).filter _) tupZ (fun r => (gLook gs r.sum).isSome) tupZ ?_ ?_
    · intro r hr
      refine ⟨_, rfl, ?_⟩
      simp only [wp_ok, wp_ex, wp_bad, wp_bind, wp_ofO, wp_noX, ws_nx, ws_rt, ws_bk, ws_ct, ws_ex, ws_bad, ws_st, ws_seq, ws_ite, wp_ite, wp_mF, mV, mC, mOp, mUn, mNil, mCons, mCa, mB, mAnd, mOr, mNot, mAndV, mOrV, mNotV, mIf, mTru, mChain, sNext, sBreak, sCont, sAsg, sDrop, sRet, sRetN, sIf, sBad, sFor, iSeq, iRng, iSeqK, iItm, iZp, mkTup, mkLst, mIxO, mUnO, sOwn, mDict, sFrz, sApp, sPut, sPutL, mDictOf, mDisp1, mSrc, sUnp, mSli, mSo, mNo, mYes, wp_mLc, mFQ, List.map_cons, List.map_nil, List.nil_append, List.cons_append, List.length_cons, List.length_nil, Nat.reduceAdd, Nat.reduceSub, List.replicate, List.getElem?_cons_succ, List.getElem?_cons_zero, List.set_cons_zero, List.set_cons_succ, List.length_set, Option.some.injEq, exists_eq_left', exists_eq_left, clearE, wipeE, backE, List.all_cons, List.all_nil, List.foldl_cons, List.foldl_nil, isOwn, Bool.not_false, Bool.not_true, Bool.and_true, Bool.and_self, Bool.true_and, true_and, and_true, List.getD_eq_getElem?_getD, Option.getD_some, asB, gN, gN2, if_true, if_false, reduceIte, Bool.false_eq_true, not_true_eq_false, not_false_eq_true, forall_const, false_implies, implies_true, true_implies, eq_self, addT_i, subT_i, ltT_i, leT_i, gtT_i, geT_i, modT_i, fdivT_i, powT_i, mulT_i, min2T_i, max2T_i, negT_i, intT_i, Int.reduceLT, Int.reduceLE, decide_true, decide_false, decide_eq_true_eq, Bool.and_eq_true, Nat.reduceLeDiff, Nat.zero_le, Nat.le_refl, wp_mLc2, Bool.or_true, Bool.true_or, Bool.false_or, Bool.or_false, Option.bind_some, Option.map_some, sumT, intsT_zs, hasT_d]
    · have e2 : ((tup ss).filter fun r => decide (r.sum ≤ m)).filter (fun r => (gLook gs r.sum).isSome) = Pn ss gs := by
        rw [List.filter_filter]
        refine List.filter_congr fun r _ => ?_
        cases q : (gLook gs r.sum).isSome with
        | false => rfl
        | true =>
          rw [Bool.true_and, decide_eq_true (hm2 _ (gLook_isSome.mp q))]
      rw [e2]
      simp only [wp_ok, wp_ex, wp_bad, wp_bind, wp_ofO, wp_noX, ws_nx, ws_rt, ws_bk, ws_ct, ws_ex, ws_bad, ws_st, ws_seq, ws_ite, wp_ite, wp_mF, mV, mC, mOp, mUn, mNil, mCons, mCa, mB, mAnd, mOr, mNot, mAndV, mOrV, mNotV, mIf, mTru, mChain, sNext, sBreak, sCont, sAsg, sDrop, sRet, sRetN, sIf, sBad, sFor, iSeq, iRng, iSeqK, iItm, iZp, mkTup, mkLst, mIxO, mUnO, sOwn, mDict, sFrz, sApp, sPut, sPutL, mDictOf, mDisp1, mSrc, sUnp, mSli, mSo, mNo, mYes, wp_mLc, mFQ, List.map_cons, List.map_nil, List.nil_append, List.cons_append, List.length_cons, List.length_nil, Nat.reduceAdd, Nat.reduceSub, List.replicate, List.getElem?_cons_succ, List.getElem?_cons_zero, List.set_cons_zero, List.set_cons_succ, List.length_set, Option.some.injEq, exists_eq_left', exists_eq_left, clearE, wipeE, backE, List.all_cons, List.all_nil, List.foldl_cons, List.foldl_nil, isOwn, Bool.not_false, Bool.not_true, Bool.and_true, Bool.and_self, Bool.true_and, true_and, and_true, List.getD_eq_getElem?_getD, Option.getD_some, asB, gN, gN2, if_true, if_false, reduceIte, Bool.false_eq_true, not_true_eq_false, not_false_eq_true, forall_const, false_implies, implies_true, true_implies, eq_self, addT_i, subT_i, ltT_i, leT_i, gtT_i, geT_i, modT_i, fdivT_i, powT_i, mulT_i, min2T_i, max2T_i, negT_i, intT_i, Int.reduceLT, Int.reduceLE, decide_true, decide_false, decide_eq_true_eq, Bool.and_eq_true, Nat.reduceLeDiff, Nat.zero_le, Nat.le_refl, wp_mLc2, Bool.or_true, Bool.true_or, Bool.false_or, Bool.or_false, Option.bind_some, Option.map_some, List.length_map, sortGT_Kn z.g.nd (Nat.le_trans z.s.tl (by decide))]
      have := List.length_filter_le (fun r : List Int => (gLook gs r.sum).isSome) (tup ss)
      have := z.s.tl
      unfold Pn
      omega
end Pl

end
section

/-! PK5: what is a kind, due numbers -/
namespace Pl
open PySem PySem.Spec PyProof.Rows L2 Evl TD Mi
local instance : HasT := ⟨[]⟩
/-- data that isinstance can look at, one level deep -/
def dec : T → Bool
  | .tuple xs => xs.all fun x => (tyN x).isSome
  | d => (tyN d).isSome
theorem dec_ty {d : T} (h : dec d = true) : (tyN d).isSome = true := by
  cases d <;> first | exact h | rfl
def fitV (ss : List Int) : T → Bool
  | .tuple xs => decide (xs.length = ss.length) && (xs.zip ss).all fun p => within p.1 0 p.2
  | _ => false
def isTup : T → Bool
  | .tuple _ => true
  | _ => false
theorem isT_tuple {d : T} (h : (tyN d).isSome = true) : isT "tuple" d = some (.bool (isTup d)) := by
  unfold isT
  cases d with
  | dict ps =>
    cases ps with
    | nil => simp [tyN, isN, isTup]
    | cons p ps =>
      obtain ⟨k, v⟩ := p
      cases k <;> simp [tyN, isN, isTup] at h ⊢
  | scr ns => simp [tyN] at h
  | obj c fs => simp [tyN] at h
  | _ => simp [tyN, isN, isTup]
theorem seqU_seq {ns : List Int} {d : T} (h : SeqZ ns d) : seqU d = some (zs ns) := by
  rcases h with rfl | rfl <;> rfl
theorem zip_zs (xs : List T) (ss : List Int) : ((xs.zip (zs ss)).map fun p => T.tuple [p.1, p.2]) = (xs.zip ss).map fun p => T.tuple [p.1, .int p.2] := by
  unfold zs
  rw [List.zip_map_right, List.map_map]
  rfl
theorem f_fits {ss : List Int} {d v : T} (h : SeqZ ss d) (hl : ss.length ≤ 1000) (hv : dec v = true) : F_fits_classes [d, v] = .ok (.bool (fitV ss v)) := by
  refine runF_ok ?_
  unfold m_fits_classes
  simp only [wp_ok, wp_ex, wp_bad, wp_bind, wp_ofO, wp_noX, ws_nx, ws_rt, ws_bk, ws_ct, ws_ex, ws_bad, ws_st, ws_seq, ws_ite, wp_ite, wp_mF, mV, mC, mOp, mUn, mNil, mCons, mCa, mB, mAnd, mOr, mNot, mAndV, mOrV, mNotV, mIf, mTru, mChain, sNext, sBreak, sCont, sAsg, sDrop, sRet, sRetN, sIf, sBad, sFor, iSeq, iRng, iSeqK, iItm, iZp, mkTup, mkLst, mIxO, mUnO, sOwn, mDict, sFrz, sApp, sPut, sPutL, mDictOf, mDisp1, mSrc, sUnp, mSli, mSo, mNo, mYes, wp_mLc, mFQ, List.map_cons, List.map_nil, List.nil_append, List.cons_append, List.length_cons, List.length_nil, Nat.reduceAdd, Nat.reduceSub, List.replicate, List.getElem?_cons_succ, List.getElem?_cons_zero, List.set_cons_zero, List.set_cons_succ, List.length_set, Option.some.injEq, exists_eq_left', exists_eq_left, clearE, wipeE, backE, List.all_cons, List.all_nil, List.foldl_cons, List.foldl_nil, isOwn, Bool.not_false, Bool.not_true, Bool.and_true, Bool.and_self, Bool.true_and, true_and, and_true, List.getD_eq_getElem?_getD, Option.getD_some, asB, gN, gN2, if_true, if_false, reduceIte, Bool.false_eq_true, not_true_eq_false, not_false_eq_true, forall_const, false_implies, implies_true, true_implies, eq_self, addT_i, subT_i, ltT_i, leT_i, gtT_i, geT_i, modT_i, fdivT_i, powT_i, mulT_i, min2T_i, max2T_i, negT_i, intT_i, Int.reduceLT, Int.reduceLE, decide_true, decide_false, decide_eq_true_eq, Bool.and_eq_true, Nat.reduceLeDiff, Nat.zero_le, Nat.le_refl, wp_mLc2, Bool.or_true, Bool.true_or, Bool.false_or, Bool.or_false, Option.bind_some, Option.map_some, isT_tuple (dec_ty hv), tru]
  cases v with
  | tuple xs =>
    have e1 : lenA (.tuple xs) = some (.int xs.length) := rfl
    have e2 : zipT [.tuple xs, d] = some ((xs.zip ss).map fun p => T.tuple [p.1, .int p.2]) := by
      show ((seqU (.tuple xs)).bind fun xs => (seqU d).map fun ys => (xs.zip ys).map fun p => T.tuple [p.1, p.2]) = _
      rw [seqU_seq h]
      exact congrArg some (zip_zs xs ss)
    simp only [wp_ok, wp_ex, wp_bad, wp_bind, wp_ofO, wp_noX, ws_nx, ws_rt, ws_bk, ws_ct, ws_ex, ws_bad, ws_st, ws_seq, ws_ite, wp_ite, wp_mF, mV, mC, mOp, mUn, mNil, mCons, mCa, mB, mAnd, mOr, mNot, mAndV, mOrV, mNotV, mIf, mTru, mChain, sNext, sBreak, sCont, sAsg, sDrop, sRet, sRetN, sIf, sBad, sFor, iSeq, iRng, iSeqK, iItm, iZp, mkTup, mkLst, mIxO, mUnO, sOwn, mDict, sFrz, sApp, sPut, sPutL, mDictOf, mDisp1, mSrc, sUnp, mSli, mSo, mNo, mYes, wp_mLc, mFQ, List.map_cons, List.map_nil, List.nil_append, List.cons_append, List.length_cons, List.length_nil, Nat.reduceAdd, Nat.reduceSub, List.replicate, List.getElem?_cons_succ, List.getElem?_cons_zero, List.set_cons_zero, List.set_cons_succ, List.length_set, Option.some.injEq, exists_eq_left', exists_eq_left, clearE, wipeE, backE, List.all_cons, List.all_nil, List.foldl_cons, List.foldl_nil, isOwn, Bool.not_false, Bool.not_true, Bool.and_true, Bool.and_self, Bool.true_and, true_and, and_true, List.getD_eq_getElem?_getD, Option.getD_some, asB, gN, gN2, if_true, if_false, reduceIte, Bool.false_eq_true, not_true_eq_false, not_false_eq_true, forall_const, false_implies, implies_true, true_implies, eq_self, addT_i, subT_i, ltT_i, leT_i, gtT_i, geT_i, modT_i, fdivT_i, powT_i, mulT_i, min2T_i, max2T_i, negT_i, intT_i, Int.reduceLT, Int.reduceLE, decide_true, decide_false, decide_eq_true_eq, Bool.and_eq_true, Nat.reduceLeDiff, Nat.zero_le, Nat.le_refl, wp_mLc2, Bool.or_true, Bool.true_or, Bool.false_or, Bool.or_false, Option.bind_some, Option.map_some, isTup, e1, e2, lenA_seq h, neT_i, fitV]
    by_cases q : xs.length = ss.length
    · have q' : ((xs.length : Int) == (ss.length : Int)) = true := by rw [beq_iff_eq]; omega
      simp only [wp_ok, wp_ex, wp_bad, wp_bind, wp_ofO, wp_noX, ws_nx, ws_rt, ws_bk, ws_ct, ws_ex, ws_bad, ws_st, ws_seq, ws_ite, wp_ite, wp_mF, mV, mC, mOp, mUn, mNil, mCons, mCa, mB, mAnd, mOr, mNot, mAndV, mOrV, mNotV, mIf, mTru, mChain, sNext, sBreak, sCont, sAsg, sDrop, sRet, sRetN, sIf, sBad, sFor, iSeq, iRng, iSeqK, iItm, iZp, mkTup, mkLst, mIxO, mUnO, sOwn, mDict, sFrz, sApp, sPut, sPutL, mDictOf, mDisp1, mSrc, sUnp, mSli, mSo, mNo, mYes, wp_mLc, mFQ, List.map_cons, List.map_nil, List.nil_append, List.cons_append, List.length_cons, List.length_nil, Nat.reduceAdd, Nat.reduceSub, List.replicate, List.getElem?_cons_succ, List.getElem?_cons_zero, List.set_cons_zero, List.set_cons_succ, List.length_set, Option.some.injEq, exists_eq_left', exists_eq_left, clearE, wipeE, backE, List.all_cons, List.all_nil, List.foldl_cons, List.foldl_nil, isOwn, Bool.not_false, Bool.not_true, Bool.and_true, Bool.and_self, Bool.true_and, true_and, and_true, List.getD_eq_getElem?_getD, Option.getD_some, asB, gN, gN2, if_true, if_false, reduceIte, Bool.false_eq_true, not_true_eq_false, not_false_eq_true, forall_const, false_implies, implies_true, true_implies, eq_self, addT_i, subT_i, ltT_i, leT_i, gtT_i, geT_i, modT_i, fdivT_i, powT_i, mulT_i, min2T_i, max2T_i, negT_i, intT_i, Int.reduceLT, Int.reduceLE, decide_true, decide_false, decide_eq_true_eq, Bool.and_eq_true, Nat.reduceLeDiff, Nat.zero_le, Nat.le_refl, wp_mLc2, Bool.or_true, Bool.true_or, Bool.false_or, Bool.or_false, Option.bind_some, Option.map_some, q, beq_self_eq_true]
      refine wp_lc (xs := xs.zip ss) (fun p => T.tuple [p.1, .int p.2]) (fun _ => true) (fun p => T.bool (within p.1 0 p.2)) ?_ ?_
      · intro p hp
        refine ⟨_, rfl, ?_⟩
        have hx : (tyN p.1).isSome = true := List.all_eq_true.mp hv p.1 (List.of_mem_zip hp).1
        simp only [wp_ok, wp_ex, wp_bad, wp_bind, wp_ofO, wp_noX, ws_nx, ws_rt, ws_bk, ws_ct, ws_ex, ws_bad, ws_st, ws_seq, ws_ite, wp_ite, wp_mF, mV, mC, mOp, mUn, mNil, mCons, mCa, mB, mAnd, mOr, mNot, mAndV, mOrV, mNotV, mIf, mTru, mChain, sNext, sBreak, sCont, sAsg, sDrop, sRet, sRetN, sIf, sBad, sFor, iSeq, iRng, iSeqK, iItm, iZp, mkTup, mkLst, mIxO, mUnO, sOwn, mDict, sFrz, sApp, sPut, sPutL, mDictOf, mDisp1, mSrc, sUnp, mSli, mSo, mNo, mYes, wp_mLc, mFQ, List.map_cons, List.map_nil, List.nil_append, List.cons_append, List.length_cons, List.length_nil, Nat.reduceAdd, Nat.reduceSub, List.replicate, List.getElem?_cons_succ, List.getElem?_cons_zero, List.set_cons_zero, List.set_cons_succ, List.length_set, Option.some.injEq, exists_eq_left', exists_eq_left, clearE, wipeE, backE, List.all_cons, List.all_nil, List.foldl_cons, List.foldl_nil, isOwn, Bool.not_false, Bool.not_true, Bool.and_true, Bool.and_self, Bool.true_and, true_and, and_true, List.getD_eq_getElem?_getD, Option.getD_some, asB, gN, gN2, if_true, if_false, reduceIte, Bool.false_eq_true, not_true_eq_false, not_false_eq_true, forall_const, false_implies, implies_true, true_implies, eq_self, addT_i, subT_i, ltT_i, leT_i, gtT_i, geT_i, modT_i, fdivT_i, powT_i, mulT_i, min2T_i, max2T_i, negT_i, intT_i, Int.reduceLT, Int.reduceLE, decide_true, decide_false, decide_eq_true_eq, Bool.and_eq_true, Nat.reduceLeDiff, Nat.zero_le, Nat.le_refl, wp_mLc2, Bool.or_true, Bool.true_or, Bool.false_or, Bool.or_false, Option.bind_some, Option.map_some, f_is_within hx]
      · simp only [wp_ok, wp_ex, wp_bad, wp_bind, wp_ofO, wp_noX, ws_nx, ws_rt, ws_bk, ws_ct, ws_ex, ws_bad, ws_st, ws_seq, ws_ite, wp_ite, wp_mF, mV, mC, mOp, mUn, mNil, mCons, mCa, mB, mAnd, mOr, mNot, mAndV, mOrV, mNotV, mIf, mTru, mChain, sNext, sBreak, sCont, sAsg, sDrop, sRet, sRetN, sIf, sBad, sFor, iSeq, iRng, iSeqK, iItm, iZp, mkTup, mkLst, mIxO, mUnO, sOwn, mDict, sFrz, sApp, sPut, sPutL, mDictOf, mDisp1, mSrc, sUnp, mSli, mSo, mNo, mYes, wp_mLc, mFQ, List.map_cons, List.map_nil, List.nil_append, List.cons_append, List.length_cons, List.length_nil, Nat.reduceAdd, Nat.reduceSub, List.replicate, List.getElem?_cons_succ, List.getElem?_cons_zero, List.set_cons_zero, List.set_cons_succ, List.length_set, Option.some.injEq, exists_eq_left', exists_eq_left, clearE, wipeE, backE, List.all_cons, List.all_nil, List.foldl_cons, List.foldl_nil, isOwn, Bool.not_false, Bool.not_true, Bool.and_true, Bool.and_self, Bool.true_and, true_and, and_true, List.getD_eq_getElem?_getD, Option.getD_some, asB, gN, gN2, if_true, if_false, reduceIte, Bool.false_eq_true, not_true_eq_false, not_false_eq_true, forall_const, false_implies, implies_true, true_implies, eq_self, addT_i, subT_i, ltT_i, leT_i, gtT_i, geT_i, modT_i, fdivT_i, powT_i, mulT_i, min2T_i, max2T_i, negT_i, intT_i, Int.reduceLT, Int.reduceLE, decide_true, decide_false, decide_eq_true_eq, Bool.and_eq_true, Nat.reduceLeDiff, Nat.zero_le, Nat.le_refl, wp_mLc2, Bool.or_true, Bool.true_or, Bool.false_or, Bool.or_false, Option.bind_some, Option.map_some, filter_yes, List.length_map, allT_of, List.length_zip]
        omega
    · have q' : ((xs.length : Int) == (ss.length : Int)) = false := by rw [beq_eq_false_iff_ne]; omega
      simp only [wp_ok, wp_ex, wp_bad, wp_bind, wp_ofO, wp_noX, ws_nx, ws_rt, ws_bk, ws_ct, ws_ex, ws_bad, ws_st, ws_seq, ws_ite, wp_ite, wp_mF, mV, mC, mOp, mUn, mNil, mCons, mCa, mB, mAnd, mOr, mNot, mAndV, mOrV, mNotV, mIf, mTru, mChain, sNext, sBreak, sCont, sAsg, sDrop, sRet, sRetN, sIf, sBad, sFor, iSeq, iRng, iSeqK, iItm, iZp, mkTup, mkLst, mIxO, mUnO, sOwn, mDict, sFrz, sApp, sPut, sPutL, mDictOf, mDisp1, mSrc, sUnp, mSli, mSo, mNo, mYes, wp_mLc, mFQ, List.map_cons, List.map_nil, List.nil_append, List.cons_append, List.length_cons, List.length_nil, Nat.reduceAdd, Nat.reduceSub, List.replicate, List.getElem?_cons_succ, List.getElem?_cons_zero, List.set_cons_zero, List.set_cons_succ, List.length_set, Option.some.injEq, exists_eq_left', exists_eq_left, clearE, wipeE, backE, List.all_cons, List.all_nil, List.foldl_cons, List.foldl_nil, isOwn, Bool.not_false, Bool.not_true, Bool.and_true, Bool.and_self, Bool.true_and, true_and, and_true, List.getD_eq_getElem?_getD, Option.getD_some, asB, gN, gN2, if_true, if_false, reduceIte, Bool.false_eq_true, not_true_eq_false, not_false_eq_true, forall_const, false_implies, implies_true, true_implies, eq_self, addT_i, subT_i, ltT_i, leT_i, gtT_i, geT_i, modT_i, fdivT_i, powT_i, mulT_i, min2T_i, max2T_i, negT_i, intT_i, Int.reduceLT, Int.reduceLE, decide_true, decide_false, decide_eq_true_eq, Bool.and_eq_true, Nat.reduceLeDiff, Nat.zero_le, Nat.le_refl, wp_mLc2, Bool.or_true, Bool.true_or, Bool.false_or, Bool.or_false, Option.bind_some, Option.map_some, q', q, Bool.false_and]
  | _ => simp only [wp_ok, wp_ex, wp_bad, wp_bind, wp_ofO, wp_noX, ws_nx, ws_rt, ws_bk, ws_ct, ws_ex, ws_bad, ws_st, ws_seq, ws_ite, wp_ite, wp_mF, mV, mC, mOp, mUn, mNil, mCons, mCa, mB, mAnd, mOr, mNot, mAndV, mOrV, mNotV, mIf, mTru, mChain, sNext, sBreak, sCont, sAsg, sDrop, sRet, sRetN, sIf, sBad, sFor, iSeq, iRng, iSeqK, iItm, iZp, mkTup, mkLst, mIxO, mUnO, sOwn, mDict, sFrz, sApp, sPut, sPutL, mDictOf, mDisp1, mSrc, sUnp, mSli, mSo, mNo, mYes, wp_mLc, mFQ, List.map_cons, List.map_nil, List.nil_append, List.cons_append, List.length_cons, List.length_nil, Nat.reduceAdd, Nat.reduceSub, List.replicate, List.getElem?_cons_succ, List.getElem?_cons_zero, List.set_cons_zero, List.set_cons_succ, List.length_set, Option.some.injEq, exists_eq_left', exists_eq_left, clearE, wipeE, backE, List.all_cons, List.all_nil, List.foldl_cons, List.foldl_nil, isOwn, Bool.not_false, Bool.not_true, Bool.and_true, Bool.and_self, Bool.true_and, true_and, and_true, List.getD_eq_getElem?_getD, Option.getD_some, asB, gN, gN2, if_true, if_false, reduceIte, Bool.false_eq_true, not_true_eq_false, not_false_eq_true, forall_const, false_implies, implies_true, true_implies, eq_self, addT_i, subT_i, ltT_i, leT_i, gtT_i, geT_i, modT_i, fdivT_i, powT_i, mulT_i, min2T_i, max2T_i, negT_i, intT_i, Int.reduceLT, Int.reduceLE, decide_true, decide_false, decide_eq_true_eq, Bool.and_eq_true, Nat.reduceLeDiff, Nat.zero_le, Nat.le_refl, wp_mLc2, Bool.or_true, Bool.true_or, Bool.false_or, Bool.or_false, Option.bind_some, Option.map_some, isTup, fitV]
/-- the kind that a value is -/
def kindOf (ss : List Int) (gs : List (Int × Int)) (v : T) : Bool := fitV ss v && match tupI v with
  | some r => (gLook gs r.sum).isSome
  | none => false
theorem tupI_sum {v : T} {r : List Int} (h : tupI v = some r) : sumT v = some (.int r.sum) := by
  cases v with
  | tuple xs =>
    have h' : intsT xs = some r := h
    show (intsT xs).map _ = _
    rw [h']
    rfl
  | _ => cases h
theorem intsT_some {xs : List T} {r : List Int} (h : intsT xs = some r) : xs = zs r := by
  have q : tupI (.tuple xs) = some r := h
  have := tupI_some q
  injection this
theorem fit_ints {ss : List Int} {xs : List T} (h : fitV ss (.tuple xs) = true) : ∃ r, xs = zs r ∧ r ∈ tup ss := by
  simp only [fitV, Bool.and_eq_true, decide_eq_true_eq] at h
  obtain ⟨h1, h2⟩ := h
  induction xs generalizing ss with
  | nil =>
    refine ⟨[], rfl, ?_⟩
    rcases ss with _ | ⟨s, ss⟩
    · simp [tup]
    · simp at h1
  | cons x xs ih =>
    rcases ss with _ | ⟨s, ss⟩
    · simp at h1
    · rw [List.zip_cons_cons, List.all_cons, Bool.and_eq_true] at h2
      obtain ⟨r, rfl, hr⟩ := ih (by simpa using h1) h2.2
      cases x with
      | int i =>
        have h3 := h2.1
        simp only [within, Bool.and_eq_true, decide_eq_true_eq] at h3
        refine ⟨i :: r, rfl, ?_⟩
        simp only [tup, List.mem_flatMap, List.mem_map]
        exact ⟨i, mem_zr.mpr (by omega), r, hr, rfl⟩
      | _ => exact absurd h2.1 (by simp [within])
theorem fit_tup {ss r : List Int} (h : r ∈ tup ss) : fitV ss (tupZ r) = true := by
  obtain ⟨h1, h2⟩ := mem_tup.mp h
  simp only [fitV, tupZ, zs, List.length_map, h1, decide_true, Bool.true_and, List.zip_map_left, List.all_map]
  rw [List.all_eq_true]
  intro p hp
  have := h2 p hp
  simp only [Function.comp, Prod.map, within, Bool.and_eq_true, decide_eq_true_eq, id]
  exact this
theorem tup_zip {ss r : List Int} (h : r ∈ tup ss) : ∀ p ∈ ss.zip r, p.1 ∈ ss ∧ 0 ≤ p.2 ∧ p.2 ≤ p.1 := by
  induction ss generalizing r with
  | nil => intro p hp; simp at hp
  | cons s ss ih =>
    simp only [tup, List.mem_flatMap, List.mem_map] at h
    obtain ⟨n, hn, r', hr, rfl⟩ := h
    rw [mem_zr] at hn
    intro p hp
    rw [List.zip_cons_cons] at hp
    rcases List.mem_cons.mp hp with rfl | hp
    · exact ⟨List.mem_cons_self, hn.1, by show n ≤ s; omega⟩
    · obtain ⟨h1, h2⟩ := ih hr p hp
      exact ⟨List.mem_cons_of_mem _ h1, h2⟩
theorem f_is_kind_of {ss : List Int} {gs : List (Int × Int)} {d v : T} (h : SeqZ ss d) (hl : ss.length ≤ 1000) (hv : dec v = true) : F_is_kind_of [d, dctZ gs, v] = .ok (.bool (kindOf ss gs v)) := by
  refine runF_ok ?_
  unfold m_is_kind_of
  simp only [wp_ok, wp_ex, wp_bad, wp_bind, wp_ofO, wp_noX, ws_nx, ws_rt, ws_bk, ws_ct, ws_ex, ws_bad, ws_st, ws_seq, ws_ite, wp_ite, wp_mF, mV, mC, mOp, mUn, mNil, mCons, mCa, mB, mAnd, mOr, mNot, mAndV, mOrV, mNotV, mIf, mTru, mChain, sNext, sBreak, sCont, sAsg, sDrop, sRet, sRetN, sIf, sBad, sFor, iSeq, iRng, iSeqK, iItm, iZp, mkTup, mkLst, mIxO, mUnO, sOwn, mDict, sFrz, sApp, sPut, sPutL, mDictOf, mDisp1, mSrc, sUnp, mSli, mSo, mNo, mYes, wp_mLc, mFQ, List.map_cons, List.map_nil, List.nil_append, List.cons_append, List.length_cons, List.length_nil, Nat.reduceAdd, Nat.reduceSub, List.replicate, List.getElem?_cons_succ, List.getElem?_cons_zero, List.set_cons_zero, List.set_cons_succ, List.length_set, Option.some.injEq, exists_eq_left', exists_eq_left, clearE, wipeE, backE, List.all_cons, List.all_nil, List.foldl_cons, List.foldl_nil, isOwn, Bool.not_false, Bool.not_true, Bool.and_true, Bool.and_self, Bool.true_and, true_and, and_true, List.getD_eq_getElem?_getD, Option.getD_some, asB, gN, gN2, if_true, if_false, reduceIte, Bool.false_eq_true, not_true_eq_false, not_false_eq_true, forall_const, false_implies, implies_true, true_implies, eq_self, addT_i, subT_i, ltT_i, leT_i, gtT_i, geT_i, modT_i, fdivT_i, powT_i, mulT_i, min2T_i, max2T_i, negT_i, intT_i, Int.reduceLT, Int.reduceLE, decide_true, decide_false, decide_eq_true_eq, Bool.and_eq_true, Nat.reduceLeDiff, Nat.zero_le, Nat.le_refl, wp_mLc2, Bool.or_true, Bool.true_or, Bool.false_or, Bool.or_false, Option.bind_some, Option.map_some, f_fits h hl hv, kindOf]
  cases q : fitV ss v with
  | false => simp only [wp_ok, wp_ex, wp_bad, wp_bind, wp_ofO, wp_noX, ws_nx, ws_rt, ws_bk, ws_ct, ws_ex, ws_bad, ws_st, ws_seq, ws_ite, wp_ite, wp_mF, mV, mC, mOp, mUn, mNil, mCons, mCa, mB, mAnd, mOr, mNot, mAndV, mOrV, mNotV, mIf, mTru, mChain, sNext, sBreak, sCont, sAsg, sDrop, sRet, sRetN, sIf, sBad, sFor, iSeq, iRng, iSeqK, iItm, iZp, mkTup, mkLst, mIxO, mUnO, sOwn, mDict, sFrz, sApp, sPut, sPutL, mDictOf, mDisp1, mSrc, sUnp, mSli, mSo, mNo, mYes, wp_mLc, mFQ, List.map_cons, List.map_nil, List.nil_append, List.cons_append, List.length_cons, List.length_nil, Nat.reduceAdd, Nat.reduceSub, List.replicate, List.getElem?_cons_succ, List.getElem?_cons_zero, List.set_cons_zero, List.set_cons_succ, List.length_set, Option.some.injEq, exists_eq_left', exists_eq_left, clearE, wipeE, backE, List.all_cons, List.all_nil, List.foldl_cons, List.foldl_nil, isOwn, Bool.not_false, Bool.not_true, Bool.and_true, Bool.and_self, Bool.true_and, true_and, and_true, List.getD_eq_getElem?_getD, Option.getD_some, asB, gN, gN2, if_true, if_false, reduceIte, Bool.false_eq_true, not_true_eq_false, not_false_eq_true, forall_const, false_implies, implies_true, true_implies, eq_self, addT_i, subT_i, ltT_i, leT_i, gtT_i, geT_i, modT_i, fdivT_i, powT_i, mulT_i, min2T_i, max2T_i, negT_i, intT_i, Int.reduceLT, Int.reduceLE, decide_true, decide_false, decide_eq_true_eq, Bool.and_eq_true, Nat.reduceLeDiff, Nat.zero_le, Nat.le_refl, wp_mLc2, Bool.or_true, Bool.true_or, Bool.false_or, Bool.or_false, Option.bind_some, Option.map_some, Bool.false_and]
  | true =>
    cases v with
    | tuple xs =>
      obtain ⟨r, rfl, hr⟩ := fit_ints q
      have e : tupI (.tuple (zs r)) = some r := intsT_zs r
      simp only [wp_ok, wp_ex, wp_bad, wp_bind, wp_ofO, wp_noX, ws_nx, ws_rt, ws_bk, ws_ct, ws_ex, ws_bad, ws_st, ws_seq, ws_ite, wp_ite, wp_mF, mV, mC, mOp, mUn, mNil, mCons, mCa, mB, mAnd, mOr, mNot, mAndV, mOrV, mNotV, mIf, mTru, mChain, sNext, sBreak, sCont, sAsg, sDrop, sRet, sRetN, sIf, sBad, sFor, iSeq, iRng, iSeqK, iItm, iZp, mkTup, mkLst, mIxO, mUnO, sOwn, mDict, sFrz, sApp, sPut, sPutL, mDictOf, mDisp1, mSrc, sUnp, mSli, mSo, mNo, mYes, wp_mLc, mFQ, List.map_cons, List.map_nil, List.nil_append, List.cons_append, List.length_cons, List.length_nil, Nat.reduceAdd, Nat.reduceSub, List.replicate, List.getElem?_cons_succ, List.getElem?_cons_zero, List.set_cons_zero, List.set_cons_succ, List.length_set, Option.some.injEq, exists_eq_left', exists_eq_left, clearE, wipeE, backE, List.all_cons, List.all_nil, List.foldl_cons, List.foldl_nil, isOwn, Bool.not_false, Bool.not_true, Bool.and_true, Bool.and_self, Bool.true_and, true_and, and_true, List.getD_eq_getElem?_getD, Option.getD_some, asB, gN, gN2, if_true, if_false, reduceIte, Bool.false_eq_true, not_true_eq_false, not_false_eq_true, forall_const, false_implies, implies_true, true_implies, eq_self, addT_i, subT_i, ltT_i, leT_i, gtT_i, geT_i, modT_i, fdivT_i, powT_i, mulT_i, min2T_i, max2T_i, negT_i, intT_i, Int.reduceLT, Int.reduceLE, decide_true, decide_false, decide_eq_true_eq, Bool.and_eq_true, Nat.reduceLeDiff, Nat.zero_le, Nat.le_refl, wp_mLc2, Bool.or_true, Bool.true_or, Bool.false_or, Bool.or_false, Option.bind_some, Option.map_some, tupI_sum e, hasT_d, e]
    | _ => exact absurd q (by simp [fitV])
theorem kindOf_iff {ss : List Int} {gs : List (Int × Int)} {v : T} : kindOf ss gs v = true ↔ ∃ r ∈ Kn ss gs, v = tupZ r := by
  unfold kindOf
  rw [Bool.and_eq_true]
  constructor
  · rintro ⟨h1, h2⟩
    cases v with
    | tuple xs =>
      obtain ⟨r, rfl, hr⟩ := fit_ints h1
      have e : tupI (.tuple (zs r)) = some r := intsT_zs r
      rw [e] at h2
      exact ⟨r, mem_Kn.mpr ⟨hr, h2⟩, rfl⟩
    | _ => exact absurd h1 (by simp [fitV])
  · rintro ⟨r, hr, rfl⟩
    obtain ⟨h1, h2⟩ := mem_Kn.mp hr
    have e : tupI (tupZ r) = some r := intsT_zs r
    exact ⟨fit_tup h1, by rw [e]; exact h2⟩
theorem f_is_kind {ss : List Int} {gs : List (Int × Int)} {d v : T} (h : SeqZ ss d) (z : Stg ss gs) (hv : dec v = true) : F_is_kind [d, dctZ gs, v] = .ok (.bool (kindOf ss gs v)) := by
  refine runF_ok ?_
  unfold m_is_kind
  simp only [wp_ok, wp_ex, wp_bad, wp_bind, wp_ofO, wp_noX, ws_nx, ws_rt, ws_bk, ws_ct, ws_ex, ws_bad, ws_st, ws_seq, ws_ite, wp_ite, wp_mF, mV, mC, mOp, mUn, mNil, mCons, mCa, mB, mAnd, mOr, mNot, mAndV, mOrV, mNotV, mIf, mTru, mChain, sNext, sBreak, sCont, sAsg, sDrop, sRet, sRetN, sIf, sBad, sFor, iSeq, iRng, iSeqK, iItm, iZp, mkTup, mkLst, mIxO, mUnO, sOwn, mDict, sFrz, sApp, sPut, sPutL, mDictOf, mDisp1, mSrc, sUnp, mSli, mSo, mNo, mYes, wp_mLc, mFQ, List.map_cons, List.map_nil, List.nil_append, List.cons_append, List.length_cons, List.length_nil, Nat.reduceAdd, Nat.reduceSub, List.replicate, List.getElem?_cons_succ, List.getElem?_cons_zero, List.set_cons_zero, List.set_cons_succ, List.length_set, Option.some.injEq, exists_eq_left', exists_eq_left, clearE, wipeE, backE, List.all_cons, List.all_nil, List.foldl_cons, List.foldl_nil, isOwn, Bool.not_false, Bool.not_true, Bool.and_true, Bool.and_self, Bool.true_and, true_and, and_true, List.getD_eq_getElem?_getD, Option.getD_some, asB, gN, gN2, if_true, if_false, reduceIte, Bool.false_eq_true, not_true_eq_false, not_false_eq_true, forall_const, false_implies, implies_true, true_implies, eq_self, addT_i, subT_i, ltT_i, leT_i, gtT_i, geT_i, modT_i, fdivT_i, powT_i, mulT_i, min2T_i, max2T_i, negT_i, intT_i, Int.reduceLT, Int.reduceLE, decide_true, decide_false, decide_eq_true_eq, Bool.and_eq_true, Nat.reduceLeDiff, Nat.zero_le, Nat.le_refl, wp_mLc2, Bool.or_true, Bool.true_or, Bool.false_or, Bool.or_false, Option.bind_some, Option.map_some, f_check_setting h z, f_is_kind_of h (show ss.length ≤ 1000 by have := z.s.len; omega) hv]
theorem dec_tupZ (r : List Int) : dec (tupZ r) = true := by
  show (zs r).all _ = true
  rw [List.all_eq_true]
  intro x hx
  obtain ⟨i, _, rfl⟩ := List.mem_map.mp hx
  rfl
/-- how many teams of a kind there are -/
def dueW (w : Int) (ss r : List Int) : Int := (ss.zip r).foldl (fun w p => w * chF p.1 p.2) w
def due (ss : List Int) (gs : List (Int × Int)) (r : List Int) : Int := dueW ((gLook gs r.sum).getD 0) ss r
theorem chF_small : ∀ n : Nat, n < 11 → ∀ k : Nat, k < 11 → 0 ≤ chF n k ∧ chF n k ≤ 252 := by decide +kernel
theorem chF_le {n k : Int} (h1 : 0 ≤ n) (h2 : n ≤ 10) (h3 : 0 ≤ k) (h4 : k ≤ 10) : 0 ≤ chF n k ∧ chF n k ≤ 252 := by
  have := chF_small n.toNat (by omega) k.toNat (by omega)
  rwa [show (n.toNat : Int) = n by omega, show (k.toNat : Int) = k by omega] at this
theorem f_due_of {ss : List Int} {gs : List (Int × Int)} {d : T} {r : List Int} (h : SeqZ ss d) (z : Stg ss gs) (hr : r ∈ Kn ss gs) : F_due_of [d, dctZ gs, tupZ r] = .ok (.int (due ss gs r)) := by
  refine runF_ok ?_
  unfold m_due_of
  have e : tupI (tupZ r) = some r := intsT_zs r
  have hk : kindOf ss gs (tupZ r) = true := kindOf_iff.mpr ⟨r, hr, rfl⟩
  obtain ⟨hr1, hr2⟩ := mem_Kn.mp hr
  obtain ⟨w, hw⟩ := Option.isSome_iff_exists.mp hr2
  have e2 : zipT [d, tupZ r] = some ((ss.zip r).map fun p => T.tuple [.int p.1, .int p.2]) := by
    show ((seqU d).bind fun xs => (seqU (tupZ r)).map fun ys => (xs.zip ys).map fun p => T.tuple [p.1, p.2]) = _
    rw [seqU_seq h]
    show some (((zs ss).zip (zs r)).map fun p => T.tuple [p.1, p.2]) = _
    rw [zip_zs]
    unfold zs
    rw [List.zip_map_left, List.map_map]
    rfl
  simp only [wp_ok, wp_ex, wp_bad, wp_bind, wp_ofO, wp_noX, ws_nx, ws_rt, ws_bk, ws_ct, ws_ex, ws_bad, ws_st, ws_seq, ws_ite, wp_ite, wp_mF, mV, mC, mOp, mUn, mNil, mCons, mCa, mB, mAnd, mOr, mNot, mAndV, mOrV, mNotV, mIf, mTru, mChain, sNext, sBreak, sCont, sAsg, sDrop, sRet, sRetN, sIf, sBad, sFor, iSeq, iRng, iSeqK, iItm, iZp, mkTup, mkLst, mIxO, mUnO, sOwn, mDict, sFrz, sApp, sPut, sPutL, mDictOf, mDisp1, mSrc, sUnp, mSli, mSo, mNo, mYes, wp_mLc, mFQ, List.map_cons, List.map_nil, List.nil_append, List.cons_append, List.length_cons, List.length_nil, Nat.reduceAdd, Nat.reduceSub, List.replicate, List.getElem?_cons_succ, List.getElem?_cons_zero, List.set_cons_zero, List.set_cons_succ, List.length_set, Option.some.injEq, exists_eq_left', exists_eq_left, clearE, wipeE, backE, List.all_cons, List.all_nil, List.foldl_cons, List.foldl_nil, isOwn, Bool.not_false, Bool.not_true, Bool.and_true, Bool.and_self, Bool.true_and, true_and, and_true, List.getD_eq_getElem?_getD, Option.getD_some, asB, gN, gN2, if_true, if_false, reduceIte, Bool.false_eq_true, not_true_eq_false, not_false_eq_true, forall_const, false_implies, implies_true, true_implies, eq_self, addT_i, subT_i, ltT_i, leT_i, gtT_i, geT_i, modT_i, fdivT_i, powT_i, mulT_i, min2T_i, max2T_i, negT_i, intT_i, Int.reduceLT, Int.reduceLE, decide_true, decide_false, decide_eq_true_eq, Bool.and_eq_true, Nat.reduceLeDiff, Nat.zero_le, Nat.le_refl, wp_mLc2, Bool.or_true, Bool.true_or, Bool.false_or, Bool.or_false, Option.bind_some, Option.map_some, f_check_setting h z, f_is_kind_of h (show ss.length ≤ 1000 by have := z.s.len; omega) (dec_tupZ r), hk, tru, tupI_sum e, itT_d, hw, e2]
  refine ws_for (xs := ss.zip r) (fun p => T.tuple [.int p.1, .int p.2]) (fun i e => ∃ s t, e = [.val d, .val (dctZ gs), .val (tupZ r), .val (.int (((ss.zip r).take i).foldl (fun w p => w * chF p.1 p.2) w)), s, t]) ⟨_, _, rfl⟩ ?_ ?_
  · rintro i hi e ⟨s, t, rfl⟩
    refine ⟨_, rfl, ?_⟩
    obtain ⟨b0, b1, b2⟩ := tup_zip hr1 _ (List.getElem_mem hi)
    have b0 := z.s.b _ b0
    have b3 := chF_le (n := (ss.zip r)[i].1) (k := (ss.zip r)[i].2) (by omega) (by omega) (by omega) (by omega)
    simp only [wp_ok, wp_ex, wp_bad, wp_bind, wp_ofO, wp_noX, ws_nx, ws_rt, ws_bk, ws_ct, ws_ex, ws_bad, ws_st, ws_seq, ws_ite, wp_ite, wp_mF, mV, mC, mOp, mUn, mNil, mCons, mCa, mB, mAnd, mOr, mNot, mAndV, mOrV, mNotV, mIf, mTru, mChain, sNext, sBreak, sCont, sAsg, sDrop, sRet, sRetN, sIf, sBad, sFor, iSeq, iRng, iSeqK, iItm, iZp, mkTup, mkLst, mIxO, mUnO, sOwn, mDict, sFrz, sApp, sPut, sPutL, mDictOf, mDisp1, mSrc, sUnp, mSli, mSo, mNo, mYes, wp_mLc, mFQ, List.map_cons, List.map_nil, List.nil_append, List.cons_append, List.length_cons, List.length_nil, Nat.reduceAdd, Nat.reduceSub, List.replicate, List.getElem?_cons_succ, List.getElem?_cons_zero, List.set_cons_zero, List.set_cons_succ, List.length_set, Option.some.injEq, exists_eq_left', exists_eq_left, clearE, wipeE, backE, List.all_cons, List.all_nil, List.foldl_cons, List.foldl_nil, isOwn, Bool.not_false, Bool.not_true, Bool.and_true, Bool.and_self, Bool.true_and, true_and, and_true, List.getD_eq_getElem?_getD, Option.getD_some, asB, gN, gN2, if_true, if_false, reduceIte, Bool.false_eq_true, not_true_eq_false, not_false_eq_true, forall_const, false_implies, implies_true, true_implies, eq_self, addT_i, subT_i, ltT_i, leT_i, gtT_i, geT_i, modT_i, fdivT_i, powT_i, mulT_i, min2T_i, max2T_i, negT_i, intT_i, Int.reduceLT, Int.reduceLE, decide_true, decide_false, decide_eq_true_eq, Bool.and_eq_true, Nat.reduceLeDiff, Nat.zero_le, Nat.le_refl, wp_mLc2, Bool.or_true, Bool.true_or, Bool.false_or, Bool.or_false, Option.bind_some, Option.map_some, f_choices (show 0 ≤ (ss.zip r)[i].1 by omega) (show (ss.zip r)[i].1 ≤ 100000 by omega) (show (ss.zip r)[i].2 ≤ 100000 by omega) (show 0 ≤ (ss.zip r)[i].2 by omega), show bigB (chF (ss.zip r)[i].1 (ss.zip r)[i].2) = true from bigB_of (by omega) (by omega)]
    exact ⟨_, _, by rw [take_succ_foldl _ _ _ i hi]⟩
  · rintro e ⟨s, t, rfl⟩
    rw [List.take_length]
    simp only [wp_ok, wp_ex, wp_bad, wp_bind, wp_ofO, wp_noX, ws_nx, ws_rt, ws_bk, ws_ct, ws_ex, ws_bad, ws_st, ws_seq, ws_ite, wp_ite, wp_mF, mV, mC, mOp, mUn, mNil, mCons, mCa, mB, mAnd, mOr, mNot, mAndV, mOrV, mNotV, mIf, mTru, mChain, sNext, sBreak, sCont, sAsg, sDrop, sRet, sRetN, sIf, sBad, sFor, iSeq, iRng, iSeqK, iItm, iZp, mkTup, mkLst, mIxO, mUnO, sOwn, mDict, sFrz, sApp, sPut, sPutL, mDictOf, mDisp1, mSrc, sUnp, mSli, mSo, mNo, mYes, wp_mLc, mFQ, List.map_cons, List.map_nil, List.nil_append, List.cons_append, List.length_cons, List.length_nil, Nat.reduceAdd, Nat.reduceSub, List.replicate, List.getElem?_cons_succ, List.getElem?_cons_zero, List.set_cons_zero, List.set_cons_succ, List.length_set, Option.some.injEq, exists_eq_left', exists_eq_left, clearE, wipeE, backE, List.all_cons, List.all_nil, List.foldl_cons, List.foldl_nil, isOwn, Bool.not_false, Bool.not_true, Bool.and_true, Bool.and_self, Bool.true_and, true_and, and_true, List.getD_eq_getElem?_getD, Option.getD_some, asB, gN, gN2, if_true, if_false, reduceIte, Bool.false_eq_true, not_true_eq_false, not_false_eq_true, forall_const, false_implies, implies_true, true_implies, eq_self, addT_i, subT_i, ltT_i, leT_i, gtT_i, geT_i, modT_i, fdivT_i, powT_i, mulT_i, min2T_i, max2T_i, negT_i, intT_i, Int.reduceLT, Int.reduceLE, decide_true, decide_false, decide_eq_true_eq, Bool.and_eq_true, Nat.reduceLeDiff, Nat.zero_le, Nat.le_refl, wp_mLc2, Bool.or_true, Bool.true_or, Bool.false_or, Bool.or_false, Option.bind_some, Option.map_some, due, dueW, hw]
theorem f_due_bad {ss : List Int} {gs : List (Int × Int)} {d v : T} (h : SeqZ ss d) (z : Stg ss gs) (hv : dec v = true) (hk : kindOf ss gs v = false) : F_due_of [d, dctZ gs, v] = .ex "BadKind" [("value", v)] := by
  refine runF_ex ?_
  unfold m_due_of
  simp only [wp_ok, wp_ex, wp_bad, wp_bind, wp_ofO, wp_noX, ws_nx, ws_rt, ws_bk, ws_ct, ws_ex, ws_bad, ws_st, ws_seq, ws_ite, wp_ite, wp_mF, mV, mC, mOp, mUn, mNil, mCons, mCa, mB, mAnd, mOr, mNot, mAndV, mOrV, mNotV, mIf, mTru, mChain, sNext, sBreak, sCont, sAsg, sDrop, sRet, sRetN, sIf, sBad, sFor, iSeq, iRng, iSeqK, iItm, iZp, mkTup, mkLst, mIxO, mUnO, sOwn, mDict, sFrz, sApp, sPut, sPutL, mDictOf, mDisp1, mSrc, sUnp, mSli, mSo, mNo, mYes, wp_mLc, mFQ, List.map_cons, List.map_nil, List.nil_append, List.cons_append, List.length_cons, List.length_nil, Nat.reduceAdd, Nat.reduceSub, List.replicate, List.getElem?_cons_succ, List.getElem?_cons_zero, List.set_cons_zero, List.set_cons_succ, List.length_set, Option.some.injEq, exists_eq_left', exists_eq_left, clearE, wipeE, backE, List.all_cons, List.all_nil, List.foldl_cons, List.foldl_nil, isOwn, Bool.not_false, Bool.not_true, Bool.and_true, Bool.and_self, Bool.true_and, true_and, and_true, List.getD_eq_getElem?_getD, Option.getD_some, asB, gN, gN2, if_true, if_false, reduceIte, Bool.false_eq_true, not_true_eq_false, not_false_eq_true, forall_const, false_implies, implies_true, true_implies, eq_self, addT_i, subT_i, ltT_i, leT_i, gtT_i, geT_i, modT_i, fdivT_i, powT_i, mulT_i, min2T_i, max2T_i, negT_i, intT_i, Int.reduceLT, Int.reduceLE, decide_true, decide_false, decide_eq_true_eq, Bool.and_eq_true, Nat.reduceLeDiff, Nat.zero_le, Nat.le_refl, wp_mLc2, Bool.or_true, Bool.true_or, Bool.false_or, Bool.or_false, Option.bind_some, Option.map_some, f_check_setting h z, f_is_kind_of h (show ss.length ≤ 1000 by have := z.s.len; omega) hv, hk, tru, sRaise, List.zip_cons_cons, List.zip_nil_right, List.reverse_cons, List.reverse_nil]
end Pl

end
section

/-! PL1: what the laws share: draws, tuples, kinds, due numbers -/
namespace Pl
open PySem PySem.Spec PyProof.Rows L2 Evl TD Mi
local instance : HasT := ⟨[]⟩
/-- the source after at most n draws -/
def Src (n : Nat) (t : T) : Prop := ∃ a b c : Int, t = .list [.int a, .int b, .int c] ∧ 0 ≤ c ∧ c ≤ n
def DrawOk (dr : FQ) : Prop := ∀ (n : Nat) (t : T) (lim : Int), Src n t → n < 1000000 → 0 < lim → lim < 1073741824 → ∃ t' d, dr t [.int lim] = .ok t' (.int d) ∧ (0 ≤ d ∧ d < lim) ∧ Src (n + 1) t'
theorem Src.mono {n m : Nat} {t : T} (h : Src n t) (k : n ≤ m) : Src m t := by
  obtain ⟨a, b, c, e, h1, h2⟩ := h
  exact ⟨a, b, c, e, h1, by omega⟩
section
variable {x y z : T}
theorem ix3_0 : ixT (.list [x, y, z]) (.int 0) = some x := rfl
theorem ix3_1 : ixT (.list [x, y, z]) (.int 1) = some y := rfl
theorem ix3_2 : ixT (.list [x, y, z]) (.int 2) = some z := rfl
theorem ixN3_1 : ixN 3 1 = some 1 := rfl
theorem ixN3_2 : ixN 3 2 = some 2 := rfl
theorem asI_i {i : Int} : asI (.int i) = some i := rfl
end
theorem draw01 : DrawOk K01.F__law_draw := by
  rintro n t lim ⟨a, b, c, rfl, hc0, hc1⟩ hn h0 h1
  suffices h : ∃ t' d, K01.F__law_draw (.list [.int a, .int b, .int c]) [.int lim] = .ok t' d ∧ ∃ i, d = .int i ∧ (0 ≤ i ∧ i < lim) ∧ Src (n + 1) t' by
    obtain ⟨t', d, e, i, rfl, hi, hs⟩ := h
    exact ⟨t', i, e, hi, hs⟩
  refine runQ_ok ?_
  unfold K01.m__law_draw
  have p : powT (.int 10) (.int 18) = some (.int 1000000000000000000) := rfl
  have hs : ∀ a b : Int, Src (n + 1) (.list [.int a, .int b, .int (c + 1)]) := fun a b => ⟨a, b, c + 1, rfl, by omega, by omega⟩
  simp only [wp_ok, wp_ex, wp_bad, wp_bind, wp_ofO, wp_noX, ws_nx, ws_rt, ws_bk, ws_ct, ws_ex, ws_bad, ws_st, ws_seq, ws_ite, wp_ite, wp_mF, mV, mC, mOp, mUn, mNil, mCons, mCa, mB, mAnd, mOr, mNot, mAndV, mOrV, mNotV, mIf, mTru, mChain, sNext, sBreak, sCont, sAsg, sDrop, sRet, sRetN, sIf, sBad, sFor, iSeq, iRng, iSeqK, iItm, iZp, mkTup, mkLst, mIxO, mUnO, sOwn, mDict, sFrz, sApp, sPut, sPutL, mDictOf, mDisp1, mSrc, sUnp, mSli, mSo, mNo, mYes, wp_mLc, mFQ, List.map_cons, List.map_nil, List.nil_append, List.cons_append, List.length_cons, List.length_nil, Nat.reduceAdd, Nat.reduceSub, List.replicate, List.getElem?_cons_succ, List.getElem?_cons_zero, List.set_cons_zero, List.set_cons_succ, List.length_set, Option.some.injEq, exists_eq_left', exists_eq_left, clearE, wipeE, backE, List.all_cons, List.all_nil, List.foldl_cons, List.foldl_nil, isOwn, Bool.not_false, Bool.not_true, Bool.and_true, Bool.and_self, Bool.true_and, true_and, and_true, List.getD_eq_getElem?_getD, Option.getD_some, asB, gN, gN2, if_true, if_false, reduceIte, Bool.false_eq_true, not_true_eq_false, not_false_eq_true, forall_const, false_implies, implies_true, true_implies, eq_self, addT_i, subT_i, ltT_i, leT_i, gtT_i, geT_i, modT_i, fdivT_i, powT_i, mulT_i, min2T_i, max2T_i, negT_i, intT_i, Int.reduceLT, Int.reduceLE, decide_true, decide_false, decide_eq_true_eq, Bool.and_eq_true, Nat.reduceLeDiff, Nat.zero_le, Nat.le_refl, wp_mLc2, Bool.or_true, Bool.true_or, Bool.false_or, Bool.or_false, Option.bind_some, Option.map_some, ix3_0, ix3_1, ix3_2, asI_i, ixN3_1, ixN3_2, p]
  refine ⟨fun _ => ?_, fun _ => ?_⟩
  · simp only [wp_ok, wp_ex, wp_bad, wp_bind, wp_ofO, wp_noX, ws_nx, ws_rt, ws_bk, ws_ct, ws_ex, ws_bad, ws_st, ws_seq, ws_ite, wp_ite, wp_mF, mV, mC, mOp, mUn, mNil, mCons, mCa, mB, mAnd, mOr, mNot, mAndV, mOrV, mNotV, mIf, mTru, mChain, sNext, sBreak, sCont, sAsg, sDrop, sRet, sRetN, sIf, sBad, sFor, iSeq, iRng, iSeqK, iItm, iZp, mkTup, mkLst, mIxO, mUnO, sOwn, mDict, sFrz, sApp, sPut, sPutL, mDictOf, mDisp1, mSrc, sUnp, mSli, mSo, mNo, mYes, wp_mLc, mFQ, List.map_cons, List.map_nil, List.nil_append, List.cons_append, List.length_cons, List.length_nil, Nat.reduceAdd, Nat.reduceSub, List.replicate, List.getElem?_cons_succ, List.getElem?_cons_zero, List.set_cons_zero, List.set_cons_succ, List.length_set, Option.some.injEq, exists_eq_left', exists_eq_left, clearE, wipeE, backE, List.all_cons, List.all_nil, List.foldl_cons, List.foldl_nil, isOwn, Bool.not_false, Bool.not_true, Bool.and_true, Bool.and_self, Bool.true_and, true_and, and_true, List.getD_eq_getElem?_getD, Option.getD_some, asB, gN, gN2, if_true, if_false, reduceIte, Bool.false_eq_true, not_true_eq_false, not_false_eq_true, forall_const, false_implies, implies_true, true_implies, eq_self, addT_i, subT_i, ltT_i, leT_i, gtT_i, geT_i, modT_i, fdivT_i, powT_i, mulT_i, min2T_i, max2T_i, negT_i, intT_i, Int.reduceLT, Int.reduceLE, decide_true, decide_false, decide_eq_true_eq, Bool.and_eq_true, Nat.reduceLeDiff, Nat.zero_le, Nat.le_refl, wp_mLc2, Bool.or_true, Bool.true_or, Bool.false_or, Bool.or_false, Option.bind_some, Option.map_some, ix3_0, ix3_1, ix3_2, asI_i, ixN3_1, ixN3_2, h0, h1]
    exact ⟨_, rfl, _, rfl, ⟨Int.emod_nonneg _ (by omega), Int.emod_lt_of_pos _ h0⟩, hs _ _⟩
  · have e1 := Int.emod_nonneg a (show (2147480411 : Int) ≠ 0 by decide)
    have e2 := Int.emod_lt_of_pos a (show (0 : Int) < 2147480411 by decide)
    have b1 : bigB (a % 2147480411) = true := bigB_of (by omega) (by omega)
    have b2 : bigB (c + 1) = true := bigB_of (by omega) (by omega)
    have b3 : bigB (40529 : Int) = true := rfl
    have c1 : (a % 2147480411 * 7919 + (c + 1) * 104003 + 12011).natAbs < 2 ^ 64 := by omega
    have k1 : (c + 1) * (c + 1) ≤ 1000001 * 1000001 := Int.mul_le_mul (by omega) (by omega) (by omega) (by decide)
    have k0 : 0 ≤ (c + 1) * (c + 1) := Int.mul_nonneg (by omega) (by omega)
    have c2 : ∀ X : Int, (X % 2147483647 + (c + 1) * (c + 1) * 40529).natAbs < 2 ^ 64 := fun X => by
      have := Int.emod_nonneg X (show (2147483647 : Int) ≠ 0 by decide)
      have := Int.emod_lt_of_pos X (show (0 : Int) < 2147483647 by decide)
      omega
    simp only [wp_ok, wp_ex, wp_bad, wp_bind, wp_ofO, wp_noX, ws_nx, ws_rt, ws_bk, ws_ct, ws_ex, ws_bad, ws_st, ws_seq, ws_ite, wp_ite, wp_mF, mV, mC, mOp, mUn, mNil, mCons, mCa, mB, mAnd, mOr, mNot, mAndV, mOrV, mNotV, mIf, mTru, mChain, sNext, sBreak, sCont, sAsg, sDrop, sRet, sRetN, sIf, sBad, sFor, iSeq, iRng, iSeqK, iItm, iZp, mkTup, mkLst, mIxO, mUnO, sOwn, mDict, sFrz, sApp, sPut, sPutL, mDictOf, mDisp1, mSrc, sUnp, mSli, mSo, mNo, mYes, wp_mLc, mFQ, List.map_cons, List.map_nil, List.nil_append, List.cons_append, List.length_cons, List.length_nil, Nat.reduceAdd, Nat.reduceSub, List.replicate, List.getElem?_cons_succ, List.getElem?_cons_zero, List.set_cons_zero, List.set_cons_succ, List.length_set, Option.some.injEq, exists_eq_left', exists_eq_left, clearE, wipeE, backE, List.all_cons, List.all_nil, List.foldl_cons, List.foldl_nil, isOwn, Bool.not_false, Bool.not_true, Bool.and_true, Bool.and_self, Bool.true_and, true_and, and_true, List.getD_eq_getElem?_getD, Option.getD_some, asB, gN, gN2, if_true, if_false, reduceIte, Bool.false_eq_true, not_true_eq_false, not_false_eq_true, forall_const, false_implies, implies_true, true_implies, eq_self, addT_i, subT_i, ltT_i, leT_i, gtT_i, geT_i, modT_i, fdivT_i, powT_i, mulT_i, min2T_i, max2T_i, negT_i, intT_i, Int.reduceLT, Int.reduceLE, decide_true, decide_false, decide_eq_true_eq, Bool.and_eq_true, Nat.reduceLeDiff, Nat.zero_le, Nat.le_refl, wp_mLc2, Bool.or_true, Bool.true_or, Bool.false_or, Bool.or_false, Option.bind_some, Option.map_some, ix3_0, ix3_1, ix3_2, asI_i, ixN3_1, ixN3_2, h0, h1, b1, b2, b3, c1, c2]
    exact ⟨_, rfl, _, rfl, ⟨Int.emod_nonneg _ (by omega), Int.emod_lt_of_pos _ h0⟩, hs _ _⟩
theorem choose_eq : F__law_choose = F_choices := rfl
theorem f_cell {ns : List Int} {i : Int} (h0 : 0 ≤ i) : ∃ v, F__law_cell [.scr ns, .int i] = .ok (.int v) := by
  refine ⟨if i < ns.length then ns.getD i.toNat 0 else 0, runF_ok ?_⟩
  unfold m__law_cell
  have e1 : lenA (.scr ns) = some (.int ns.length) := rfl
  simp only [wp_ok, wp_ex, wp_bad, wp_bind, wp_ofO, wp_noX, ws_nx, ws_rt, ws_bk, ws_ct, ws_ex, ws_bad, ws_st, ws_seq, ws_ite, wp_ite, wp_mF, mV, mC, mOp, mUn, mNil, mCons, mCa, mB, mAnd, mOr, mNot, mAndV, mOrV, mNotV, mIf, mTru, mChain, sNext, sBreak, sCont, sAsg, sDrop, sRet, sRetN, sIf, sBad, sFor, iSeq, iRng, iSeqK, iItm, iZp, mkTup, mkLst, mIxO, mUnO, sOwn, mDict, sFrz, sApp, sPut, sPutL, mDictOf, mDisp1, mSrc, sUnp, mSli, mSo, mNo, mYes, wp_mLc, mFQ, List.map_cons, List.map_nil, List.nil_append, List.cons_append, List.length_cons, List.length_nil, Nat.reduceAdd, Nat.reduceSub, List.replicate, List.getElem?_cons_succ, List.getElem?_cons_zero, List.set_cons_zero, List.set_cons_succ, List.length_set, Option.some.injEq, exists_eq_left', exists_eq_left, clearE, wipeE, backE, List.all_cons, List.all_nil, List.foldl_cons, List.foldl_nil, isOwn, Bool.not_false, Bool.not_true, Bool.and_true, Bool.and_self, Bool.true_and, true_and, and_true, List.getD_eq_getElem?_getD, Option.getD_some, asB, gN, gN2, if_true, if_false, reduceIte, Bool.false_eq_true, not_true_eq_false, not_false_eq_true, forall_const, false_implies, implies_true, true_implies, eq_self, addT_i, subT_i, ltT_i, leT_i, gtT_i, geT_i, modT_i, fdivT_i, powT_i, mulT_i, min2T_i, max2T_i, negT_i, intT_i, Int.reduceLT, Int.reduceLE, decide_true, decide_false, decide_eq_true_eq, Bool.and_eq_true, Nat.reduceLeDiff, Nat.zero_le, Nat.le_refl, wp_mLc2, Bool.or_true, Bool.true_or, Bool.false_or, Bool.or_false, Option.bind_some, Option.map_some, e1]
  refine ⟨fun h => ?_, fun h => by rw [if_neg h]⟩
  have e2 : itT (.scr ns) (.int i) = some (.int (ns.getD i.toNat 0)) := by
    show (atI ns i).map T.int = _
    unfold atI ixN
    rw [if_pos h0, if_pos h, Option.bind_some, List.getD_eq_getElem?_getD, List.getElem?_eq_getElem (by omega)]
    rfl
  rw [e2, if_pos h]
  exact ⟨_, rfl, rfl⟩
/-- the laws' own tuples -/
theorem f_tuples {ss : List Int} {d : T} (h : SeqZ ss d) (z : Sz ss) : F__law_tuples [d] = .ok (.list ((tup ss).map tupZ)) := by
  refine runF_ok ?_
  unfold m__law_tuples
  have rows : ∀ i, (ss.take i).foldl lstep [[]] = tup (ss.take i) := fun i => by
    rw [lstep_all]
    simp only [List.flatMap_cons, List.flatMap_nil, List.append_nil, List.nil_append, List.map_id']
  simp only [wp_ok, wp_ex, wp_bad, wp_bind, wp_ofO, wp_noX, ws_nx, ws_rt, ws_bk, ws_ct, ws_ex, ws_bad, ws_st, ws_seq, ws_ite, wp_ite, wp_mF, mV, mC, mOp, mUn, mNil, mCons, mCa, mB, mAnd, mOr, mNot, mAndV, mOrV, mNotV, mIf, mTru, mChain, sNext, sBreak, sCont, sAsg, sDrop, sRet, sRetN, sIf, sBad, sFor, iSeq, iRng, iSeqK, iItm, iZp, mkTup, mkLst, mIxO, mUnO, sOwn, mDict, sFrz, sApp, sPut, sPutL, mDictOf, mDisp1, mSrc, sUnp, mSli, mSo, mNo, mYes, wp_mLc, mFQ, List.map_cons, List.map_nil, List.nil_append, List.cons_append, List.length_cons, List.length_nil, Nat.reduceAdd, Nat.reduceSub, List.replicate, List.getElem?_cons_succ, List.getElem?_cons_zero, List.set_cons_zero, List.set_cons_succ, List.length_set, Option.some.injEq, exists_eq_left', exists_eq_left, clearE, wipeE, backE, List.all_cons, List.all_nil, List.foldl_cons, List.foldl_nil, isOwn, Bool.not_false, Bool.not_true, Bool.and_true, Bool.and_self, Bool.true_and, true_and, and_true, List.getD_eq_getElem?_getD, Option.getD_some, asB, gN, gN2, if_true, if_false, reduceIte, Bool.false_eq_true, not_true_eq_false, not_false_eq_true, forall_const, false_implies, implies_true, true_implies, eq_self, addT_i, subT_i, ltT_i, leT_i, gtT_i, geT_i, modT_i, fdivT_i, powT_i, mulT_i, min2T_i, max2T_i, negT_i, intT_i, Int.reduceLT, Int.reduceLE, decide_true, decide_false, decide_eq_true_eq, Bool.and_eq_true, Nat.reduceLeDiff, Nat.zero_le, Nat.le_refl, wp_mLc2, Bool.or_true, Bool.true_or, Bool.false_or, Bool.or_false, Option.bind_some, Option.map_some, keysD_seq h]
  refine ws_for (xs := ss) T.int (fun i e => ∃ s1 s2 s3, e = [.val d, .val (.list (((ss.take i).foldl lstep [[]]).map tupZ)), s1, s2, s3, .un]) ⟨_, _, _, rfl⟩ ?_ ?_
  · rintro i hi e ⟨s1, s2, s3, rfl⟩
    refine ⟨_, rfl, ?_⟩
    have hs := z.b ss[i] (List.getElem_mem hi)
    have tl1 := take_tl z (i + 1)
    have e3 := take_succ_foldl lstep [[]] ss i hi
    simp only [wp_ok, wp_ex, wp_bad, wp_bind, wp_ofO, wp_noX, ws_nx, ws_rt, ws_bk, ws_ct, ws_ex, ws_bad, ws_st, ws_seq, ws_ite, wp_ite, wp_mF, mV, mC, mOp, mUn, mNil, mCons, mCa, mB, mAnd, mOr, mNot, mAndV, mOrV, mNotV, mIf, mTru, mChain, sNext, sBreak, sCont, sAsg, sDrop, sRet, sRetN, sIf, sBad, sFor, iSeq, iRng, iSeqK, iItm, iZp, mkTup, mkLst, mIxO, mUnO, sOwn, mDict, sFrz, sApp, sPut, sPutL, mDictOf, mDisp1, mSrc, sUnp, mSli, mSo, mNo, mYes, wp_mLc, mFQ, List.map_cons, List.map_nil, List.nil_append, List.cons_append, List.length_cons, List.length_nil, Nat.reduceAdd, Nat.reduceSub, List.replicate, List.getElem?_cons_succ, List.getElem?_cons_zero, List.set_cons_zero, List.set_cons_succ, List.length_set, Option.some.injEq, exists_eq_left', exists_eq_left, clearE, wipeE, backE, List.all_cons, List.all_nil, List.foldl_cons, List.foldl_nil, isOwn, Bool.not_false, Bool.not_true, Bool.and_true, Bool.and_self, Bool.true_and, true_and, and_true, List.getD_eq_getElem?_getD, Option.getD_some, asB, gN, gN2, if_true, if_false, reduceIte, Bool.false_eq_true, not_true_eq_false, not_false_eq_true, forall_const, false_implies, implies_true, true_implies, eq_self, addT_i, subT_i, ltT_i, leT_i, gtT_i, geT_i, modT_i, fdivT_i, powT_i, mulT_i, min2T_i, max2T_i, negT_i, intT_i, Int.reduceLT, Int.reduceLE, decide_true, decide_false, decide_eq_true_eq, Bool.and_eq_true, Nat.reduceLeDiff, Nat.zero_le, Nat.le_refl, wp_mLc2, Bool.or_true, Bool.true_or, Bool.false_or, Bool.or_false, Option.bind_some, Option.map_some, keysD]
    refine ws_for (xs := (ss.take i).foldl lstep [[]]) tupZ (fun j e => ∃ s3, e = [.val d, .val (.list (((ss.take i).foldl lstep [[]]).map tupZ)), .val (.int ss[i]), .val (.list ((lstep (((ss.take i).foldl lstep [[]]).take j) ss[i]).map tupZ)), s3, .un]) ⟨_, rfl⟩ ?_ ?_
    · rintro j hj e ⟨s3, rfl⟩
      refine ⟨_, rfl, ?_⟩
      simp only [wp_ok, wp_ex, wp_bad, wp_bind, wp_ofO, wp_noX, ws_nx, ws_rt, ws_bk, ws_ct, ws_ex, ws_bad, ws_st, ws_seq, ws_ite, wp_ite, wp_mF, mV, mC, mOp, mUn, mNil, mCons, mCa, mB, mAnd, mOr, mNot, mAndV, mOrV, mNotV, mIf, mTru, mChain, sNext, sBreak, sCont, sAsg, sDrop, sRet, sRetN, sIf, sBad, sFor, iSeq, iRng, iSeqK, iItm, iZp, mkTup, mkLst, mIxO, mUnO, sOwn, mDict, sFrz, sApp, sPut, sPutL, mDictOf, mDisp1, mSrc, sUnp, mSli, mSo, mNo, mYes, wp_mLc, mFQ, List.map_cons, List.map_nil, List.nil_append, List.cons_append, List.length_cons, List.length_nil, Nat.reduceAdd, Nat.reduceSub, List.replicate, List.getElem?_cons_succ, List.getElem?_cons_zero, List.set_cons_zero, List.set_cons_succ, List.length_set, Option.some.injEq, exists_eq_left', exists_eq_left, clearE, wipeE, backE, List.all_cons, List.all_nil, List.foldl_cons, List.foldl_nil, isOwn, Bool.not_false, Bool.not_true, Bool.and_true, Bool.and_self, Bool.true_and, true_and, and_true, List.getD_eq_getElem?_getD, Option.getD_some, asB, gN, gN2, if_true, if_false, reduceIte, Bool.false_eq_true, not_true_eq_false, not_false_eq_true, forall_const, false_implies, implies_true, true_implies, eq_self, addT_i, subT_i, ltT_i, leT_i, gtT_i, geT_i, modT_i, fdivT_i, powT_i, mulT_i, min2T_i, max2T_i, negT_i, intT_i, Int.reduceLT, Int.reduceLE, decide_true, decide_false, decide_eq_true_eq, Bool.and_eq_true, Nat.reduceLeDiff, Nat.zero_le, Nat.le_refl, wp_mLc2, Bool.or_true, Bool.true_or, Bool.false_or, Bool.or_false, Option.bind_some, Option.map_some, rng1_z (n := ss[i] + 1) (by omega) (by omega)]
      have hr : ((ss.take i).foldl lstep [[]])[j].length ≤ 10 := by
        have hm := List.getElem_mem hj
        have : ((ss.take i).foldl lstep [[]])[j] ∈ tup (ss.take i) := by rw [← rows i]; exact hm
        have h1 := (mem_tup.mp this).1
        have := z.len
        rw [List.length_take] at h1
        omega
      refine wp_lc (xs := zr (ss[i] + 1)) T.int (fun _ => true) (fun n => tupZ (((ss.take i).foldl lstep [[]])[j] ++ [n])) ?_ ?_
      · intro n hn
        refine ⟨_, rfl, ?_⟩
        simp only [wp_ok, wp_ex, wp_bad, wp_bind, wp_ofO, wp_noX, ws_nx, ws_rt, ws_bk, ws_ct, ws_ex, ws_bad, ws_st, ws_seq, ws_ite, wp_ite, wp_mF, mV, mC, mOp, mUn, mNil, mCons, mCa, mB, mAnd, mOr, mNot, mAndV, mOrV, mNotV, mIf, mTru, mChain, sNext, sBreak, sCont, sAsg, sDrop, sRet, sRetN, sIf, sBad, sFor, iSeq, iRng, iSeqK, iItm, iZp, mkTup, mkLst, mIxO, mUnO, sOwn, mDict, sFrz, sApp, sPut, sPutL, mDictOf, mDisp1, mSrc, sUnp, mSli, mSo, mNo, mYes, wp_mLc, mFQ, List.map_cons, List.map_nil, List.nil_append, List.cons_append, List.length_cons, List.length_nil, Nat.reduceAdd, Nat.reduceSub, List.replicate, List.getElem?_cons_succ, List.getElem?_cons_zero, List.set_cons_zero, List.set_cons_succ, List.length_set, Option.some.injEq, exists_eq_left', exists_eq_left, clearE, wipeE, backE, List.all_cons, List.all_nil, List.foldl_cons, List.foldl_nil, isOwn, Bool.not_false, Bool.not_true, Bool.and_true, Bool.and_self, Bool.true_and, true_and, and_true, List.getD_eq_getElem?_getD, Option.getD_some, asB, gN, gN2, if_true, if_false, reduceIte, Bool.false_eq_true, not_true_eq_false, not_false_eq_true, forall_const, false_implies, implies_true, true_implies, eq_self, addT_i, subT_i, ltT_i, leT_i, gtT_i, geT_i, modT_i, fdivT_i, powT_i, mulT_i, min2T_i, max2T_i, negT_i, intT_i, Int.reduceLT, Int.reduceLE, decide_true, decide_false, decide_eq_true_eq, Bool.and_eq_true, Nat.reduceLeDiff, Nat.zero_le, Nat.le_refl, wp_mLc2, Bool.or_true, Bool.true_or, Bool.false_or, Bool.or_false, Option.bind_some, Option.map_some]
        rw [show T.tuple [T.int n] = tupZ [n] from rfl, addT_tup (by simp; omega)]
        exact ⟨_, rfl, rfl⟩
      · have e4 : lstep (((ss.take i).foldl lstep [[]]).take (j + 1)) ss[i] = lstep (((ss.take i).foldl lstep [[]]).take j) ss[i] ++ (zr (ss[i] + 1)).map fun n => ((ss.take i).foldl lstep [[]])[j] ++ [n] := by
          rw [List.take_succ_eq_append_getElem hj]
          unfold lstep
          rw [List.flatMap_append, List.flatMap_cons, List.flatMap_nil, List.append_nil]
        have e5 : (lstep (((ss.take i).foldl lstep [[]]).take (j + 1)) ss[i]).length ≤ 1024 := by
          refine Nat.le_trans ?_ tl1
          rw [← rows (i + 1), e3]
          have e : lstep ((ss.take i).foldl lstep [[]]) ss[i] = lstep (((ss.take i).foldl lstep [[]]).take (j + 1)) ss[i] ++ lstep (((ss.take i).foldl lstep [[]]).drop (j + 1)) ss[i] := by
            unfold lstep
            rw [← List.flatMap_append, List.take_append_drop]
          rw [e, List.length_append]
          exact Nat.le_add_right _ _
        have e6 : addT (.list ((lstep (((ss.take i).foldl lstep [[]]).take j) ss[i]).map tupZ)) (.list ((zr (ss[i] + 1)).map fun n => tupZ (((ss.take i).foldl lstep [[]])[j] ++ [n]))) = some (.list ((lstep (((ss.take i).foldl lstep [[]]).take (j + 1)) ss[i]).map tupZ)) := by
          rw [e4, List.map_append, List.map_map]
          show (if _ then _ else _) = _
          rw [if_pos]
          · rfl
          · rw [e4, List.length_append] at e5
            simp only [List.length_map] at e5 ⊢
            omega
        simp only [wp_ok, wp_ex, wp_bad, wp_bind, wp_ofO, wp_noX, ws_nx, ws_rt, ws_bk, ws_ct, ws_ex, ws_bad, ws_st, ws_seq, ws_ite, wp_ite, wp_mF, mV, mC, mOp, mUn, mNil, mCons, mCa, mB, mAnd, mOr, mNot, mAndV, mOrV, mNotV, mIf, mTru, mChain, sNext, sBreak, sCont, sAsg, sDrop, sRet, sRetN, sIf, sBad, sFor, iSeq, iRng, iSeqK, iItm, iZp, mkTup, mkLst, mIxO, mUnO, sOwn, mDict, sFrz, sApp, sPut, sPutL, mDictOf, mDisp1, mSrc, sUnp, mSli, mSo, mNo, mYes, wp_mLc, mFQ, List.map_cons, List.map_nil, List.nil_append, List.cons_append, List.length_cons, List.length_nil, Nat.reduceAdd, Nat.reduceSub, List.replicate, List.getElem?_cons_succ, List.getElem?_cons_zero, List.set_cons_zero, List.set_cons_succ, List.length_set, Option.some.injEq, exists_eq_left', exists_eq_left, clearE, wipeE, backE, List.all_cons, List.all_nil, List.foldl_cons, List.foldl_nil, isOwn, Bool.not_false, Bool.not_true, Bool.and_true, Bool.and_self, Bool.true_and, true_and, and_true, List.getD_eq_getElem?_getD, Option.getD_some, asB, gN, gN2, if_true, if_false, reduceIte, Bool.false_eq_true, not_true_eq_false, not_false_eq_true, forall_const, false_implies, implies_true, true_implies, eq_self, addT_i, subT_i, ltT_i, leT_i, gtT_i, geT_i, modT_i, fdivT_i, powT_i, mulT_i, min2T_i, max2T_i, negT_i, intT_i, Int.reduceLT, Int.reduceLE, decide_true, decide_false, decide_eq_true_eq, Bool.and_eq_true, Nat.reduceLeDiff, Nat.zero_le, Nat.le_refl, wp_mLc2, Bool.or_true, Bool.true_or, Bool.false_or, Bool.or_false, Option.bind_some, Option.map_some, filter_yes, e6, List.length_map, zr_len]
        exact ⟨by omega, _, rfl⟩
    · rintro e ⟨s3, rfl⟩
      simp only [wp_ok, wp_ex, wp_bad, wp_bind, wp_ofO, wp_noX, ws_nx, ws_rt, ws_bk, ws_ct, ws_ex, ws_bad, ws_st, ws_seq, ws_ite, wp_ite, wp_mF, mV, mC, mOp, mUn, mNil, mCons, mCa, mB, mAnd, mOr, mNot, mAndV, mOrV, mNotV, mIf, mTru, mChain, sNext, sBreak, sCont, sAsg, sDrop, sRet, sRetN, sIf, sBad, sFor, iSeq, iRng, iSeqK, iItm, iZp, mkTup, mkLst, mIxO, mUnO, sOwn, mDict, sFrz, sApp, sPut, sPutL, mDictOf, mDisp1, mSrc, sUnp, mSli, mSo, mNo, mYes, wp_mLc, mFQ, List.map_cons, List.map_nil, List.nil_append, List.cons_append, List.length_cons, List.length_nil, Nat.reduceAdd, Nat.reduceSub, List.replicate, List.getElem?_cons_succ, List.getElem?_cons_zero, List.set_cons_zero, List.set_cons_succ, List.length_set, Option.some.injEq, exists_eq_left', exists_eq_left, clearE, wipeE, backE, List.all_cons, List.all_nil, List.foldl_cons, List.foldl_nil, isOwn, Bool.not_false, Bool.not_true, Bool.and_true, Bool.and_self, Bool.true_and, true_and, and_true, List.getD_eq_getElem?_getD, Option.getD_some, asB, gN, gN2, if_true, if_false, reduceIte, Bool.false_eq_true, not_true_eq_false, not_false_eq_true, forall_const, false_implies, implies_true, true_implies, eq_self, addT_i, subT_i, ltT_i, leT_i, gtT_i, geT_i, modT_i, fdivT_i, powT_i, mulT_i, min2T_i, max2T_i, negT_i, intT_i, Int.reduceLT, Int.reduceLE, decide_true, decide_false, decide_eq_true_eq, Bool.and_eq_true, Nat.reduceLeDiff, Nat.zero_le, Nat.le_refl, wp_mLc2, Bool.or_true, Bool.true_or, Bool.false_or, Bool.or_false, Option.bind_some, Option.map_some, List.take_length]
      exact ⟨_, _, _, by rw [e3]⟩
  · rintro e ⟨s1, s2, s3, rfl⟩
    have := rows ss.length
    rw [List.take_length] at this ⊢
    simp only [wp_ok, wp_ex, wp_bad, wp_bind, wp_ofO, wp_noX, ws_nx, ws_rt, ws_bk, ws_ct, ws_ex, ws_bad, ws_st, ws_seq, ws_ite, wp_ite, wp_mF, mV, mC, mOp, mUn, mNil, mCons, mCa, mB, mAnd, mOr, mNot, mAndV, mOrV, mNotV, mIf, mTru, mChain, sNext, sBreak, sCont, sAsg, sDrop, sRet, sRetN, sIf, sBad, sFor, iSeq, iRng, iSeqK, iItm, iZp, mkTup, mkLst, mIxO, mUnO, sOwn, mDict, sFrz, sApp, sPut, sPutL, mDictOf, mDisp1, mSrc, sUnp, mSli, mSo, mNo, mYes, wp_mLc, mFQ, List.map_cons, List.map_nil, List.nil_append, List.cons_append, List.length_cons, List.length_nil, Nat.reduceAdd, Nat.reduceSub, List.replicate, List.getElem?_cons_succ, List.getElem?_cons_zero, List.set_cons_zero, List.set_cons_succ, List.length_set, Option.some.injEq, exists_eq_left', exists_eq_left, clearE, wipeE, backE, List.all_cons, List.all_nil, List.foldl_cons, List.foldl_nil, isOwn, Bool.not_false, Bool.not_true, Bool.and_true, Bool.and_self, Bool.true_and, true_and, and_true, List.getD_eq_getElem?_getD, Option.getD_some, asB, gN, gN2, if_true, if_false, reduceIte, Bool.false_eq_true, not_true_eq_false, not_false_eq_true, forall_const, false_implies, implies_true, true_implies, eq_self, addT_i, subT_i, ltT_i, leT_i, gtT_i, geT_i, modT_i, fdivT_i, powT_i, mulT_i, min2T_i, max2T_i, negT_i, intT_i, Int.reduceLT, Int.reduceLE, decide_true, decide_false, decide_eq_true_eq, Bool.and_eq_true, Nat.reduceLeDiff, Nat.zero_le, Nat.le_refl, wp_mLc2, Bool.or_true, Bool.true_or, Bool.false_or, Bool.or_false, Option.bind_some, Option.map_some, this]
end Pl

end
section

/-! PL2: the laws' kinds, due numbers, settings -/
namespace Pl
open PySem PySem.Spec PyProof.Rows L2 Evl TD Mi
local instance : HasT := ⟨[]⟩
theorem sortKT_d {gs : List (Int × Int)} (h : gs.length < 64) : sortKT (dctZ gs) = some (lstZ (sortI (gKeys gs))) := by
  show ((intsT ((gs.map fun p => (T.int p.1, T.int p.2)).map (·.1))).bind fun ns => if ns.length < 64 then some (T.list ((sortI ns).map .int)) else none) = _
  have e : (gs.map fun p => (T.int p.1, T.int p.2)).map (·.1) = zs (gKeys gs) := by simp [zs, gKeys]
  rw [e, intsT_zs, Option.bind_some, if_pos (by simpa [gKeys] using h)]
theorem keysD_l {xs : List T} : keysD (.list xs) = some xs := rfl
theorem keysD_t {xs : List T} : keysD (.tuple xs) = some xs := rfl
theorem addT_l {xs ys : List T} (h : xs.length + ys.length ≤ 100000) : addT (.list xs) (.list ys) = some (.list (xs ++ ys)) := if_pos h
theorem Stg.kl {ss : List Int} {gs : List (Int × Int)} (z : Stg ss gs) : (Kn ss gs).length ≤ 1024 := by
  rw [(Kn_perm z.g.nd).length_eq]
  exact Nat.le_trans (List.length_filter_le _ _) z.s.tl
theorem f_kinds {ss : List Int} {gs : List (Int × Int)} {d : T} (h : SeqZ ss d) (z : Stg ss gs) : F__law_kinds [d, dctZ gs] = .ok (.list ((Kn ss gs).map tupZ)) := by
  refine runF_ok ?_
  unfold m__law_kinds
  have l2 := z.g.len
  simp only [wp_ok, wp_ex, wp_bad, wp_bind, wp_ofO, wp_noX, ws_nx, ws_rt, ws_bk, ws_ct, ws_ex, ws_bad, ws_st, ws_seq, ws_ite, wp_ite, wp_mF, mV, mC, mOp, mUn, mNil, mCons, mCa, mB, mAnd, mOr, mNot, mAndV, mOrV, mNotV, mIf, mTru, mChain, sNext, sBreak, sCont, sAsg, sDrop, sRet, sRetN, sIf, sBad, sFor, iSeq, iRng, iSeqK, iItm, iZp, mkTup, mkLst, mIxO, mUnO, sOwn, mDict, sFrz, sApp, sPut, sPutL, mDictOf, mDisp1, mSrc, sUnp, mSli, mSo, mNo, mYes, wp_mLc, mFQ, List.map_cons, List.map_nil, List.nil_append, List.cons_append, List.length_cons, List.length_nil, Nat.reduceAdd, Nat.reduceSub, List.replicate, List.getElem?_cons_succ, List.getElem?_cons_zero, List.set_cons_zero, List.set_cons_succ, List.length_set, Option.some.injEq, exists_eq_left', exists_eq_left, clearE, wipeE, backE, List.all_cons, List.all_nil, List.foldl_cons, List.foldl_nil, isOwn, Bool.not_false, Bool.not_true, Bool.and_true, Bool.and_self, Bool.true_and, true_and, and_true, List.getD_eq_getElem?_getD, Option.getD_some, asB, gN, gN2, if_true, if_false, reduceIte, Bool.false_eq_true, not_true_eq_false, not_false_eq_true, forall_const, false_implies, implies_true, true_implies, eq_self, addT_i, subT_i, ltT_i, leT_i, gtT_i, geT_i, modT_i, fdivT_i, powT_i, mulT_i, min2T_i, max2T_i, negT_i, intT_i, Int.reduceLT, Int.reduceLE, decide_true, decide_false, decide_eq_true_eq, Bool.and_eq_true, Nat.reduceLeDiff, Nat.zero_le, Nat.le_refl, wp_mLc2, Bool.or_true, Bool.true_or, Bool.false_or, Bool.or_false, Option.bind_some, Option.map_some, sortKT_d (show gs.length < 64 by omega), keysD_l]
  refine ws_for (xs := sortI (gKeys gs)) T.int (fun i e => ∃ s1, e = [.val d, .val (dctZ gs), .val (.list ((((sortI (gKeys gs)).take i).flatMap fun t => (tup ss).filter fun r => r.sum == t).map tupZ)), s1, .un]) ⟨_, rfl⟩ ?_ ?_
  · rintro i hi e ⟨s1, rfl⟩
    refine ⟨_, rfl, ?_⟩
    simp only [wp_ok, wp_ex, wp_bad, wp_bind, wp_ofO, wp_noX, ws_nx, ws_rt, ws_bk, ws_ct, ws_ex, ws_bad, ws_st, ws_seq, ws_ite, wp_ite, wp_mF, mV, mC, mOp, mUn, mNil, mCons, mCa, mB, mAnd, mOr, mNot, mAndV, mOrV, mNotV, mIf, mTru, mChain, sNext, sBreak, sCont, sAsg, sDrop, sRet, sRetN, sIf, sBad, sFor, iSeq, iRng, iSeqK, iItm, iZp, mkTup, mkLst, mIxO, mUnO, sOwn, mDict, sFrz, sApp, sPut, sPutL, mDictOf, mDisp1, mSrc, sUnp, mSli, mSo, mNo, mYes, wp_mLc, mFQ, List.map_cons, List.map_nil, List.nil_append, List.cons_append, List.length_cons, List.length_nil, Nat.reduceAdd, Nat.reduceSub, List.replicate, List.getElem?_cons_succ, List.getElem?_cons_zero, List.set_cons_zero, List.set_cons_succ, List.length_set, Option.some.injEq, exists_eq_left', exists_eq_left, clearE, wipeE, backE, List.all_cons, List.all_nil, List.foldl_cons, List.foldl_nil, isOwn, Bool.not_false, Bool.not_true, Bool.and_true, Bool.and_self, Bool.true_and, true_and, and_true, List.getD_eq_getElem?_getD, Option.getD_some, asB, gN, gN2, if_true, if_false, reduceIte, Bool.false_eq_true, not_true_eq_false, not_false_eq_true, forall_const, false_implies, implies_true, true_implies, eq_self, addT_i, subT_i, ltT_i, leT_i, gtT_i, geT_i, modT_i, fdivT_i, powT_i, mulT_i, min2T_i, max2T_i, negT_i, intT_i, Int.reduceLT, Int.reduceLE, decide_true, decide_false, decide_eq_true_eq, Bool.and_eq_true, Nat.reduceLeDiff, Nat.zero_le, Nat.le_refl, wp_mLc2, Bool.or_true, Bool.true_or, Bool.false_or, Bool.or_false, Option.bind_some, Option.map_some, f_tuples h z.s, keysD_l]
    refine wp_lc (xs := tup ss) tupZ (fun r => r.sum == (sortI (gKeys gs))[i]) tupZ ?_ ?_
    · intro r hr
      refine ⟨_, rfl, ?_⟩
      simp only [wp_ok, wp_ex, wp_bad, wp_bind, wp_ofO, wp_noX, ws_nx, ws_rt, ws_bk, ws_ct, ws_ex, ws_bad, ws_st, ws_seq, ws_ite, wp_ite, wp_mF, mV, mC, mOp, mUn, mNil, mCons, mCa, mB, mAnd, mOr, mNot, mAndV, mOrV, mNotV, mIf, mTru, mChain, sNext, sBreak, sCont, sAsg, sDrop, sRet, sRetN, sIf, sBad, sFor, iSeq, iRng, iSeqK, iItm, iZp, mkTup, mkLst, mIxO, mUnO, sOwn, mDict, sFrz, sApp, sPut, sPutL, mDictOf, mDisp1, mSrc, sUnp, mSli, mSo, mNo, mYes, wp_mLc, mFQ, List.map_cons, List.map_nil, List.nil_append, List.cons_append, List.length_cons, List.length_nil, Nat.reduceAdd, Nat.reduceSub, List.replicate, List.getElem?_cons_succ, List.getElem?_cons_zero, List.set_cons_zero, List.set_cons_succ, List.length_set, Option.some.injEq, exists_eq_left', exists_eq_left, clearE, wipeE, backE, List.all_cons, List.all_nil, List.foldl_cons, List.foldl_nil, isOwn, Bool.not_false, Bool.not_true, Bool.and_true, Bool.and_self, Bool.true_and, true_and, and_true, List.getD_eq_getElem?_getD, Option.getD_some, asB, gN, gN2, if_true, if_false, reduceIte, Bool.false_eq_true, not_true_eq_false, not_false_eq_true, forall_const, false_implies, implies_true, true_implies, eq_self, addT_i, subT_i, ltT_i, leT_i, gtT_i, geT_i, modT_i, fdivT_i, powT_i, mulT_i, min2T_i, max2T_i, negT_i, intT_i, Int.reduceLT, Int.reduceLE, decide_true, decide_false, decide_eq_true_eq, Bool.and_eq_true, Nat.reduceLeDiff, Nat.zero_le, Nat.le_refl, wp_mLc2, Bool.or_true, Bool.true_or, Bool.false_or, Bool.or_false, Option.bind_some, Option.map_some, tupI_sum (v := tupZ r) (intsT_zs r), eqT_i]
    · have e1 : (((sortI (gKeys gs)).take (i + 1)).flatMap fun t => (tup ss).filter fun r => r.sum == t) = (((sortI (gKeys gs)).take i).flatMap fun t => (tup ss).filter fun r => r.sum == t) ++ (tup ss).filter fun r => r.sum == (sortI (gKeys gs))[i] := by
        rw [List.take_succ_eq_append_getElem hi, List.flatMap_append, List.flatMap_cons, List.flatMap_nil, List.append_nil]
      have e2 : (((sortI (gKeys gs)).take (i + 1)).flatMap fun t => (tup ss).filter fun r => r.sum == t).length ≤ 1024 := by
        have e : Kn ss gs = (((sortI (gKeys gs)).take (i + 1)).flatMap fun t => (tup ss).filter fun r => r.sum == t) ++ (((sortI (gKeys gs)).drop (i + 1)).flatMap fun t => (tup ss).filter fun r => r.sum == t) := by
          unfold Kn
          rw [← List.flatMap_append, List.take_append_drop]
        have := z.kl
        rw [e, List.length_append] at this
        omega
      rw [e1, List.length_append] at e2
      have e3 := addT_l (xs := (((sortI (gKeys gs)).take i).flatMap fun t => (tup ss).filter fun r => r.sum == t).map tupZ) (ys := ((tup ss).filter fun r => r.sum == (sortI (gKeys gs))[i]).map tupZ) (by simp only [List.length_map]; omega)
      simp only [wp_ok, wp_ex, wp_bad, wp_bind, wp_ofO, wp_noX, ws_nx, ws_rt, ws_bk, ws_ct, ws_ex, ws_bad, ws_st, ws_seq, ws_ite, wp_ite, wp_mF, mV, mC, mOp, mUn, mNil, mCons, mCa, mB, mAnd, mOr, mNot, mAndV, mOrV, mNotV, mIf, mTru, mChain, sNext, sBreak, sCont, sAsg, sDrop, sRet, sRetN, sIf, sBad, sFor, iSeq, iRng, iSeqK, iItm, iZp, mkTup, mkLst, mIxO, mUnO, sOwn, mDict, sFrz, sApp, sPut, sPutL, mDictOf, mDisp1, mSrc, sUnp, mSli, mSo, mNo, mYes, wp_mLc, mFQ, List.map_cons, List.map_nil, List.nil_append, List.cons_append, List.length_cons, List.length_nil, Nat.reduceAdd, Nat.reduceSub, List.replicate, List.getElem?_cons_succ, List.getElem?_cons_zero, List.set_cons_zero, List.set_cons_succ, List.length_set, Option.some.injEq, exists_eq_left', exists_eq_left, clearE, wipeE, backE, List.all_cons, List.all_nil, List.foldl_cons, List.foldl_nil, isOwn, Bool.not_false, Bool.not_true, Bool.and_true, Bool.and_self, Bool.true_and, true_and, and_true, List.getD_eq_getElem?_getD, Option.getD_some, asB, gN, gN2, if_true, if_false, reduceIte, Bool.false_eq_true, not_true_eq_false, not_false_eq_true, forall_const, false_implies, implies_true, true_implies, eq_self, addT_i, subT_i, ltT_i, leT_i, gtT_i, geT_i, modT_i, fdivT_i, powT_i, mulT_i, min2T_i, max2T_i, negT_i, intT_i, Int.reduceLT, Int.reduceLE, decide_true, decide_false, decide_eq_true_eq, Bool.and_eq_true, Nat.reduceLeDiff, Nat.zero_le, Nat.le_refl, wp_mLc2, Bool.or_true, Bool.true_or, Bool.false_or, Bool.or_false, Option.bind_some, Option.map_some, e3, List.length_map]
      exact ⟨by omega, _, by rw [e1, List.map_append]⟩
  · rintro e ⟨s1, rfl⟩
    simp only [wp_ok, wp_ex, wp_bad, wp_bind, wp_ofO, wp_noX, ws_nx, ws_rt, ws_bk, ws_ct, ws_ex, ws_bad, ws_st, ws_seq, ws_ite, wp_ite, wp_mF, mV, mC, mOp, mUn, mNil, mCons, mCa, mB, mAnd, mOr, mNot, mAndV, mOrV, mNotV, mIf, mTru, mChain, sNext, sBreak, sCont, sAsg, sDrop, sRet, sRetN, sIf, sBad, sFor, iSeq, iRng, iSeqK, iItm, iZp, mkTup, mkLst, mIxO, mUnO, sOwn, mDict, sFrz, sApp, sPut, sPutL, mDictOf, mDisp1, mSrc, sUnp, mSli, mSo, mNo, mYes, wp_mLc, mFQ, List.map_cons, List.map_nil, List.nil_append, List.cons_append, List.length_cons, List.length_nil, Nat.reduceAdd, Nat.reduceSub, List.replicate, List.getElem?_cons_succ, List.getElem?_cons_zero, List.set_cons_zero, List.set_cons_succ, List.length_set, Option.some.injEq, exists_eq_left', exists_eq_left, clearE, wipeE, backE, List.all_cons, List.all_nil, List.foldl_cons, List.foldl_nil, isOwn, Bool.not_false, Bool.not_true, Bool.and_true, Bool.and_self, Bool.true_and, true_and, and_true, List.getD_eq_getElem?_getD, Option.getD_some, asB, gN, gN2, if_true, if_false, reduceIte, Bool.false_eq_true, not_true_eq_false, not_false_eq_true, forall_const, false_implies, implies_true, true_implies, eq_self, addT_i, subT_i, ltT_i, leT_i, gtT_i, geT_i, modT_i, fdivT_i, powT_i, mulT_i, min2T_i, max2T_i, negT_i, intT_i, Int.reduceLT, Int.reduceLE, decide_true, decide_false, decide_eq_true_eq, Bool.and_eq_true, Nat.reduceLeDiff, Nat.zero_le, Nat.le_refl, wp_mLc2, Bool.or_true, Bool.true_or, Bool.false_or, Bool.or_false, Option.bind_some, Option.map_some, List.take_length, Kn]
theorem atI_z {ns : List Int} {i : Int} (h0 : 0 ≤ i) (h1 : i < ns.length) : atI (zs ns) i = some (.int (ns[i.toNat]'(by omega))) := by
  unfold atI ixN zs
  rw [List.length_map, if_pos h0, if_pos h1, Option.bind_some, List.getElem?_map, List.getElem?_eq_getElem (by omega)]
  rfl
theorem itT_seq {ns : List Int} {d : T} {i : Int} (h : SeqZ ns d) (h0 : 0 ≤ i) (h1 : i < ns.length) : itT d (.int i) = some (.int (ns[i.toNat]'(by omega))) := by
  rcases h with rfl | rfl <;> exact atI_z h0 h1
theorem itT_nat {ns : List Int} {d : T} {i : Nat} (h : SeqZ ns d) (h1 : i < ns.length) : itT d (.int (i : Int)) = some (.int ns[i]) := by
  rw [itT_seq h (by omega) (by omega)]
  congr 2
theorem tupZ_seq (r : List Int) : SeqZ r (tupZ r) := .inr rfl
theorem lstZ_seq (r : List Int) : SeqZ r (lstZ r) := .inl rfl
theorem zr_get {n : Int} {i : Nat} (h : i < (zr n).length) : (zr n)[i] = (i : Int) := by
  simp [zr]
theorem f_due {ss : List Int} {gs : List (Int × Int)} {d : T} {r : List Int} (h : SeqZ ss d) (z : Stg ss gs) (hr : r ∈ Kn ss gs) : F__law_due [d, dctZ gs, tupZ r] = .ok (.int (due ss gs r)) := by
  refine runF_ok ?_
  unfold m__law_due
  obtain ⟨hr1, hr2⟩ := mem_Kn.mp hr
  obtain ⟨w, hw⟩ := Option.isSome_iff_exists.mp hr2
  have hlen : r.length = ss.length := (mem_tup.mp hr1).1
  have l1 := z.s.len
  have hz : (ss.zip r).length = ss.length := by rw [List.length_zip]; omega
  simp only [wp_ok, wp_ex, wp_bad, wp_bind, wp_ofO, wp_noX, ws_nx, ws_rt, ws_bk, ws_ct, ws_ex, ws_bad, ws_st, ws_seq, ws_ite, wp_ite, wp_mF, mV, mC, mOp, mUn, mNil, mCons, mCa, mB, mAnd, mOr, mNot, mAndV, mOrV, mNotV, mIf, mTru, mChain, sNext, sBreak, sCont, sAsg, sDrop, sRet, sRetN, sIf, sBad, sFor, iSeq, iRng, iSeqK, iItm, iZp, mkTup, mkLst, mIxO, mUnO, sOwn, mDict, sFrz, sApp, sPut, sPutL, mDictOf, mDisp1, mSrc, sUnp, mSli, mSo, mNo, mYes, wp_mLc, mFQ, List.map_cons, List.map_nil, List.nil_append, List.cons_append, List.length_cons, List.length_nil, Nat.reduceAdd, Nat.reduceSub, List.replicate, List.getElem?_cons_succ, List.getElem?_cons_zero, List.set_cons_zero, List.set_cons_succ, List.length_set, Option.some.injEq, exists_eq_left', exists_eq_left, clearE, wipeE, backE, List.all_cons, List.all_nil, List.foldl_cons, List.foldl_nil, isOwn, Bool.not_false, Bool.not_true, Bool.and_true, Bool.and_self, Bool.true_and, true_and, and_true, List.getD_eq_getElem?_getD, Option.getD_some, asB, gN, gN2, if_true, if_false, reduceIte, Bool.false_eq_true, not_true_eq_false, not_false_eq_true, forall_const, false_implies, implies_true, true_implies, eq_self, addT_i, subT_i, ltT_i, leT_i, gtT_i, geT_i, modT_i, fdivT_i, powT_i, mulT_i, min2T_i, max2T_i, negT_i, intT_i, Int.reduceLT, Int.reduceLE, decide_true, decide_false, decide_eq_true_eq, Bool.and_eq_true, Nat.reduceLeDiff, Nat.zero_le, Nat.le_refl, wp_mLc2, Bool.or_true, Bool.true_or, Bool.false_or, Bool.or_false, Option.bind_some, Option.map_some, tupI_sum (v := tupZ r) (intsT_zs r), itT_d, hw, lenA_seq h, rng1_z (n := (ss.length : Int)) (by omega) (by omega)]
  refine ws_for (xs := zr (ss.length : Int)) T.int (fun i e => ∃ s1, e = [.val d, .val (dctZ gs), .val (tupZ r), .val (.int (((ss.zip r).take i).foldl (fun w p => w * chF p.1 p.2) w)), s1]) ⟨_, rfl⟩ ?_ ?_
  · rintro i hi e ⟨s1, rfl⟩
    refine ⟨_, rfl, ?_⟩
    rw [zr_len] at hi
    have hi' : i < ss.length := by omega
    have hi2 : i < (ss.zip r).length := by omega
    obtain ⟨b0, b1, b2⟩ := tup_zip hr1 _ (List.getElem_mem hi2)
    have b0 := z.s.b _ b0
    have g1 : (ss.zip r)[i].1 = ss[i] := by rw [List.getElem_zip]
    have g2 : (ss.zip r)[i].2 = r[i] := by rw [List.getElem_zip]
    have b3 := chF_le (n := (ss.zip r)[i].1) (k := (ss.zip r)[i].2) (by omega) (by omega) (by omega) (by omega)
    rw [g1, g2] at b3
    rw [g1] at b0 b2
    rw [g2] at b1 b2
    simp only [wp_ok, wp_ex, wp_bad, wp_bind, wp_ofO, wp_noX, ws_nx, ws_rt, ws_bk, ws_ct, ws_ex, ws_bad, ws_st, ws_seq, ws_ite, wp_ite, wp_mF, mV, mC, mOp, mUn, mNil, mCons, mCa, mB, mAnd, mOr, mNot, mAndV, mOrV, mNotV, mIf, mTru, mChain, sNext, sBreak, sCont, sAsg, sDrop, sRet, sRetN, sIf, sBad, sFor, iSeq, iRng, iSeqK, iItm, iZp, mkTup, mkLst, mIxO, mUnO, sOwn, mDict, sFrz, sApp, sPut, sPutL, mDictOf, mDisp1, mSrc, sUnp, mSli, mSo, mNo, mYes, wp_mLc, mFQ, List.map_cons, List.map_nil, List.nil_append, List.cons_append, List.length_cons, List.length_nil, Nat.reduceAdd, Nat.reduceSub, List.replicate, List.getElem?_cons_succ, List.getElem?_cons_zero, List.set_cons_zero, List.set_cons_succ, List.length_set, Option.some.injEq, exists_eq_left', exists_eq_left, clearE, wipeE, backE, List.all_cons, List.all_nil, List.foldl_cons, List.foldl_nil, isOwn, Bool.not_false, Bool.not_true, Bool.and_true, Bool.and_self, Bool.true_and, true_and, and_true, List.getD_eq_getElem?_getD, Option.getD_some, asB, gN, gN2, if_true, if_false, reduceIte, Bool.false_eq_true, not_true_eq_false, not_false_eq_true, forall_const, false_implies, implies_true, true_implies, eq_self, addT_i, subT_i, ltT_i, leT_i, gtT_i, geT_i, modT_i, fdivT_i, powT_i, mulT_i, min2T_i, max2T_i, negT_i, intT_i, Int.reduceLT, Int.reduceLE, decide_true, decide_false, decide_eq_true_eq, Bool.and_eq_true, Nat.reduceLeDiff, Nat.zero_le, Nat.le_refl, wp_mLc2, Bool.or_true, Bool.true_or, Bool.false_or, Bool.or_false, Option.bind_some, Option.map_some, zr_get, itT_nat h hi', itT_nat (tupZ_seq r) (show i < r.length by omega), choose_eq, f_choices (show 0 ≤ ss[i] by omega) (show ss[i] ≤ 100000 by omega) (show r[i] ≤ 100000 by omega) (show 0 ≤ r[i] by omega), show bigB (chF ss[i] r[i]) = true from bigB_of (by omega) (by omega)]
    exact ⟨_, by rw [take_succ_foldl _ _ _ i hi2, g1, g2]⟩
  · rintro e ⟨s1, rfl⟩
    rw [zr_len, show ((ss.length : Int)).toNat = (ss.zip r).length by omega, List.take_length]
    simp only [wp_ok, wp_ex, wp_bad, wp_bind, wp_ofO, wp_noX, ws_nx, ws_rt, ws_bk, ws_ct, ws_ex, ws_bad, ws_st, ws_seq, ws_ite, wp_ite, wp_mF, mV, mC, mOp, mUn, mNil, mCons, mCa, mB, mAnd, mOr, mNot, mAndV, mOrV, mNotV, mIf, mTru, mChain, sNext, sBreak, sCont, sAsg, sDrop, sRet, sRetN, sIf, sBad, sFor, iSeq, iRng, iSeqK, iItm, iZp, mkTup, mkLst, mIxO, mUnO, sOwn, mDict, sFrz, sApp, sPut, sPutL, mDictOf, mDisp1, mSrc, sUnp, mSli, mSo, mNo, mYes, wp_mLc, mFQ, List.map_cons, List.map_nil, List.nil_append, List.cons_append, List.length_cons, List.length_nil, Nat.reduceAdd, Nat.reduceSub, List.replicate, List.getElem?_cons_succ, List.getElem?_cons_zero, List.set_cons_zero, List.set_cons_succ, List.length_set, Option.some.injEq, exists_eq_left', exists_eq_left, clearE, wipeE, backE, List.all_cons, List.all_nil, List.foldl_cons, List.foldl_nil, isOwn, Bool.not_false, Bool.not_true, Bool.and_true, Bool.and_self, Bool.true_and, true_and, and_true, List.getD_eq_getElem?_getD, Option.getD_some, asB, gN, gN2, if_true, if_false, reduceIte, Bool.false_eq_true, not_true_eq_false, not_false_eq_true, forall_const, false_implies, implies_true, true_implies, eq_self, addT_i, subT_i, ltT_i, leT_i, gtT_i, geT_i, modT_i, fdivT_i, powT_i, mulT_i, min2T_i, max2T_i, negT_i, intT_i, Int.reduceLT, Int.reduceLE, decide_true, decide_false, decide_eq_true_eq, Bool.and_eq_true, Nat.reduceLeDiff, Nat.zero_le, Nat.le_refl, wp_mLc2, Bool.or_true, Bool.true_or, Bool.false_or, Bool.or_false, Option.bind_some, Option.map_some, due, dueW, hw]
/-! a setting that is drawn -/
def gPut (gs : List (Int × Int)) (k v : Int) : List (Int × Int) := if k ∈ gKeys gs then gs.map fun p => if p.1 = k then (p.1, v) else p else gs ++ [(k, v)]
theorem keyT_i {i : Int} : keyT (.int i) = some (.inl i) := rfl
theorem putD_d (gs : List (Int × Int)) (k v : Int) : putD (gs.map fun p => (T.int p.1, T.int p.2)) (.inl k) (.int v) = (gPut gs k v).map fun p => (T.int p.1, T.int p.2) := by
  unfold putD gPut
  have e : ((gs.map fun p => (T.int p.1, T.int p.2)).any fun p => decide (keyT p.1 = some (.inl k))) = decide (k ∈ gKeys gs) := by
    rw [List.any_map]
    rw [Bool.eq_iff_iff, List.any_eq_true, decide_eq_true_eq]
    unfold gKeys
    rw [List.mem_map]
    constructor
    · rintro ⟨p, hp, h⟩
      have h : (some (Sum.inl p.1) : Option Key) = some (.inl k) := of_decide_eq_true h
      cases h
      exact ⟨p, hp, rfl⟩
    · rintro ⟨p, hp, rfl⟩
      exact ⟨p, hp, decide_eq_true rfl⟩
  rw [e]
  by_cases h : k ∈ gKeys gs
  · rw [decide_eq_true h, if_pos rfl, if_pos h, List.map_map, List.map_map]
    refine List.map_congr_left fun p _ => ?_
    by_cases q : p.1 = k
    · simp only [Function.comp, q, keyT_i, if_true]
    · have : ¬ keyT (T.int p.1) = some (.inl k) := fun z => q (by cases z; rfl)
      simp only [Function.comp, this, q, if_false]
  · rw [decide_eq_false h, if_neg Bool.false_ne_true, if_neg h, List.map_append]
    rfl
theorem gPut_keys (gs : List (Int × Int)) (k v : Int) : gKeys (gPut gs k v) = if k ∈ gKeys gs then gKeys gs else gKeys gs ++ [k] := by
  unfold gPut
  by_cases h : k ∈ gKeys gs
  · rw [if_pos h, if_pos h]
    unfold gKeys
    rw [List.map_map]
    refine List.map_congr_left fun p _ => ?_
    by_cases q : p.1 = k <;> simp [Function.comp, q]
  · rw [if_neg h, if_neg h]
    simp [gKeys]
theorem gPut_all {P : Int × Int → Prop} {gs : List (Int × Int)} {k v : Int} (h : ∀ p ∈ gs, P p) (hk : P (k, v)) : ∀ p ∈ gPut gs k v, P p := by
  intro p hp
  unfold gPut at hp
  split at hp
  · obtain ⟨q, hq, rfl⟩ := List.mem_map.mp hp
    by_cases z : q.1 = k
    · rw [if_pos z, z]; exact hk
    · rw [if_neg z]; exact h q hq
  · rcases List.mem_append.mp hp with hp | hp
    · exact h p hp
    · rw [List.mem_singleton.mp hp]; exact hk
theorem gPut_nd {gs : List (Int × Int)} {k v : Int} (h : (gKeys gs).Nodup) : (gKeys (gPut gs k v)).Nodup := by
  rw [gPut_keys]
  split
  · exact h
  · rename_i n
    rw [List.nodup_append]
    exact ⟨h, by simp, fun a ha b hb => by rw [List.mem_singleton.mp hb]; exact fun z => n (z ▸ ha)⟩
theorem gPut_len {gs : List (Int × Int)} {k v : Int} : gs.length ≤ (gPut gs k v).length ∧ (gPut gs k v).length ≤ gs.length + 1 ∧ gPut gs k v ≠ [] := by
  unfold gPut
  split
  · rename_i h
    rw [List.length_map]
    refine ⟨Nat.le_refl _, Nat.le_succ _, fun z => ?_⟩
    rw [List.map_eq_nil_iff] at z
    rw [z] at h
    cases h
  · rw [List.length_append]
    exact ⟨Nat.le_add_right _ _, Nat.le_refl _, by simp⟩
/-- sizes with at most m people -/
structure SzM (m : Int) (ss : List Int) : Prop where
  ne : ss ≠ []
  b : ∀ s ∈ ss, 1 ≤ s
  s : ss.sum ≤ m
theorem mem_le_sum {ss : List Int} (h : ∀ s ∈ ss, 1 ≤ s) {x : Int} (hx : x ∈ ss) : x ≤ ss.sum := by
  induction ss with
  | nil => cases hx
  | cons a ss ih =>
    have h0 : ∀ l : List Int, (∀ s ∈ l, 1 ≤ s) → 0 ≤ l.sum := fun l => by
      induction l with
      | nil => simp
      | cons a l ih => intro hl; have := hl a List.mem_cons_self; have := ih fun x hx => hl x (List.mem_cons_of_mem _ hx); simp only [List.sum_cons]; omega
    have h1 := h0 ss fun x hx => h x (List.mem_cons_of_mem _ hx)
    have h2 := h a List.mem_cons_self
    rw [List.sum_cons]
    rcases List.mem_cons.mp hx with rfl | hx
    · omega
    · have := ih (fun x hx => h x (List.mem_cons_of_mem _ hx)) hx
      omega
theorem SzM.sz {m : Int} {ss : List Int} (h : SzM m ss) (hm : m ≤ 10) : Sz ss := ⟨h.ne, fun s hs => ⟨h.b s hs, by have := mem_le_sum h.b hs; have := h.s; omega⟩, by have := h.s; omega⟩
theorem sumL_z {ns : List Int} : sumL (zs ns) = some (.int ns.sum) := by
  unfold sumL
  rw [intsT_zs]
  rfl
theorem it3 {x y z : Int} {i : Int} (h0 : 0 ≤ i) (h1 : i < 3) : itT (.list [.int x, .int y, .int z]) (.int i) = some (.int (if i = 0 then x else if i = 1 then y else z)) := by
  obtain rfl | rfl | rfl : i = 0 ∨ i = 1 ∨ i = 2 := by omega
  · rfl
  · rfl
  · rfl
theorem intsT_fun {α : Type} (f : α → Int) (xs : List α) : intsT (xs.map fun x => T.int (f x)) = some (xs.map f) := by
  have := intsT_zs (xs.map f)
  rw [zs, List.map_map] at this
  exact this
theorem chF4 : ∀ n : Nat, n < 10 → ∀ k : Nat, k < 5 → chF n k ≤ 126 := by decide +kernel
theorem tot1 {n m : Int} (h0 : 0 ≤ n) (h1 : n ≤ 9) (h2 : 0 ≤ m) (h3 : m ≤ 4) : tot n [(m, 1)] ≤ 130 := by
  have := chF4 n.toNat (by omega) m.toNat (by omega)
  rw [show (n.toNat : Int) = n by omega, show (m.toNat : Int) = m by omega] at this
  simp [tot, gKeys, gLook]
  omega
theorem min_keys {gs : List (Int × Int)} (h : gs ≠ []) : ∃ m, minKT (dctZ gs) = some (.int m) ∧ m ∈ gKeys gs := by
  cases q : (gKeys gs).min? with
  | none =>
    rw [List.min?_eq_none_iff] at q
    exact absurd (List.map_eq_nil_iff.mp q) h
  | some m =>
    obtain ⟨h1, h2⟩ := List.min?_eq_some_iff.mp q
    refine ⟨m, ?_, h1⟩
    show ((intsT ((gs.map fun p => (T.int p.1, T.int p.2)).map (·.1))).bind fun ns => ns.min?.map T.int) = _
    have e : (gs.map fun p => (T.int p.1, T.int p.2)).map (·.1) = zs (gKeys gs) := by simp [zs, gKeys]
    rw [e, intsT_zs, Option.bind_some, q]
    rfl
end Pl

end
section

/-! PL3: a drawn setting -/
namespace Pl
open PySem PySem.Spec PyProof.Rows L2 Evl TD Mi
local instance : HasT := ⟨[]⟩
theorem sz3 {x y z : T} : ([x, y, z] : List T).length ≤ 100000 := by simp
structure GmP (n : Int) (gs : List (Int × Int)) : Prop where
  nd : (gKeys gs).Nodup
  k : ∀ p ∈ gs, 1 ≤ p.1 ∧ p.1 ≤ 4 ∧ p.1 ≤ n
  v : ∀ p ∈ gs, 1 ≤ p.2 ∧ p.2 ≤ 3
theorem setting_ok {dr : FQ} (D : DrawOk dr) {n : Nat} {t : T} (hs : Src n t) (hn : n < 900000) : ∃ t' ss gs, Mi.F__law_setting dr t [] = .ok t' (.tuple [lstZ ss, dctZ gs]) ∧ Stg ss gs ∧ ss.sum ≤ 9 ∧ Src (n + 30) t' := by
  suffices h : ∃ t' d, Mi.F__law_setting dr t [] = .ok t' d ∧ ∃ ss gs, d = .tuple [lstZ ss, dctZ gs] ∧ Stg ss gs ∧ ss.sum ≤ 9 ∧ Src (n + 30) t' by
    obtain ⟨t', d, e, ss, gs, rfl, h⟩ := h
    exact ⟨t', ss, gs, e, h⟩
  refine runQ_ok ?_
  unfold Mi.m__law_setting
  obtain ⟨t1, way, e1, ⟨w0, w1⟩, s1⟩ := D n t 3 hs (by omega) (by decide) (by decide)
  have q1 : 0 < (if way = 0 then 3 else if way = 1 then 1 else 9 : Int) ∧ (if way = 0 then 3 else if way = 1 then 1 else 9 : Int) ≤ 9 := by split <;> (try split) <;> decide
  obtain ⟨t2, a, e2, ⟨a0, a1⟩, s2⟩ := D (n + 1) t1 _ s1 (by omega) q1.1 (by omega)
  have q2 : 0 < (if way = 0 then 4 else if way = 1 then 10 else 3 : Int) ∧ (if way = 0 then 4 else if way = 1 then 10 else 3 : Int) ≤ 10 := by split <;> (try split) <;> decide
  obtain ⟨t3, m, e3, ⟨m0, m1⟩, s3⟩ := D (n + 1 + 1) t2 _ s2 (by omega) q2.1 (by omega)
  have q3 : 0 < (if way = 0 then 3 else if way = 1 then 1 else 4 : Int) ∧ (if way = 0 then 3 else if way = 1 then 1 else 4 : Int) ≤ 4 := by split <;> (try split) <;> decide
  simp only [wp_ok, wp_ex, wp_bad, wp_bind, wp_ofO, wp_noX, ws_nx, ws_rt, ws_bk, ws_ct, ws_ex, ws_bad, ws_st, ws_seq, ws_ite, wp_ite, wp_mF, mV, mC, mOp, mUn, mNil, mCons, mCa, mB, mAnd, mOr, mNot, mAndV, mOrV, mNotV, mIf, mTru, mChain, sNext, sBreak, sCont, sAsg, sDrop, sRet, sRetN, sIf, sBad, sFor, iSeq, iRng, iSeqK, iItm, iZp, mkTup, mkLst, mIxO, mUnO, sOwn, mDict, sFrz, sApp, sPut, sPutL, mDictOf, mDisp1, mSrc, sUnp, mSli, mSo, mNo, mYes, wp_mLc, mFQ, List.map_cons, List.map_nil, List.nil_append, List.cons_append, List.length_cons, List.length_nil, Nat.reduceAdd, Nat.reduceSub, List.replicate, List.getElem?_cons_succ, List.getElem?_cons_zero, List.set_cons_zero, List.set_cons_succ, List.length_set, Option.some.injEq, exists_eq_left', exists_eq_left, clearE, wipeE, backE, List.all_cons, List.all_nil, List.foldl_cons, List.foldl_nil, isOwn, Bool.not_false, Bool.not_true, Bool.and_true, Bool.and_self, Bool.true_and, true_and, and_true, List.getD_eq_getElem?_getD, Option.getD_some, asB, gN, gN2, if_true, if_false, reduceIte, Bool.false_eq_true, not_true_eq_false, not_false_eq_true, forall_const, false_implies, implies_true, true_implies, eq_self, addT_i, subT_i, ltT_i, leT_i, gtT_i, geT_i, modT_i, fdivT_i, powT_i, mulT_i, min2T_i, max2T_i, negT_i, intT_i, Int.reduceLT, Int.reduceLE, decide_true, decide_false, decide_eq_true_eq, Bool.and_eq_true, Nat.reduceLeDiff, Nat.zero_le, Nat.le_refl, wp_mLc2, Bool.or_true, Bool.true_or, Bool.false_or, Bool.or_false, Option.bind_some, Option.map_some, e1, e2, e3, it3 w0 w1, rng1_z (n := m) (by omega) (by omega)]
  refine ws_for (xs := zr m) T.int (fun i e => ∃ t ss u1 u2, e = [.own t, .val (.int way), .own (lstZ ss), u1, u2, .un, .un] ∧ Src (n + 3 + i) t ∧ SzM 9 ss) ⟨_, [1 + a], _, _, rfl, s3, ⟨by simp, by simp; omega, by simp; omega⟩⟩ ?_ ?_
  · rintro i hi e ⟨t, ss, u1, u2, rfl, hs, z⟩
    refine ⟨_, rfl, ?_⟩
    rw [zr_len] at hi
    obtain ⟨t', b, e4, ⟨b0, b1⟩, s4⟩ := D (n + 3 + i) t _ hs (by omega) q3.1 (by omega)
    have e5 : sumL (List.map T.int ss) = some (.int ss.sum) := sumL_z
    simp only [wp_ok, wp_ex, wp_bad, wp_bind, wp_ofO, wp_noX, ws_nx, ws_rt, ws_bk, ws_ct, ws_ex, ws_bad, ws_st, ws_seq, ws_ite, wp_ite, wp_mF, mV, mC, mOp, mUn, mNil, mCons, mCa, mB, mAnd, mOr, mNot, mAndV, mOrV, mNotV, mIf, mTru, mChain, sNext, sBreak, sCont, sAsg, sDrop, sRet, sRetN, sIf, sBad, sFor, iSeq, iRng, iSeqK, iItm, iZp, mkTup, mkLst, mIxO, mUnO, sOwn, mDict, sFrz, sApp, sPut, sPutL, mDictOf, mDisp1, mSrc, sUnp, mSli, mSo, mNo, mYes, wp_mLc, mFQ, List.map_cons, List.map_nil, List.nil_append, List.cons_append, List.length_cons, List.length_nil, Nat.reduceAdd, Nat.reduceSub, List.replicate, List.getElem?_cons_succ, List.getElem?_cons_zero, List.set_cons_zero, List.set_cons_succ, List.length_set, Option.some.injEq, exists_eq_left', exists_eq_left, clearE, wipeE, backE, List.all_cons, List.all_nil, List.foldl_cons, List.foldl_nil, isOwn, Bool.not_false, Bool.not_true, Bool.and_true, Bool.and_self, Bool.true_and, true_and, and_true, List.getD_eq_getElem?_getD, Option.getD_some, asB, gN, gN2, if_true, if_false, reduceIte, Bool.false_eq_true, not_true_eq_false, not_false_eq_true, forall_const, false_implies, implies_true, true_implies, eq_self, addT_i, subT_i, ltT_i, leT_i, gtT_i, geT_i, modT_i, fdivT_i, powT_i, mulT_i, min2T_i, max2T_i, negT_i, intT_i, Int.reduceLT, Int.reduceLE, decide_true, decide_false, decide_eq_true_eq, Bool.and_eq_true, Nat.reduceLeDiff, Nat.zero_le, Nat.le_refl, wp_mLc2, Bool.or_true, Bool.true_or, Bool.false_or, Bool.or_false, Option.bind_some, Option.map_some, e4, it3 w0 w1, e5]
    have hl := (z.sz (by decide)).len
    refine ⟨fun h => ?_, fun h => ⟨_, _, _, _, rfl, s4, z⟩⟩
    refine ⟨fun _ => ?_, fun h => absurd (by simp only [zs, List.length_map]; omega) h⟩
    refine ⟨_, ss ++ [1 + b], _, _, by simp [lstZ, zs]; exact ⟨rfl, rfl⟩, s4, ⟨by simp, fun x hx => ?_, by simp; omega⟩⟩
    rcases List.mem_append.mp hx with hx | hx
    · exact z.b x hx
    · rw [List.mem_singleton.mp hx]; omega
  · rintro e ⟨t4, ss, u1, u2, rfl, s4, z⟩
    rw [zr_len] at s4
    have zz := z.sz (by decide)
    have hsum := zz.sum1
    have hs9 := z.s
    obtain ⟨t5, c, e6, ⟨c0, c1⟩, s5⟩ := D (n + 3 + m.toNat) t4 2 s4 (by omega) (by decide) (by decide)
    simp only [wp_ok, wp_ex, wp_bad, wp_bind, wp_ofO, wp_noX, ws_nx, ws_rt, ws_bk, ws_ct, ws_ex, ws_bad, ws_st, ws_seq, ws_ite, wp_ite, wp_mF, mV, mC, mOp, mUn, mNil, mCons, mCa, mB, mAnd, mOr, mNot, mAndV, mOrV, mNotV, mIf, mTru, mChain, sNext, sBreak, sCont, sAsg, sDrop, sRet, sRetN, sIf, sBad, sFor, iSeq, iRng, iSeqK, iItm, iZp, mkTup, mkLst, mIxO, mUnO, sOwn, mDict, sFrz, sApp, sPut, sPutL, mDictOf, mDisp1, mSrc, sUnp, mSli, mSo, mNo, mYes, wp_mLc, mFQ, List.map_cons, List.map_nil, List.nil_append, List.cons_append, List.length_cons, List.length_nil, Nat.reduceAdd, Nat.reduceSub, List.replicate, List.getElem?_cons_succ, List.getElem?_cons_zero, List.set_cons_zero, List.set_cons_succ, List.length_set, Option.some.injEq, exists_eq_left', exists_eq_left, clearE, wipeE, backE, List.all_cons, List.all_nil, List.foldl_cons, List.foldl_nil, isOwn, Bool.not_false, Bool.not_true, Bool.and_true, Bool.and_self, Bool.true_and, true_and, and_true, List.getD_eq_getElem?_getD, Option.getD_some, asB, gN, gN2, if_true, if_false, reduceIte, Bool.false_eq_true, not_true_eq_false, not_false_eq_true, forall_const, false_implies, implies_true, true_implies, eq_self, addT_i, subT_i, ltT_i, leT_i, gtT_i, geT_i, modT_i, fdivT_i, powT_i, mulT_i, min2T_i, max2T_i, negT_i, intT_i, Int.reduceLT, Int.reduceLE, decide_true, decide_false, decide_eq_true_eq, Bool.and_eq_true, Nat.reduceLeDiff, Nat.zero_le, Nat.le_refl, wp_mLc2, Bool.or_true, Bool.true_or, Bool.false_or, Bool.or_false, Option.bind_some, Option.map_some, e6, rng1_z (n := 1 + c) (by omega) (by omega)]
    refine ws_for (xs := zr (1 + c)) T.int (fun i e => ∃ t gs u1 u2, e = [.own t, .val (.int way), .own (lstZ ss), u1, u2, .own (dctZ gs), .un] ∧ Src (n + 14 + 2 * i) t ∧ GmP ss.sum gs ∧ gs.length ≤ i ∧ (0 < i → gs ≠ [])) ⟨_, [], _, _, rfl, s5.mono (by omega), ⟨by simp [gKeys], by simp, by simp⟩, Nat.le_refl _, fun h => absurd h (by decide)⟩ ?_ ?_
    · rintro i hi e ⟨t6, gs, u1, u2, rfl, s6, g, gl, _⟩
      refine ⟨_, rfl, ?_⟩
      rw [zr_len] at hi
      obtain ⟨t7, v, e7, ⟨v0, v1⟩, s7⟩ := D (n + 14 + 2 * i) t6 3 s6 (by omega) (by decide) (by decide)
      have q4 : 0 < (if ss.sum < 4 then ss.sum else 4) ∧ (if ss.sum < 4 then ss.sum else 4) ≤ 4 ∧ (if ss.sum < 4 then ss.sum else 4) ≤ ss.sum := by split <;> omega
      obtain ⟨t8, k, e8, ⟨k0, k1⟩, s8⟩ := D (n + 14 + 2 * i + 1) t7 _ s7 (by omega) q4.1 (by omega)
      have e5 : sumL (List.map T.int ss) = some (.int ss.sum) := sumL_z
      simp only [wp_ok, wp_ex, wp_bad, wp_bind, wp_ofO, wp_noX, ws_nx, ws_rt, ws_bk, ws_ct, ws_ex, ws_bad, ws_st, ws_seq, ws_ite, wp_ite, wp_mF, mV, mC, mOp, mUn, mNil, mCons, mCa, mB, mAnd, mOr, mNot, mAndV, mOrV, mNotV, mIf, mTru, mChain, sNext, sBreak, sCont, sAsg, sDrop, sRet, sRetN, sIf, sBad, sFor, iSeq, iRng, iSeqK, iItm, iZp, mkTup, mkLst, mIxO, mUnO, sOwn, mDict, sFrz, sApp, sPut, sPutL, mDictOf, mDisp1, mSrc, sUnp, mSli, mSo, mNo, mYes, wp_mLc, mFQ, List.map_cons, List.map_nil, List.nil_append, List.cons_append, List.length_cons, List.length_nil, Nat.reduceAdd, Nat.reduceSub, List.replicate, List.getElem?_cons_succ, List.getElem?_cons_zero, List.set_cons_zero, List.set_cons_succ, List.length_set, Option.some.injEq, exists_eq_left', exists_eq_left, clearE, wipeE, backE, List.all_cons, List.all_nil, List.foldl_cons, List.foldl_nil, isOwn, Bool.not_false, Bool.not_true, Bool.and_true, Bool.and_self, Bool.true_and, true_and, and_true, List.getD_eq_getElem?_getD, Option.getD_some, asB, gN, gN2, if_true, if_false, reduceIte, Bool.false_eq_true, not_true_eq_false, not_false_eq_true, forall_const, false_implies, implies_true, true_implies, eq_self, addT_i, subT_i, ltT_i, leT_i, gtT_i, geT_i, modT_i, fdivT_i, powT_i, mulT_i, min2T_i, max2T_i, negT_i, intT_i, Int.reduceLT, Int.reduceLE, decide_true, decide_false, decide_eq_true_eq, Bool.and_eq_true, Nat.reduceLeDiff, Nat.zero_le, Nat.le_refl, wp_mLc2, Bool.or_true, Bool.true_or, Bool.false_or, Bool.or_false, Option.bind_some, Option.map_some, e7, e5, e8, keyT_i]
      refine ⟨fun _ => ?_, fun h => absurd ⟨flat_d gs, by rw [List.length_map]; omega⟩ h⟩
      rw [putD_d]
      exact ⟨_, gPut gs (1 + k) (1 + v), _, _, rfl, s8.mono (by omega), ⟨gPut_nd g.nd, gPut_all g.k (by simp only; omega), gPut_all g.v (by simp only; omega)⟩, by have := (gPut_len (gs := gs) (k := 1 + k) (v := 1 + v)).2.1; omega, fun _ => gPut_len.2.2⟩
    · rintro e ⟨t6, gs, u1, u2, rfl, s6, g, gl, gn⟩
      rw [zr_len] at s6 gl gn
      have G : Gm ss.sum gs := ⟨gn (by omega), by omega, g.nd, g.k, g.v⟩
      have e5 : sumL (List.map T.int ss) = some (.int ss.sum) := sumL_z
      simp only [wp_ok, wp_ex, wp_bad, wp_bind, wp_ofO, wp_noX, ws_nx, ws_rt, ws_bk, ws_ct, ws_ex, ws_bad, ws_st, ws_seq, ws_ite, wp_ite, wp_mF, mV, mC, mOp, mUn, mNil, mCons, mCa, mB, mAnd, mOr, mNot, mAndV, mOrV, mNotV, mIf, mTru, mChain, sNext, sBreak, sCont, sAsg, sDrop, sRet, sRetN, sIf, sBad, sFor, iSeq, iRng, iSeqK, iItm, iZp, mkTup, mkLst, mIxO, mUnO, sOwn, mDict, sFrz, sApp, sPut, sPutL, mDictOf, mDisp1, mSrc, sUnp, mSli, mSo, mNo, mYes, wp_mLc, mFQ, List.map_cons, List.map_nil, List.nil_append, List.cons_append, List.length_cons, List.length_nil, Nat.reduceAdd, Nat.reduceSub, List.replicate, List.getElem?_cons_succ, List.getElem?_cons_zero, List.set_cons_zero, List.set_cons_succ, List.length_set, Option.some.injEq, exists_eq_left', exists_eq_left, clearE, wipeE, backE, List.all_cons, List.all_nil, List.foldl_cons, List.foldl_nil, isOwn, Bool.not_false, Bool.not_true, Bool.and_true, Bool.and_self, Bool.true_and, true_and, and_true, List.getD_eq_getElem?_getD, Option.getD_some, asB, gN, gN2, if_true, if_false, reduceIte, Bool.false_eq_true, not_true_eq_false, not_false_eq_true, forall_const, false_implies, implies_true, true_implies, eq_self, addT_i, subT_i, ltT_i, leT_i, gtT_i, geT_i, modT_i, fdivT_i, powT_i, mulT_i, min2T_i, max2T_i, negT_i, intT_i, Int.reduceLT, Int.reduceLE, decide_true, decide_false, decide_eq_true_eq, Bool.and_eq_true, Nat.reduceLeDiff, Nat.zero_le, Nat.le_refl, wp_mLc2, Bool.or_true, Bool.true_or, Bool.false_or, Bool.or_false, Option.bind_some, Option.map_some, keysD_d]
      refine wp_lc (xs := gKeys gs) T.int (fun _ => true) (fun k => T.int ((gLook gs k).getD 0 * chF ss.sum k)) ?_ ?_
      · intro x hx
        refine ⟨_, rfl, ?_⟩
        obtain ⟨p, hp, rfl⟩ := List.mem_map.mp hx
        have hk := g.k p hp
        have hv := g.v p hp
        simp only [wp_ok, wp_ex, wp_bad, wp_bind, wp_ofO, wp_noX, ws_nx, ws_rt, ws_bk, ws_ct, ws_ex, ws_bad, ws_st, ws_seq, ws_ite, wp_ite, wp_mF, mV, mC, mOp, mUn, mNil, mCons, mCa, mB, mAnd, mOr, mNot, mAndV, mOrV, mNotV, mIf, mTru, mChain, sNext, sBreak, sCont, sAsg, sDrop, sRet, sRetN, sIf, sBad, sFor, iSeq, iRng, iSeqK, iItm, iZp, mkTup, mkLst, mIxO, mUnO, sOwn, mDict, sFrz, sApp, sPut, sPutL, mDictOf, mDisp1, mSrc, sUnp, mSli, mSo, mNo, mYes, wp_mLc, mFQ, List.map_cons, List.map_nil, List.nil_append, List.cons_append, List.length_cons, List.length_nil, Nat.reduceAdd, Nat.reduceSub, List.replicate, List.getElem?_cons_succ, List.getElem?_cons_zero, List.set_cons_zero, List.set_cons_succ, List.length_set, Option.some.injEq, exists_eq_left', exists_eq_left, clearE, wipeE, backE, List.all_cons, List.all_nil, List.foldl_cons, List.foldl_nil, isOwn, Bool.not_false, Bool.not_true, Bool.and_true, Bool.and_self, Bool.true_and, true_and, and_true, List.getD_eq_getElem?_getD, Option.getD_some, asB, gN, gN2, if_true, if_false, reduceIte, Bool.false_eq_true, not_true_eq_false, not_false_eq_true, forall_const, false_implies, implies_true, true_implies, eq_self, addT_i, subT_i, ltT_i, leT_i, gtT_i, geT_i, modT_i, fdivT_i, powT_i, mulT_i, min2T_i, max2T_i, negT_i, intT_i, Int.reduceLT, Int.reduceLE, decide_true, decide_false, decide_eq_true_eq, Bool.and_eq_true, Nat.reduceLeDiff, Nat.zero_le, Nat.le_refl, wp_mLc2, Bool.or_true, Bool.true_or, Bool.false_or, Bool.or_false, Option.bind_some, Option.map_some, itT_d, gLook_mem g.nd hp, e5, choose_eq, f_choices (show 0 ≤ ss.sum by omega) (show ss.sum ≤ 100000 by omega) (show p.1 ≤ 100000 by omega) (show 0 ≤ p.1 by omega), show bigB p.2 = true from bigB_of (by omega) (by omega)]
      · have e9 : sumT (.list ((gKeys gs).map fun k => T.int ((gLook gs k).getD 0 * chF ss.sum k))) = some (.int (tot ss.sum gs)) := by
          show (intsT _).map _ = _
          rw [intsT_fun]
          rfl
        obtain ⟨mk, em, hm⟩ := min_keys G.ne
        have em' : minKT (.dict (gs.map fun p => (T.int p.1, T.int p.2))) = some (.int mk) := em
        simp only [wp_ok, wp_ex, wp_bad, wp_bind, wp_ofO, wp_noX, ws_nx, ws_rt, ws_bk, ws_ct, ws_ex, ws_bad, ws_st, ws_seq, ws_ite, wp_ite, wp_mF, mV, mC, mOp, mUn, mNil, mCons, mCa, mB, mAnd, mOr, mNot, mAndV, mOrV, mNotV, mIf, mTru, mChain, sNext, sBreak, sCont, sAsg, sDrop, sRet, sRetN, sIf, sBad, sFor, iSeq, iRng, iSeqK, iItm, iZp, mkTup, mkLst, mIxO, mUnO, sOwn, mDict, sFrz, sApp, sPut, sPutL, mDictOf, mDisp1, mSrc, sUnp, mSli, mSo, mNo, mYes, wp_mLc, mFQ, List.map_cons, List.map_nil, List.nil_append, List.cons_append, List.length_cons, List.length_nil, Nat.reduceAdd, Nat.reduceSub, List.replicate, List.getElem?_cons_succ, List.getElem?_cons_zero, List.set_cons_zero, List.set_cons_succ, List.length_set, Option.some.injEq, exists_eq_left', exists_eq_left, clearE, wipeE, backE, List.all_cons, List.all_nil, List.foldl_cons, List.foldl_nil, isOwn, Bool.not_false, Bool.not_true, Bool.and_true, Bool.and_self, Bool.true_and, true_and, and_true, List.getD_eq_getElem?_getD, Option.getD_some, asB, gN, gN2, if_true, if_false, reduceIte, Bool.false_eq_true, not_true_eq_false, not_false_eq_true, forall_const, false_implies, implies_true, true_implies, eq_self, addT_i, subT_i, ltT_i, leT_i, gtT_i, geT_i, modT_i, fdivT_i, powT_i, mulT_i, min2T_i, max2T_i, negT_i, intT_i, Int.reduceLT, Int.reduceLE, decide_true, decide_false, decide_eq_true_eq, Bool.and_eq_true, Nat.reduceLeDiff, Nat.zero_le, Nat.le_refl, wp_mLc2, Bool.or_true, Bool.true_or, Bool.false_or, Bool.or_false, Option.bind_some, Option.map_some, filter_yes, e9, em, em', keyT_i, noX, kD, e5]
        refine ⟨by rw [List.length_map, gKeys, List.length_map]; omega, fun h => ?_, fun h => ?_⟩
        · obtain ⟨p, hp, rfl⟩ := List.mem_map.mp hm
          have hk := g.k p hp
          exact ⟨_, rfl, ss, [(p.1, 1)], rfl, ⟨zz, ⟨by simp, by simp, by simp [gKeys], by simp; omega, by simp⟩, tot1 (by omega) hs9 (by omega) (by omega)⟩, hs9, s6.mono (by omega)⟩
        · exact ⟨_, rfl, ss, gs, rfl, ⟨zz, G, by omega⟩, hs9, s6.mono (by omega)⟩
end Pl

end
section

/-! PL4: shapes, equality, odd values -/
namespace Pl
open PySem PySem.Spec PyProof.Rows L2 Evl TD Mi
local instance : HasT := ⟨[]⟩
/-- data that can be compared, at most n deep -/
def Sh (n : Nat) (d : T) : Prop := (toP d).canLay0 = true ∧ (toP d).depth ≤ n
theorem Sh.int {n : Nat} {i : Int} : Sh n (.int i) := ⟨by simp [toP, PyData.canLay0], by simp [toP, PyData.depth]⟩
theorem Sh.bool {n : Nat} {b : Bool} : Sh n (.bool b) := ⟨by simp [toP, PyData.canLay0], by simp [toP, PyData.depth]⟩
theorem Sh.none {n : Nat} : Sh n .none := ⟨by simp [toP, PyData.canLay0], by simp [toP, PyData.depth]⟩
theorem Sh.all {n : Nat} : ∀ {xs : List T}, (∀ x ∈ xs, Sh n x) → PyData.canLayAll0 (toPs xs) = true ∧ PyData.depthAll (toPs xs) ≤ n
  | [], _ => ⟨by simp [toPs, PyData.canLayAll0], by simp [toPs, PyData.depthAll]⟩
  | x :: xs, h => by
    obtain ⟨h1, h2⟩ := Sh.all fun y hy => h y (List.mem_cons_of_mem _ hy)
    obtain ⟨h3, h4⟩ := h x List.mem_cons_self
    simp only [toPs, PyData.canLayAll0, PyData.depthAll, h1, h3, Bool.and_self, true_and]
    omega
theorem Sh.list {n : Nat} {xs : List T} (h : ∀ x ∈ xs, Sh n x) : Sh (n + 1) (.list xs) := by
  obtain ⟨h1, h2⟩ := Sh.all h
  exact ⟨by simp only [toP, PyData.canLay0, h1], by simp only [toP, PyData.depth]; omega⟩
theorem Sh.tuple {n : Nat} {xs : List T} (h : ∀ x ∈ xs, Sh n x) : Sh (n + 1) (.tuple xs) := by
  obtain ⟨h1, h2⟩ := Sh.all h
  exact ⟨by simp only [toP, PyData.canLay0, h1], by simp only [toP, PyData.depth]; omega⟩
theorem Sh.mono {n m : Nat} {d : T} (h : Sh n d) (k : n ≤ m) : Sh m d := ⟨h.1, Nat.le_trans h.2 k⟩
theorem Sh.shp {n : Nat} {d : T} (h : Sh n d) (hn : n ≤ 64) : shp d = true := by
  unfold TD.shp SeqAt.shaped
  rw [h.1, decide_eq_true (Nat.le_trans h.2 hn)]
  rfl
theorem Sh.ints {ns : List Int} : ∀ x ∈ zs ns, Sh 0 x := fun x hx => by
  obtain ⟨i, _, rfl⟩ := List.mem_map.mp hx
  exact Sh.int
theorem sh_tupZ (r : List Int) : Sh 1 (tupZ r) := Sh.tuple Sh.ints
theorem sh_lstZ (r : List Int) : Sh 1 (lstZ r) := Sh.list Sh.ints
theorem sh_tups (A : List (List Int)) : Sh 2 (.list (A.map tupZ)) := Sh.list fun x hx => by
  obtain ⟨r, _, rfl⟩ := List.mem_map.mp hx
  exact sh_tupZ r
theorem eqP_self {d : T} {n : Nat} (h : Sh n d) : eqP d d = true := PySem.SeqAt.eqv_refl _ h.1
theorem eqT_self {d : T} {n : Nat} (h : Sh n d) (hn : n ≤ 64) : TD.eqT d d = some (.bool true) := by
  unfold TD.eqT
  rw [h.shp hn, eqP_self h]
  rfl
theorem neT_self {d : T} {n : Nat} (h : Sh n d) (hn : n ≤ 64) : TD.neT d d = some (.bool false) := by
  unfold TD.neT
  rw [h.shp hn, eqP_self h]
  rfl
theorem eqv_int {i : Int} {x : T} (hb : ∀ b, x ≠ .bool b) : PyData.eqv (.int i) (toP x) = true ↔ x = .int i := by
  cases x with
  | int j => simp [toP, PyData.eqv]; exact ⟨fun h => by rw [h], fun h => by rw [h]⟩
  | bool b => exact absurd rfl (hb b)
  | _ => simp [toP, PyData.eqv]
theorem eqv_ints : ∀ {r : List Int} {xs : List T}, (∀ x ∈ xs, ∀ b, x ≠ .bool b) → (PyData.eqvAll (toPs (zs r)) (toPs xs) = true ↔ xs = zs r)
  | [], [], _ => by simp [toPs, PyData.eqvAll]
  | [], _ :: _, _ => by simp [toPs, PyData.eqvAll]
  | _ :: _, [], _ => by simp [toPs, PyData.eqvAll]
  | i :: r, x :: xs, h => by
    have ih := eqv_ints (r := r) fun y hy => h y (List.mem_cons_of_mem _ hy)
    simp only [zs, List.map_cons, toPs, PyData.eqvAll, Bool.and_eq_true, List.cons.injEq]
    rw [show toP (.int i) = .int i by simp [toP], eqv_int (h x List.mem_cons_self)]
    exact and_congr_right fun _ => ih
theorem eqP_tup {r : List Int} {xs : List T} (h : ∀ x ∈ xs, ∀ b, x ≠ .bool b) : eqP (tupZ r) (.tuple xs) = true ↔ xs = zs r := by
  show PyData.eqv (toP (tupZ r)) (toP (.tuple xs)) = true ↔ _
  simp only [tupZ, toP, PyData.eqv]
  exact eqv_ints h
def isBl : T → Bool
  | .bool _ => true
  | _ => false
theorem isT_bool {d : T} (h : (tyN d).isSome = true) : isT "bool" d = some (.bool (isBl d)) := by
  unfold isT
  cases d with
  | dict ps =>
    cases ps with
    | nil => simp [tyN, isN, isBl]
    | cons p ps =>
      obtain ⟨k, v⟩ := p
      cases k <;> simp [tyN, isN, isBl] at h ⊢
  | scr ns => simp [tyN] at h
  | obj c fs => simp [tyN] at h
  | _ => simp [tyN, isN, isBl]
theorem f_is_right {ss : List Int} {gs : List (Int × Int)} {v : T} {n : Nat} (hv : dec v = true) (hs : Sh n v) (hn : n ≤ 64) (hl : ∀ xs, v = .tuple xs → xs.length ≤ 100000) : F__law_is_right [.list ((Kn ss gs).map tupZ), v] = .ok (.bool (kindOf ss gs v)) := by
  refine runF_ok ?_
  unfold m__law_is_right
  simp only [wp_ok, wp_ex, wp_bad, wp_bind, wp_ofO, wp_noX, ws_nx, ws_rt, ws_bk, ws_ct, ws_ex, ws_bad, ws_st, ws_seq, ws_ite, wp_ite, wp_mF, mV, mC, mOp, mUn, mNil, mCons, mCa, mB, mAnd, mOr, mNot, mAndV, mOrV, mNotV, mIf, mTru, mChain, sNext, sBreak, sCont, sAsg, sDrop, sRet, sRetN, sIf, sBad, sFor, iSeq, iRng, iSeqK, iItm, iZp, mkTup, mkLst, mIxO, mUnO, sOwn, mDict, sFrz, sApp, sPut, sPutL, mDictOf, mDisp1, mSrc, sUnp, mSli, mSo, mNo, mYes, wp_mLc, mFQ, List.map_cons, List.map_nil, List.nil_append, List.cons_append, List.length_cons, List.length_nil, Nat.reduceAdd, Nat.reduceSub, List.replicate, List.getElem?_cons_succ, List.getElem?_cons_zero, List.set_cons_zero, List.set_cons_succ, List.length_set, Option.some.injEq, exists_eq_left', exists_eq_left, clearE, wipeE, backE, List.all_cons, List.all_nil, List.foldl_cons, List.foldl_nil, isOwn, Bool.not_false, Bool.not_true, Bool.and_true, Bool.and_self, Bool.true_and, true_and, and_true, List.getD_eq_getElem?_getD, Option.getD_some, asB, gN, gN2, if_true, if_false, reduceIte, Bool.false_eq_true, not_true_eq_false, not_false_eq_true, forall_const, false_implies, implies_true, true_implies, eq_self, addT_i, subT_i, ltT_i, leT_i, gtT_i, geT_i, modT_i, fdivT_i, powT_i, mulT_i, min2T_i, max2T_i, negT_i, intT_i, Int.reduceLT, Int.reduceLE, decide_true, decide_false, decide_eq_true_eq, Bool.and_eq_true, Nat.reduceLeDiff, Nat.zero_le, Nat.le_refl, wp_mLc2, Bool.or_true, Bool.true_or, Bool.false_or, Bool.or_false, Option.bind_some, Option.map_some, isT_tuple (dec_ty hv), tru]
  cases v with
  | tuple xs =>
    simp only [wp_ok, wp_ex, wp_bad, wp_bind, wp_ofO, wp_noX, ws_nx, ws_rt, ws_bk, ws_ct, ws_ex, ws_bad, ws_st, ws_seq, ws_ite, wp_ite, wp_mF, mV, mC, mOp, mUn, mNil, mCons, mCa, mB, mAnd, mOr, mNot, mAndV, mOrV, mNotV, mIf, mTru, mChain, sNext, sBreak, sCont, sAsg, sDrop, sRet, sRetN, sIf, sBad, sFor, iSeq, iRng, iSeqK, iItm, iZp, mkTup, mkLst, mIxO, mUnO, sOwn, mDict, sFrz, sApp, sPut, sPutL, mDictOf, mDisp1, mSrc, sUnp, mSli, mSo, mNo, mYes, wp_mLc, mFQ, List.map_cons, List.map_nil, List.nil_append, List.cons_append, List.length_cons, List.length_nil, Nat.reduceAdd, Nat.reduceSub, List.replicate, List.getElem?_cons_succ, List.getElem?_cons_zero, List.set_cons_zero, List.set_cons_succ, List.length_set, Option.some.injEq, exists_eq_left', exists_eq_left, clearE, wipeE, backE, List.all_cons, List.all_nil, List.foldl_cons, List.foldl_nil, isOwn, Bool.not_false, Bool.not_true, Bool.and_true, Bool.and_self, Bool.true_and, true_and, and_true, List.getD_eq_getElem?_getD, Option.getD_some, asB, gN, gN2, if_true, if_false, reduceIte, Bool.false_eq_true, not_true_eq_false, not_false_eq_true, forall_const, false_implies, implies_true, true_implies, eq_self, addT_i, subT_i, ltT_i, leT_i, gtT_i, geT_i, modT_i, fdivT_i, powT_i, mulT_i, min2T_i, max2T_i, negT_i, intT_i, Int.reduceLT, Int.reduceLE, decide_true, decide_false, decide_eq_true_eq, Bool.and_eq_true, Nat.reduceLeDiff, Nat.zero_le, Nat.le_refl, wp_mLc2, Bool.or_true, Bool.true_or, Bool.false_or, Bool.or_false, Option.bind_some, Option.map_some, isTup, keysD_t]
    rw [← List.map_id xs]
    refine wp_lc (xs := xs) id (fun _ => true) (fun x => T.bool (isBl x)) ?_ ?_
    · intro x hx
      refine ⟨_, rfl, ?_⟩
      have hx' : (tyN x).isSome = true := List.all_eq_true.mp hv x hx
      simp only [wp_ok, wp_ex, wp_bad, wp_bind, wp_ofO, wp_noX, ws_nx, ws_rt, ws_bk, ws_ct, ws_ex, ws_bad, ws_st, ws_seq, ws_ite, wp_ite, wp_mF, mV, mC, mOp, mUn, mNil, mCons, mCa, mB, mAnd, mOr, mNot, mAndV, mOrV, mNotV, mIf, mTru, mChain, sNext, sBreak, sCont, sAsg, sDrop, sRet, sRetN, sIf, sBad, sFor, iSeq, iRng, iSeqK, iItm, iZp, mkTup, mkLst, mIxO, mUnO, sOwn, mDict, sFrz, sApp, sPut, sPutL, mDictOf, mDisp1, mSrc, sUnp, mSli, mSo, mNo, mYes, wp_mLc, mFQ, List.map_cons, List.map_nil, List.nil_append, List.cons_append, List.length_cons, List.length_nil, Nat.reduceAdd, Nat.reduceSub, List.replicate, List.getElem?_cons_succ, List.getElem?_cons_zero, List.set_cons_zero, List.set_cons_succ, List.length_set, Option.some.injEq, exists_eq_left', exists_eq_left, clearE, wipeE, backE, List.all_cons, List.all_nil, List.foldl_cons, List.foldl_nil, isOwn, Bool.not_false, Bool.not_true, Bool.and_true, Bool.and_self, Bool.true_and, true_and, and_true, List.getD_eq_getElem?_getD, Option.getD_some, asB, gN, gN2, if_true, if_false, reduceIte, Bool.false_eq_true, not_true_eq_false, not_false_eq_true, forall_const, false_implies, implies_true, true_implies, eq_self, addT_i, subT_i, ltT_i, leT_i, gtT_i, geT_i, modT_i, fdivT_i, powT_i, mulT_i, min2T_i, max2T_i, negT_i, intT_i, Int.reduceLT, Int.reduceLE, decide_true, decide_false, decide_eq_true_eq, Bool.and_eq_true, Nat.reduceLeDiff, Nat.zero_le, Nat.le_refl, wp_mLc2, Bool.or_true, Bool.true_or, Bool.false_or, Bool.or_false, Option.bind_some, Option.map_some, id, isT_bool hx']
    · simp only [wp_ok, wp_ex, wp_bad, wp_bind, wp_ofO, wp_noX, ws_nx, ws_rt, ws_bk, ws_ct, ws_ex, ws_bad, ws_st, ws_seq, ws_ite, wp_ite, wp_mF, mV, mC, mOp, mUn, mNil, mCons, mCa, mB, mAnd, mOr, mNot, mAndV, mOrV, mNotV, mIf, mTru, mChain, sNext, sBreak, sCont, sAsg, sDrop, sRet, sRetN, sIf, sBad, sFor, iSeq, iRng, iSeqK, iItm, iZp, mkTup, mkLst, mIxO, mUnO, sOwn, mDict, sFrz, sApp, sPut, sPutL, mDictOf, mDisp1, mSrc, sUnp, mSli, mSo, mNo, mYes, wp_mLc, mFQ, List.map_cons, List.map_nil, List.nil_append, List.cons_append, List.length_cons, List.length_nil, Nat.reduceAdd, Nat.reduceSub, List.replicate, List.getElem?_cons_succ, List.getElem?_cons_zero, List.set_cons_zero, List.set_cons_succ, List.length_set, Option.some.injEq, exists_eq_left', exists_eq_left, clearE, wipeE, backE, List.all_cons, List.all_nil, List.foldl_cons, List.foldl_nil, isOwn, Bool.not_false, Bool.not_true, Bool.and_true, Bool.and_self, Bool.true_and, true_and, and_true, List.getD_eq_getElem?_getD, Option.getD_some, asB, gN, gN2, if_true, if_false, reduceIte, Bool.false_eq_true, not_true_eq_false, not_false_eq_true, forall_const, false_implies, implies_true, true_implies, eq_self, addT_i, subT_i, ltT_i, leT_i, gtT_i, geT_i, modT_i, fdivT_i, powT_i, mulT_i, min2T_i, max2T_i, negT_i, intT_i, Int.reduceLT, Int.reduceLE, decide_true, decide_false, decide_eq_true_eq, Bool.and_eq_true, Nat.reduceLeDiff, Nat.zero_le, Nat.le_refl, wp_mLc2, Bool.or_true, Bool.true_or, Bool.false_or, Bool.or_false, Option.bind_some, Option.map_some, filter_yes, List.length_map, anyT_of, tru, List.map_id, hl xs rfl]
      have he : hasT false (.tuple xs) (.list ((Kn ss gs).map tupZ)) = some (.bool (((Kn ss gs).map tupZ).any fun z => eqP z (.tuple xs))) := by
        show (if (shp (.tuple xs) && shp (.list ((Kn ss gs).map tupZ))) = true then some (T.bool (false ^^ _)) else none) = _
        rw [hs.shp hn, (sh_tups _).shp (by decide)]
        simp
      refine ⟨fun h => ?_, fun h => ?_⟩
      · obtain ⟨x, hx, hb⟩ := List.any_eq_true.mp h
        congr 1
        refine (Bool.eq_false_iff.mpr fun z => ?_).symm
        obtain ⟨r, _, e⟩ := kindOf_iff.mp z
        injection e with e
        rw [e] at hx
        obtain ⟨i, _, rfl⟩ := List.mem_map.mp hx
        cases hb
      · rw [he]
        refine ⟨_, rfl, ?_⟩
        congr 1
        have nb : ∀ x ∈ xs, ∀ b, x ≠ .bool b := fun x hx b e => h (List.any_eq_true.mpr ⟨x, hx, by rw [e]; rfl⟩)
        rw [Bool.eq_iff_iff, List.any_eq_true, kindOf_iff]
        constructor
        · rintro ⟨z, hz, h2⟩
          obtain ⟨r, hr, rfl⟩ := List.mem_map.mp hz
          exact ⟨r, hr, by rw [(eqP_tup nb).mp h2]⟩
        · rintro ⟨r, hr, e⟩
          injection e with e
          exact ⟨tupZ r, List.mem_map_of_mem hr, (eqP_tup nb).mpr e⟩
  | _ =>
    have hk : ∀ v, isTup v = false → kindOf ss gs v = false := fun v hv => by
      refine Bool.eq_false_iff.mpr fun z => ?_
      obtain ⟨r, _, e⟩ := kindOf_iff.mp z
      rw [e] at hv
      cases hv
    simp only [wp_ok, wp_ex, wp_bad, wp_bind, wp_ofO, wp_noX, ws_nx, ws_rt, ws_bk, ws_ct, ws_ex, ws_bad, ws_st, ws_seq, ws_ite, wp_ite, wp_mF, mV, mC, mOp, mUn, mNil, mCons, mCa, mB, mAnd, mOr, mNot, mAndV, mOrV, mNotV, mIf, mTru, mChain, sNext, sBreak, sCont, sAsg, sDrop, sRet, sRetN, sIf, sBad, sFor, iSeq, iRng, iSeqK, iItm, iZp, mkTup, mkLst, mIxO, mUnO, sOwn, mDict, sFrz, sApp, sPut, sPutL, mDictOf, mDisp1, mSrc, sUnp, mSli, mSo, mNo, mYes, wp_mLc, mFQ, List.map_cons, List.map_nil, List.nil_append, List.cons_append, List.length_cons, List.length_nil, Nat.reduceAdd, Nat.reduceSub, List.replicate, List.getElem?_cons_succ, List.getElem?_cons_zero, List.set_cons_zero, List.set_cons_succ, List.length_set, Option.some.injEq, exists_eq_left', exists_eq_left, clearE, wipeE, backE, List.all_cons, List.all_nil, List.foldl_cons, List.foldl_nil, isOwn, Bool.not_false, Bool.not_true, Bool.and_true, Bool.and_self, Bool.true_and, true_and, and_true, List.getD_eq_getElem?_getD, Option.getD_some, asB, gN, gN2, if_true, if_false, reduceIte, Bool.false_eq_true, not_true_eq_false, not_false_eq_true, forall_const, false_implies, implies_true, true_implies, eq_self, addT_i, subT_i, ltT_i, leT_i, gtT_i, geT_i, modT_i, fdivT_i, powT_i, mulT_i, min2T_i, max2T_i, negT_i, intT_i, Int.reduceLT, Int.reduceLE, decide_true, decide_false, decide_eq_true_eq, Bool.and_eq_true, Nat.reduceLeDiff, Nat.zero_le, Nat.le_refl, wp_mLc2, Bool.or_true, Bool.true_or, Bool.false_or, Bool.or_false, Option.bind_some, Option.map_some, isTup]
    rw [hk _ rfl]
theorem f_due_told {ss : List Int} {gs : List (Int × Int)} {d v : T} {n : Nat} (h : SeqZ ss d) (z : Stg ss gs) (hv : dec v = true) (hs : Sh n v) (hn : n ≤ 64) (hk : kindOf ss gs v = false) : F__law_due_told [d, dctZ gs, v] = .ok (.tuple [.str "kind", .bool true]) := by
  have e : F_due_of [d, dctZ gs, v] = .ex "BadKind" [("value", v)] := f_due_bad h z hv hk
  show outF (m__law_due_told [.val d, .val (dctZ gs), .val v, .un]) = _
  unfold m__law_due_told sTry
  have e2 : (sRet (mF F_due_of (mCons (mV 0) (mCons (mV 1) (mCons (mV 2) mNil))))) [.val d, .val (dctZ gs), .val v, .un] = .ex "BadKind" [("value", v)] [.val d, .val (dctZ gs), .val v, .un] := by
    show R.st (mF F_due_of _ _) _ = _
    unfold mF
    show R.st (match F_due_of [d, dctZ gs, v] with | .ok d' => R.ok d' _ | .ex c fs => .ex c fs _ | .bad => .bad) _ = _
    rw [e]
    rfl
  rw [e2]
  show outF (if ("BadKind" : Str) = "BadKind" then msEq "kind" "value" 3 2 [("value", v)] [.val d, .val (dctZ gs), .val v, .un] else .bad) = _
  rw [if_pos rfl]
  show outF (if 3 < 4 ∧ ([("value" : Str)] : List Str) = [("value" : Str)] ∧ shp v = true ∧ shp v = true then .rt (.tuple [.str "kind", .bool (eqP v v)]) _ else .bad) = _
  rw [if_pos ⟨by decide, rfl, hs.shp hn, hs.shp hn⟩, eqP_self hs]
  rfl
theorem tup_has {ss : List Int} (h : ∀ s ∈ ss, 1 ≤ s) : ∀ k : Int, 0 ≤ k → k ≤ ss.sum → ∃ r ∈ tup ss, r.sum = k := by
  induction ss with
  | nil => intro k h0 h1; exact ⟨[], by simp [tup], by simp at h1 ⊢; omega⟩
  | cons s ss ih =>
    intro k h0 h1
    have hs := h s List.mem_cons_self
    rw [List.sum_cons] at h1
    by_cases q : k ≤ s
    · obtain ⟨r, hr, e⟩ := ih (fun x hx => h x (List.mem_cons_of_mem _ hx)) 0 (by decide) (by
        have h0 : ∀ l : List Int, (∀ s ∈ l, 1 ≤ s) → 0 ≤ l.sum := fun l => by
          induction l with
          | nil => simp
          | cons a l ih => intro hl; have := hl a List.mem_cons_self; have := ih fun x hx => hl x (List.mem_cons_of_mem _ hx); simp only [List.sum_cons]; omega
        exact h0 ss fun x hx => h x (List.mem_cons_of_mem _ hx))
      refine ⟨k :: r, ?_, by rw [List.sum_cons, e]; omega⟩
      simp only [tup, List.mem_flatMap, List.mem_map]
      exact ⟨k, mem_zr.mpr (by omega), r, hr, rfl⟩
    · obtain ⟨r, hr, e⟩ := ih (fun x hx => h x (List.mem_cons_of_mem _ hx)) (k - s) (by omega) (by omega)
      refine ⟨s :: r, ?_, by rw [List.sum_cons, e]; omega⟩
      simp only [tup, List.mem_flatMap, List.mem_map]
      exact ⟨s, mem_zr.mpr (by omega), r, hr, rfl⟩
theorem Kn_ne {ss : List Int} {gs : List (Int × Int)} (z : Stg ss gs) : Kn ss gs ≠ [] := by
  rcases gs with _ | ⟨p, gs⟩
  · exact absurd rfl z.g.ne
  · have hk := z.g.k p List.mem_cons_self
    obtain ⟨r, hr, e⟩ := tup_has (fun s hs => (z.s.b s hs).1) p.1 (by omega) (by omega)
    intro h
    have : r ∈ Kn ss (p :: gs) := mem_Kn.mpr ⟨hr, by rw [e, gLook_mem z.g.nd List.mem_cons_self]; rfl⟩
    rw [h] at this
    cases this
end Pl

end
section

/-! PL5: k01's odd values -/
namespace Pl
open PySem PySem.Spec PyProof.Rows L2 Evl TD Mi
local instance : HasT := ⟨[]⟩
/-- a value that the laws ask about -/
structure Odd (v : T) : Prop where
  dec : Pl.dec v = true
  sh : ∃ n, n ≤ 64 ∧ Sh n v
  len : ∀ xs, v = .tuple xs → xs.length ≤ 100000
theorem tyN_cases {x : T} (h : x = .none ∨ (∃ b, x = .bool b) ∨ (∃ i, x = .int i) ∨ ∃ s, x = .str s) : (tyN x).isSome = true := by
  rcases h with rfl | ⟨b, rfl⟩ | ⟨i, rfl⟩ | ⟨s, rfl⟩ <;> rfl
theorem odd_tuple {xs : List T} {n : Nat} (hn : n < 64) (h1 : ∀ x ∈ xs, (tyN x).isSome = true) (h2 : ∀ x ∈ xs, Sh n x) (h3 : xs.length ≤ 100000) : Odd (.tuple xs) :=
  ⟨List.all_eq_true.mpr h1, ⟨n + 1, hn, Sh.tuple h2⟩, fun ys e => by injection e with e; rw [← e]; exact h3⟩
theorem odd_ints {r : List Int} (h : r.length ≤ 100000) : Odd (tupZ r) := odd_tuple (n := 0) (by decide) (fun x hx => by
  obtain ⟨i, _, rfl⟩ := List.mem_map.mp hx
  rfl) Sh.ints (by simpa [zs] using h)
theorem cut_take {xs : List T} {k : Int} (h0 : 0 ≤ k) : cutT xs none (some k) = xs.take k.toNat := by
  unfold cutT
  rw [show HT.sIx xs.length 0 none = 0 from rfl, List.drop_zero, Nat.sub_zero]
  have e : HT.sIx xs.length xs.length (some k) = min k.toNat xs.length := by
    rw [show k = ((k.toNat : Nat) : Int) by omega]
    exact HT.sIx_nat _ _ _
  rw [e, List.take_eq_take_iff]
  omega
theorem cut_drop {xs : List T} {k : Int} (h0 : 0 ≤ k) : cutT xs (some k) none = xs.drop k.toNat := by
  unfold cutT
  have e : HT.sIx xs.length 0 (some k) = min k.toNat xs.length := by
    rw [show k = ((k.toNat : Nat) : Int) by omega]
    exact HT.sIx_nat _ _ _
  rw [e, show HT.sIx xs.length xs.length none = xs.length from rfl]
  by_cases h : k.toNat ≤ xs.length
  · rw [Nat.min_eq_left h, List.take_of_length_le (by rw [List.length_drop]; omega)]
  · rw [Nat.min_eq_right (by omega), Nat.sub_self, List.take_zero, List.drop_eq_nil_of_le (by omega)]
theorem sh_1 : Sh 0 (T.str (Str.ofString "1")) := ⟨by decide +kernel, by decide +kernel⟩
theorem sh_kind : Sh 0 (T.str (Str.ofString "kind")) := ⟨by decide +kernel, by decide +kernel⟩
theorem addT_t {xs ys : List T} (h : xs.length + ys.length ≤ 100000) : addT (.tuple xs) (.tuple ys) = some (.tuple (xs ++ ys)) := if_pos h
theorem atI_l {xs : List T} {i : Int} (h0 : 0 ≤ i) (h1 : i < xs.length) : atI xs i = some (xs[i.toNat]'(by omega)) := by
  unfold atI ixN
  rw [if_pos h0, if_pos h1, Option.bind_some, List.getElem?_eq_getElem (by omega)]
theorem odd_ok {dr : FQ} (D : DrawOk dr) {n : Nat} {t d : T} {A : List (List Int)} {ss : List Int} (hs : Src n t) (hn : n < 900000) (h : SeqZ ss d) (hss : ss.length ≤ 1000) (hA : A ≠ []) (hA1 : A.length ≤ 10000) (hA2 : ∀ r ∈ A, 1 ≤ r.length ∧ r.length ≤ 1000) :
    ∃ t' v, Mi.F__law_odd dr t [.list (A.map tupZ), d] = .ok t' v ∧ Odd v ∧ Src (n + 3) t' := by
  refine runQ_ok (A := fun t' v => Odd v ∧ Src (n + 3) t') ?_
  unfold Mi.m__law_odd
  have hl : 1 ≤ A.length := by
    rcases A with _ | ⟨a, A⟩
    · exact absurd rfl hA
    · simp
  obtain ⟨t1, j, e1, ⟨j0, j1⟩, s1⟩ := D n t (A.length : Int) hs (by omega) (by omega) (by omega)
  obtain ⟨r, hr, ej⟩ : ∃ r ∈ A, itT (.list (A.map tupZ)) (.int j) = some (tupZ r) := by
    refine ⟨A[j.toNat]'(by omega), List.getElem_mem _, ?_⟩
    show atI (A.map tupZ) j = _
    rw [atI_l j0 (by rw [List.length_map]; exact j1), List.getElem_map]
  have hr1 := hA2 r hr
  have er : lenA (tupZ r) = some (.int r.length) := lenA_seq (.inr rfl)
  have eA : lenA (.list (A.map tupZ)) = some (.int A.length) := by simp [lenA, lenT]
  obtain ⟨t2, k, e2, ⟨k0, k1⟩, s2⟩ := D (n + 1) t1 (r.length : Int) s1 (by omega) (by omega) (by omega)
  have ek : itT (tupZ r) (.int k) = some (.int (r[k.toNat]'(by omega))) := itT_seq (.inr rfl) k0 k1
  simp only [wp_ok, wp_ex, wp_bad, wp_bind, wp_ofO, wp_noX, ws_nx, ws_rt, ws_bk, ws_ct, ws_ex, ws_bad, ws_st, ws_seq, ws_ite, wp_ite, wp_mF, mV, mC, mOp, mUn, mNil, mCons, mCa, mB, mAnd, mOr, mNot, mAndV, mOrV, mNotV, mIf, mTru, mChain, sNext, sBreak, sCont, sAsg, sDrop, sRet, sRetN, sIf, sBad, sFor, iSeq, iRng, iSeqK, iItm, iZp, mkTup, mkLst, mIxO, mUnO, sOwn, mDict, sFrz, sApp, sPut, sPutL, mDictOf, mDisp1, mSrc, sUnp, mSli, mSo, mNo, mYes, wp_mLc, mFQ, List.map_cons, List.map_nil, List.nil_append, List.cons_append, List.length_cons, List.length_nil, Nat.reduceAdd, Nat.reduceSub, List.replicate, List.getElem?_cons_succ, List.getElem?_cons_zero, List.set_cons_zero, List.set_cons_succ, List.length_set, Option.some.injEq, exists_eq_left', exists_eq_left, clearE, wipeE, backE, List.all_cons, List.all_nil, List.foldl_cons, List.foldl_nil, isOwn, Bool.not_false, Bool.not_true, Bool.and_true, Bool.and_self, Bool.true_and, true_and, and_true, List.getD_eq_getElem?_getD, Option.getD_some, asB, gN, gN2, if_true, if_false, reduceIte, Bool.false_eq_true, not_true_eq_false, not_false_eq_true, forall_const, false_implies, implies_true, true_implies, eq_self, addT_i, subT_i, ltT_i, leT_i, gtT_i, geT_i, modT_i, fdivT_i, powT_i, mulT_i, min2T_i, max2T_i, negT_i, intT_i, Int.reduceLT, Int.reduceLE, decide_true, decide_false, decide_eq_true_eq, Bool.and_eq_true, Nat.reduceLeDiff, Nat.zero_le, Nat.le_refl, wp_mLc2, Bool.or_true, Bool.true_or, Bool.false_or, Bool.or_false, Option.bind_some, Option.map_some, e1, e2, eA, er, ej, ek, asI_i, keysD_l]
  let pre : T → T := fun x => .tuple ((zs r).take k.toNat ++ [x] ++ (zs r).drop (k + 1).toNat)
  have sl1 : sliT (tupZ r) none (some k) = some (.tuple ((zs r).take k.toNat)) := congrArg (fun z => some (T.tuple z)) (cut_take k0)
  have sl2 : sliT (tupZ r) (some (k + 1)) none = some (.tuple ((zs r).drop (k + 1).toNat)) := congrArg (fun z => some (T.tuple z)) (cut_drop (by omega))
  have sl3 : sliT (tupZ r) (some 1) none = some (.tuple ((zs r).drop 1)) := congrArg (fun z => some (T.tuple z)) (cut_drop (by decide))
  have zl : (zs r).length = r.length := List.length_map _
  rw [← List.map_id [T.int (r[k.toNat]'(by omega) + 1), T.int (-1), T.bool true, T.none, T.str "1"]]
  refine wp_lc (xs := [T.int (r[k.toNat]'(by omega) + 1), T.int (-1), T.bool true, T.none, T.str "1"]) id (fun _ => true) pre ?_ ?_
  · intro x hx
    refine ⟨_, rfl, ?_⟩
    have a1 : addT (.tuple ((zs r).take k.toNat)) (.tuple [x]) = some (.tuple ((zs r).take k.toNat ++ [x])) := addT_t (by rw [List.length_take, zl]; simp; omega)
    have a2 : addT (.tuple ((zs r).take k.toNat ++ [x])) (.tuple ((zs r).drop (k + 1).toNat)) = some (pre x) := addT_t (by rw [List.length_append, List.length_take, List.length_drop, zl]; simp; omega)
    simp only [wp_ok, wp_ex, wp_bad, wp_bind, wp_ofO, wp_noX, ws_nx, ws_rt, ws_bk, ws_ct, ws_ex, ws_bad, ws_st, ws_seq, ws_ite, wp_ite, wp_mF, mV, mC, mOp, mUn, mNil, mCons, mCa, mB, mAnd, mOr, mNot, mAndV, mOrV, mNotV, mIf, mTru, mChain, sNext, sBreak, sCont, sAsg, sDrop, sRet, sRetN, sIf, sBad, sFor, iSeq, iRng, iSeqK, iItm, iZp, mkTup, mkLst, mIxO, mUnO, sOwn, mDict, sFrz, sApp, sPut, sPutL, mDictOf, mDisp1, mSrc, sUnp, mSli, mSo, mNo, mYes, wp_mLc, mFQ, List.map_cons, List.map_nil, List.nil_append, List.cons_append, List.length_cons, List.length_nil, Nat.reduceAdd, Nat.reduceSub, List.replicate, List.getElem?_cons_succ, List.getElem?_cons_zero, List.set_cons_zero, List.set_cons_succ, List.length_set, Option.some.injEq, exists_eq_left', exists_eq_left, clearE, wipeE, backE, List.all_cons, List.all_nil, List.foldl_cons, List.foldl_nil, isOwn, Bool.not_false, Bool.not_true, Bool.and_true, Bool.and_self, Bool.true_and, true_and, and_true, List.getD_eq_getElem?_getD, Option.getD_some, asB, gN, gN2, if_true, if_false, reduceIte, Bool.false_eq_true, not_true_eq_false, not_false_eq_true, forall_const, false_implies, implies_true, true_implies, eq_self, addT_i, subT_i, ltT_i, leT_i, gtT_i, geT_i, modT_i, fdivT_i, powT_i, mulT_i, min2T_i, max2T_i, negT_i, intT_i, Int.reduceLT, Int.reduceLE, decide_true, decide_false, decide_eq_true_eq, Bool.and_eq_true, Nat.reduceLeDiff, Nat.zero_le, Nat.le_refl, wp_mLc2, Bool.or_true, Bool.true_or, Bool.false_or, Bool.or_false, Option.bind_some, Option.map_some, id, asI_i, sl1, sl2, a1, a2]
  · have c1 : listT (tupZ r) = some (lstZ r) := rfl
    have c2 : addT (tupZ r) (.tuple [.int 0]) = some (tupZ (r ++ [0])) := addT_tup (a := r) (b := [0]) (by simp; omega)
    have c3 : lenL (List.replicate 14 T.none) = some (.int 14) := rfl
    simp only [wp_ok, wp_ex, wp_bad, wp_bind, wp_ofO, wp_noX, ws_nx, ws_rt, ws_bk, ws_ct, ws_ex, ws_bad, ws_st, ws_seq, ws_ite, wp_ite, wp_mF, mV, mC, mOp, mUn, mNil, mCons, mCa, mB, mAnd, mOr, mNot, mAndV, mOrV, mNotV, mIf, mTru, mChain, sNext, sBreak, sCont, sAsg, sDrop, sRet, sRetN, sIf, sBad, sFor, iSeq, iRng, iSeqK, iItm, iZp, mkTup, mkLst, mIxO, mUnO, sOwn, mDict, sFrz, sApp, sPut, sPutL, mDictOf, mDisp1, mSrc, sUnp, mSli, mSo, mNo, mYes, wp_mLc, mFQ, List.map_cons, List.map_nil, List.nil_append, List.cons_append, List.length_cons, List.length_nil, Nat.reduceAdd, Nat.reduceSub, List.replicate, List.getElem?_cons_succ, List.getElem?_cons_zero, List.set_cons_zero, List.set_cons_succ, List.length_set, Option.some.injEq, exists_eq_left', exists_eq_left, clearE, wipeE, backE, List.all_cons, List.all_nil, List.foldl_cons, List.foldl_nil, isOwn, Bool.not_false, Bool.not_true, Bool.and_true, Bool.and_self, Bool.true_and, true_and, and_true, List.getD_eq_getElem?_getD, Option.getD_some, asB, gN, gN2, if_true, if_false, reduceIte, Bool.false_eq_true, not_true_eq_false, not_false_eq_true, forall_const, false_implies, implies_true, true_implies, eq_self, addT_i, subT_i, ltT_i, leT_i, gtT_i, geT_i, modT_i, fdivT_i, powT_i, mulT_i, min2T_i, max2T_i, negT_i, intT_i, Int.reduceLT, Int.reduceLE, decide_true, decide_false, decide_eq_true_eq, Bool.and_eq_true, Nat.reduceLeDiff, Nat.zero_le, Nat.le_refl, wp_mLc2, Bool.or_true, Bool.true_or, Bool.false_or, Bool.or_false, Option.bind_some, Option.map_some, filter_yes, asI_i, c1, c2, sl3, keysD_seq h, catT]
    refine wp_lc (xs := ss) T.int (fun _ => true) (fun s => T.int (s + 1)) ?_ ?_
    · intro x hx
      refine ⟨_, rfl, ?_⟩
      simp only [wp_ok, wp_ex, wp_bad, wp_bind, wp_ofO, wp_noX, ws_nx, ws_rt, ws_bk, ws_ct, ws_ex, ws_bad, ws_st, ws_seq, ws_ite, wp_ite, wp_mF, mV, mC, mOp, mUn, mNil, mCons, mCa, mB, mAnd, mOr, mNot, mAndV, mOrV, mNotV, mIf, mTru, mChain, sNext, sBreak, sCont, sAsg, sDrop, sRet, sRetN, sIf, sBad, sFor, iSeq, iRng, iSeqK, iItm, iZp, mkTup, mkLst, mIxO, mUnO, sOwn, mDict, sFrz, sApp, sPut, sPutL, mDictOf, mDisp1, mSrc, sUnp, mSli, mSo, mNo, mYes, wp_mLc, mFQ, List.map_cons, List.map_nil, List.nil_append, List.cons_append, List.length_cons, List.length_nil, Nat.reduceAdd, Nat.reduceSub, List.replicate, List.getElem?_cons_succ, List.getElem?_cons_zero, List.set_cons_zero, List.set_cons_succ, List.length_set, Option.some.injEq, exists_eq_left', exists_eq_left, clearE, wipeE, backE, List.all_cons, List.all_nil, List.foldl_cons, List.foldl_nil, isOwn, Bool.not_false, Bool.not_true, Bool.and_true, Bool.and_self, Bool.true_and, true_and, and_true, List.getD_eq_getElem?_getD, Option.getD_some, asB, gN, gN2, if_true, if_false, reduceIte, Bool.false_eq_true, not_true_eq_false, not_false_eq_true, forall_const, false_implies, implies_true, true_implies, eq_self, addT_i, subT_i, ltT_i, leT_i, gtT_i, geT_i, modT_i, fdivT_i, powT_i, mulT_i, min2T_i, max2T_i, negT_i, intT_i, Int.reduceLT, Int.reduceLE, decide_true, decide_false, decide_eq_true_eq, Bool.and_eq_true, Nat.reduceLeDiff, Nat.zero_le, Nat.le_refl, wp_mLc2, Bool.or_true, Bool.true_or, Bool.false_or, Bool.or_false, Option.bind_some, Option.map_some]
    · have c4 : (fun s : Int => T.int (s + 1)) = T.int ∘ (· + 1) := rfl
      have c5 : ss.map (fun s => T.int (s + 1)) = zs (ss.map (· + 1)) := by rw [zs, List.map_map]; rfl
      simp only [wp_ok, wp_ex, wp_bad, wp_bind, wp_ofO, wp_noX, ws_nx, ws_rt, ws_bk, ws_ct, ws_ex, ws_bad, ws_st, ws_seq, ws_ite, wp_ite, wp_mF, mV, mC, mOp, mUn, mNil, mCons, mCa, mB, mAnd, mOr, mNot, mAndV, mOrV, mNotV, mIf, mTru, mChain, sNext, sBreak, sCont, sAsg, sDrop, sRet, sRetN, sIf, sBad, sFor, iSeq, iRng, iSeqK, iItm, iZp, mkTup, mkLst, mIxO, mUnO, sOwn, mDict, sFrz, sApp, sPut, sPutL, mDictOf, mDisp1, mSrc, sUnp, mSli, mSo, mNo, mYes, wp_mLc, mFQ, List.map_cons, List.map_nil, List.nil_append, List.cons_append, List.length_cons, List.length_nil, Nat.reduceAdd, Nat.reduceSub, List.replicate, List.getElem?_cons_succ, List.getElem?_cons_zero, List.set_cons_zero, List.set_cons_succ, List.length_set, Option.some.injEq, exists_eq_left', exists_eq_left, clearE, wipeE, backE, List.all_cons, List.all_nil, List.foldl_cons, List.foldl_nil, isOwn, Bool.not_false, Bool.not_true, Bool.and_true, Bool.and_self, Bool.true_and, true_and, and_true, List.getD_eq_getElem?_getD, Option.getD_some, asB, gN, gN2, if_true, if_false, reduceIte, Bool.false_eq_true, not_true_eq_false, not_false_eq_true, forall_const, false_implies, implies_true, true_implies, eq_self, addT_i, subT_i, ltT_i, leT_i, gtT_i, geT_i, modT_i, fdivT_i, powT_i, mulT_i, min2T_i, max2T_i, negT_i, intT_i, Int.reduceLT, Int.reduceLE, decide_true, decide_false, decide_eq_true_eq, Bool.and_eq_true, Nat.reduceLeDiff, Nat.zero_le, Nat.le_refl, wp_mLc2, Bool.or_true, Bool.true_or, Bool.false_or, Bool.or_false, Option.bind_some, Option.map_some, filter_yes, c5, tupleT]
      obtain ⟨t3, i, e3, ⟨i0, i1⟩, s3⟩ := D (n + 1 + 1) t2 14 s2 (by omega) (by decide) (by decide)
      have l1 : (zs (ss.map (· + 1))).length ≤ 100000 := by simp only [zs, List.length_map]; omega
      refine ⟨l1, fun _ => ?_, fun h => absurd (by decide) h⟩
      have hp : ∀ x, (tyN x).isSome = true → Sh 0 x → Odd (pre x) := fun x h1 h2 => by
        refine odd_tuple (n := 0) (by decide) (fun y hy => ?_) (fun y hy => ?_) ?_
        · rcases List.mem_append.mp hy with hy | hy
          · rcases List.mem_append.mp hy with hy | hy
            · obtain ⟨i, _, rfl⟩ := List.mem_map.mp (List.mem_of_mem_take hy)
              rfl
            · rw [List.mem_singleton.mp hy]; exact h1
          · obtain ⟨i, _, rfl⟩ := List.mem_map.mp (List.mem_of_mem_drop hy)
            rfl
        · rcases List.mem_append.mp hy with hy | hy
          · rcases List.mem_append.mp hy with hy | hy
            · exact Sh.ints y (List.mem_of_mem_take hy)
            · rw [List.mem_singleton.mp hy]; exact h2
          · exact Sh.ints y (List.mem_of_mem_drop hy)
        · rw [List.length_append, List.length_append, List.length_take, List.length_drop, zl]
          simp
          omega
      generalize hL : [pre (T.int (r[k.toNat]'(by omega) + 1)), pre (T.int (-1)), pre (T.bool true), pre T.none, pre (T.str (Str.ofString "1")), lstZ r, tupZ (r ++ [0]), T.tuple (List.drop 1 (zs r)), T.none, T.int 0, T.str (Str.ofString "kind"), T.tuple [], T.tuple [tupZ r], T.tuple (zs (List.map (fun x => x + 1) ss))] = L
      have hall : ∀ x ∈ L, Odd x := by
        subst hL
        intro x hx
        simp only [List.mem_cons, List.not_mem_nil, or_false] at hx
        rcases hx with rfl | rfl | rfl | rfl | rfl | rfl | rfl | rfl | rfl | rfl | rfl | rfl | rfl | rfl
        · exact hp _ rfl Sh.int
        · exact hp _ rfl Sh.int
        · exact hp _ rfl Sh.bool
        · exact hp _ rfl Sh.none
        · exact hp _ rfl sh_1
        · exact ⟨rfl, ⟨1, by decide, sh_lstZ r⟩, fun xs e => by cases e⟩
        · exact odd_ints (by simp; omega)
        · exact odd_tuple (n := 0) (by decide) (fun x hx => by
            obtain ⟨i, _, rfl⟩ := List.mem_map.mp (List.mem_of_mem_drop hx)
            rfl) (fun x hx => Sh.ints x (List.mem_of_mem_drop hx)) (by rw [List.length_drop, zl]; omega)
        · exact ⟨rfl, ⟨0, by decide, Sh.none⟩, fun xs e => by cases e⟩
        · exact ⟨rfl, ⟨0, by decide, Sh.int⟩, fun xs e => by cases e⟩
        · exact ⟨rfl, ⟨0, by decide, sh_kind⟩, fun xs e => by cases e⟩
        · exact odd_tuple (n := 0) (by decide) (by simp) (by simp) (by simp)
        · exact odd_tuple (n := 1) (by decide) (by simp [tyN]) (by simp; exact sh_tupZ r) (by simp)
        · exact odd_ints (by simp only [List.length_map]; omega)
      have hlen : L.length = 14 := by subst hL; rfl
      have e4 : lenL L = some (.int 14) := by unfold lenL; rw [hlen]; rfl
      have e5 : ixT (.list L) (.int i) = some (L[i.toNat]'(by omega)) := atI_l i0 (by omega)
      simp only [wp_ok, wp_ex, wp_bad, wp_bind, wp_ofO, wp_noX, ws_nx, ws_rt, ws_bk, ws_ct, ws_ex, ws_bad, ws_st, ws_seq, ws_ite, wp_ite, wp_mF, mV, mC, mOp, mUn, mNil, mCons, mCa, mB, mAnd, mOr, mNot, mAndV, mOrV, mNotV, mIf, mTru, mChain, sNext, sBreak, sCont, sAsg, sDrop, sRet, sRetN, sIf, sBad, sFor, iSeq, iRng, iSeqK, iItm, iZp, mkTup, mkLst, mIxO, mUnO, sOwn, mDict, sFrz, sApp, sPut, sPutL, mDictOf, mDisp1, mSrc, sUnp, mSli, mSo, mNo, mYes, wp_mLc, mFQ, List.map_cons, List.map_nil, List.nil_append, List.cons_append, List.length_cons, List.length_nil, Nat.reduceAdd, Nat.reduceSub, List.replicate, List.getElem?_cons_succ, List.getElem?_cons_zero, List.set_cons_zero, List.set_cons_succ, List.length_set, Option.some.injEq, exists_eq_left', exists_eq_left, clearE, wipeE, backE, List.all_cons, List.all_nil, List.foldl_cons, List.foldl_nil, isOwn, Bool.not_false, Bool.not_true, Bool.and_true, Bool.and_self, Bool.true_and, true_and, and_true, List.getD_eq_getElem?_getD, Option.getD_some, asB, gN, gN2, if_true, if_false, reduceIte, Bool.false_eq_true, not_true_eq_false, not_false_eq_true, forall_const, false_implies, implies_true, true_implies, eq_self, addT_i, subT_i, ltT_i, leT_i, gtT_i, geT_i, modT_i, fdivT_i, powT_i, mulT_i, min2T_i, max2T_i, negT_i, intT_i, Int.reduceLT, Int.reduceLE, decide_true, decide_false, decide_eq_true_eq, Bool.and_eq_true, Nat.reduceLeDiff, Nat.zero_le, Nat.le_refl, wp_mLc2, Bool.or_true, Bool.true_or, Bool.false_or, Bool.or_false, Option.bind_some, Option.map_some, e4, e3, e5]
      exact ⟨_, rfl, hall _ (List.getElem_mem _), s3⟩
end Pl

end
section

/-! PL6: the due numbers add up -/
namespace Pl
open PySem PySem.Spec PyProof.Rows L2 Evl TD Mi
local instance : HasT := ⟨[]⟩
theorem vand : ∀ s : Nat, s < 11 → ∀ m : Nat, m < 11 → ∀ t : Nat, t < 5 → ((List.range (s + 1)).map fun n : Nat => chF s n * (if t < n then 0 else chF m ((t : Int) - n))).sum = chF ((s : Int) + m) t := by decide +kernel
def wt : List Int → List Int → Int
  | s :: ss, n :: r => chF s n * wt ss r
  | _, _ => 1
theorem dueW_wt : ∀ (ss r : List Int) (w : Int), dueW w ss r = w * wt ss r
  | [], r, w => by simp [dueW, wt]
  | s :: ss, [], w => by simp [dueW, wt]
  | s :: ss, n :: r, w => by
    have := dueW_wt ss r (w * chF s n)
    unfold dueW at this ⊢
    rw [List.zip_cons_cons, List.foldl_cons, this, wt, Int.mul_assoc]
def Sm (ss : List Int) (t : Int) : Int := (((tup ss).filter fun r => r.sum == t).map fun r => wt ss r).sum
theorem sum_flat {α β : Type} (f : α → List β) (p : β → Bool) (g : β → Int) (l : List α) : (((l.flatMap f).filter p).map g).sum = (l.map fun a => (((f a).filter p).map g).sum).sum := by
  induction l with
  | nil => rfl
  | cons a l ih => rw [List.flatMap_cons, List.filter_append, List.map_append, List.sum_append, ih, List.map_cons, List.sum_cons]
theorem sum_flat' {α β : Type} (f : α → List β) (g : β → Int) (l : List α) : ((l.flatMap f).map g).sum = (l.map fun a => ((f a).map g).sum).sum := by
  induction l with
  | nil => rfl
  | cons a l ih => rw [List.flatMap_cons, List.map_append, List.sum_append, ih, List.map_cons, List.sum_cons]
theorem sum_mul {α : Type} (c : Int) (g : α → Int) (l : List α) : (l.map fun a => c * g a).sum = c * (l.map g).sum := by
  induction l with
  | nil => simp
  | cons a l ih => rw [List.map_cons, List.sum_cons, ih, List.map_cons, List.sum_cons, Int.mul_add]
theorem sums_nn (ss : List Int) (h : ∀ s ∈ ss, 0 ≤ s) : 0 ≤ ss.sum := by
  induction ss with
  | nil => simp
  | cons a l ih => have := h a List.mem_cons_self; have := ih fun x hx => h x (List.mem_cons_of_mem _ hx); simp only [List.sum_cons]; omega
theorem Sm_eq (ss : List Int) (h : ∀ s ∈ ss, 0 ≤ s) (hs : ss.sum ≤ 10) : ∀ t : Int, t ≤ 4 → Sm ss t = if t < 0 then 0 else chF ss.sum t := by
  induction ss with
  | nil =>
    intro t ht
    by_cases q : t = 0
    · subst q; rfl
    · have e : ((tup []).filter fun r => r.sum == t) = [] := by
        rw [List.filter_eq_nil_iff]
        intro r hr
        simp only [tup, List.mem_singleton] at hr
        subst hr
        simp only [List.sum_nil, beq_iff_eq]
        omega
      unfold Sm
      rw [e]
      by_cases q2 : t < 0
      · rw [if_pos q2]; rfl
      · rw [if_neg q2]
        unfold chF
        rw [if_pos (by simp; omega)]
        rfl
  | cons s ss ih =>
    intro t ht
    have h0 := h s List.mem_cons_self
    have h' := fun x hx => h x (List.mem_cons_of_mem _ hx)
    have h1 := sums_nn ss h'
    rw [List.sum_cons] at hs
    have ih' := ih h' (by omega)
    have e : Sm (s :: ss) t = ((zr (s + 1)).map fun n => chF s n * Sm ss (t - n)).sum := by
      unfold Sm
      simp only [tup]
      rw [sum_flat]
      congr 1
      refine List.map_congr_left fun n _ => ?_
      rw [List.filter_map, List.map_map]
      have e1 : ((tup ss).filter ((fun r : List Int => r.sum == t) ∘ fun x => n :: x)) = (tup ss).filter fun r => r.sum == t - n := List.filter_congr fun r _ => by
        simp only [Function.comp, List.sum_cons]
        rw [Bool.eq_iff_iff, beq_iff_eq, beq_iff_eq]
        omega
      rw [e1, ← sum_mul]
      rfl
    rw [e]
    have e2 : ((zr (s + 1)).map fun n => chF s n * Sm ss (t - n)) = (zr (s + 1)).map fun n => chF s n * (if t - n < 0 then 0 else chF ss.sum (t - n)) := List.map_congr_left fun n hn => by
      rw [mem_zr] at hn
      rw [ih' (t - n) (by omega)]
    rw [e2, List.sum_cons]
    by_cases q : t < 0
    · rw [if_pos q]
      have e3 : ((zr (s + 1)).map fun n => chF s n * (if t - n < 0 then 0 else chF ss.sum (t - n))) = (zr (s + 1)).map fun n => 0 * (0 : Int) := List.map_congr_left fun n hn => by
        rw [mem_zr] at hn
        rw [if_pos (by omega), Int.mul_zero, Int.mul_zero]
      rw [e3, sum_mul, Int.zero_mul]
    · rw [if_neg q]
      have := vand s.toNat (by omega) ss.sum.toNat (by omega) t.toNat (by omega)
      rw [show (s.toNat : Int) = s by omega, show (ss.sum.toNat : Int) = ss.sum by omega, show (t.toNat : Int) = t by omega] at this
      rw [← this]
      unfold zr
      rw [List.map_map, show (s + 1).toNat = s.toNat + 1 by omega]
      congr 1
      refine List.map_congr_left fun n _ => ?_
      simp only [Function.comp]
      by_cases q2 : t.toNat < n
      · rw [if_pos q2, if_pos (by omega)]
      · rw [if_neg q2, if_neg (by omega)]
theorem sum_perm {l m : List Int} (h : l.Perm m) : l.sum = m.sum := by
  induction h with
  | nil => rfl
  | cons a _ ih => rw [List.sum_cons, List.sum_cons, ih]
  | swap a b l => simp only [List.sum_cons]; omega
  | trans _ _ h1 h2 => exact h1.trans h2
theorem dues_sum {ss : List Int} {gs : List (Int × Int)} (z : Stg ss gs) : ((Kn ss gs).map fun r => due ss gs r).sum = tot ss.sum gs := by
  unfold Kn
  rw [sum_flat']
  have e : ((sortI (gKeys gs)).map fun t => (((tup ss).filter fun r => r.sum == t).map fun r => due ss gs r).sum) = (sortI (gKeys gs)).map fun t => (gLook gs t).getD 0 * chF ss.sum t := List.map_congr_left fun t ht => by
    have e1 : (((tup ss).filter fun r => r.sum == t).map fun r => due ss gs r) = ((tup ss).filter fun r => r.sum == t).map fun r => (gLook gs t).getD 0 * wt ss r := List.map_congr_left fun r hr => by
      have : r.sum = t := by simpa using (List.mem_filter.mp hr).2
      unfold due
      rw [dueW_wt, this]
    rw [e1, sum_mul]
    obtain ⟨p, hp, rfl⟩ := List.mem_map.mp (mem_sortI.mp ht)
    have hk := z.g.k p hp
    have := Sm_eq ss z.s.nn z.s.s p.1 (by omega)
    rw [if_neg (by omega)] at this
    unfold Sm at this
    rw [this]
  rw [e]
  exact sum_perm ((sortI_perm _).map _)
end Pl

end
section

/-! k01: the law's own text is true -/
namespace K01
open PySem PySem.Spec PyProof.Rows L2 Evl TD Mi Pl
local instance : HasT := ⟨[]⟩
def pstp (m : Nat) (p : List Int) : List Int := 1 :: (((List.range m).map fun j => p.getD j 0 + p.getD (j + 1) 0) ++ [1])
def pas : Nat → List Int
  | 0 => [1]
  | m + 1 => pstp m (pas m)
theorem pas_len : ∀ m, (pas m).length = m + 1
  | 0 => rfl
  | m + 1 => by simp [pas, pstp]
theorem pas_ch : ∀ m : Nat, m < 61 → pas m = (List.range (m + 1)).map fun k : Nat => chF m k := by decide +kernel
theorem rng2_z {a b : Int} (h1 : 0 ≤ a) (h2 : a ≤ b) (h3 : b ≤ 100000) : rng2 [.int a, .int b] = some ((List.range (b - a).toNat).map fun i : Nat => T.int (a + i)) := by
  show (if (decide (-100000 ≤ a) && decide (a ≤ 100000) && decide (-100000 ≤ b) && decide (b ≤ 100000)) = true then some ((List.range (b - a).toNat).map fun i : Nat => (.int (a + (i : Int)) : T)) else none) = _
  rw [if_pos (by simp only [Bool.and_eq_true, decide_eq_true_eq]; omega)]
theorem kl9 {ss : List Int} {gs : List (Int × Int)} (z : Stg ss gs) (h : ss.sum ≤ 9) : (Kn ss gs).length ≤ 512 := by
  rw [(Kn_perm z.g.nd).length_eq]
  refine Nat.le_trans (List.length_filter_le _ _) (Nat.le_trans (tup_len ss z.s.nn) ?_)
  exact Nat.pow_le_pow_right (n := 2) (by decide) (show ss.sum.toNat ≤ 9 by omega)
theorem rep_true {n : Nat} (h : n ≤ 1000) : mulT (.list [.bool true]) (.int (n : Int)) = some (.list (List.replicate n (T.bool true))) := by
  show (if (decide (0 ≤ (n : Int)) && decide ((n : Int) ≤ 1000) && decide ([T.bool true].length ≤ 50)) = true then some (T.list (List.replicate (n : Int).toNat [T.bool true]).flatten) else none) = _
  rw [if_pos (by simp; omega), Int.toNat_natCast]
  have e : (List.replicate n [T.bool true]).flatten = List.replicate n (T.bool true) := by
    induction n with
    | zero => rfl
    | succ n ih => rw [List.replicate_succ, List.flatten_cons, ih (by omega), List.replicate_succ]; rfl
  rw [e]
theorem map_const {α : Type} (l : List α) (c : T) : l.map (fun _ => c) = List.replicate l.length c := by
  induction l with
  | nil => rfl
  | cons a l ih => rw [List.map_cons, ih, List.length_cons, List.replicate_succ]
theorem sh_bools (n : Nat) : Sh 1 (.list (List.replicate n (T.bool true))) := Sh.list fun x hx => by
  rw [List.eq_of_mem_replicate hx]
  exact Sh.bool
theorem sh_intl {α : Type} (f : α → Int) (l : List α) : Sh 1 (.list (l.map fun x => T.int (f x))) := Sh.list fun x hx => by
  obtain ⟨i, _, rfl⟩ := List.mem_map.mp hx
  exact Sh.int
theorem plain (ns : List Int) (h : ns.length ≤ 63) : F_law [.scr ns] = .ok (.bool true) := by
  refine runF_ok ?_
  unfold m_law
  obtain ⟨v0, ev⟩ := f_cell (ns := ns) (i := 0) (by decide)
  have s0 : Src 0 (.list [.int v0, .int v0, .int 0]) := ⟨v0, v0, 0, rfl, by decide, by decide⟩
  have r61 : rng2 [.int 1, .int 61] = some ((List.range 60).map fun i : Nat => T.int (1 + i)) := rng2_z (by decide) (by decide) (by decide)
  simp only [wp_ok, wp_ex, wp_bad, wp_bind, wp_ofO, wp_noX, ws_nx, ws_rt, ws_bk, ws_ct, ws_ex, ws_bad, ws_st, ws_seq, ws_ite, wp_ite, wp_mF, mV, mC, mOp, mUn, mNil, mCons, mCa, mB, mAnd, mOr, mNot, mAndV, mOrV, mNotV, mIf, mTru, mChain, sNext, sBreak, sCont, sAsg, sDrop, sRet, sRetN, sIf, sBad, sFor, iSeq, iRng, iSeqK, iItm, iZp, mkTup, mkLst, mIxO, mUnO, sOwn, mDict, sFrz, sApp, sPut, sPutL, mDictOf, mDisp1, mSrc, sUnp, mSli, mSo, mNo, mYes, wp_mLc, mFQ, List.map_cons, List.map_nil, List.nil_append, List.cons_append, List.length_cons, List.length_nil, Nat.reduceAdd, Nat.reduceSub, List.replicate, List.getElem?_cons_succ, List.getElem?_cons_zero, List.set_cons_zero, List.set_cons_succ, List.length_set, Option.some.injEq, exists_eq_left', exists_eq_left, clearE, wipeE, backE, List.all_cons, List.all_nil, List.foldl_cons, List.foldl_nil, isOwn, Bool.not_false, Bool.not_true, Bool.and_true, Bool.and_self, Bool.true_and, true_and, and_true, List.getD_eq_getElem?_getD, Option.getD_some, asB, gN, gN2, if_true, if_false, reduceIte, Bool.false_eq_true, not_true_eq_false, not_false_eq_true, forall_const, false_implies, implies_true, true_implies, eq_self, addT_i, subT_i, ltT_i, leT_i, gtT_i, geT_i, modT_i, fdivT_i, powT_i, mulT_i, min2T_i, max2T_i, negT_i, intT_i, Int.reduceLT, Int.reduceLE, decide_true, decide_false, decide_eq_true_eq, Bool.and_eq_true, Nat.reduceLeDiff, Nat.zero_le, Nat.le_refl, wp_mLc2, Bool.or_true, Bool.true_or, Bool.false_or, Bool.or_false, Option.bind_some, Option.map_some, ev, r61]
  refine ws_for (xs := List.range 60) (fun i : Nat => T.int (1 + (i : Int))) (fun i e => ∃ s3 s4, e = [.val (.scr ns), .own (.list [.int v0, .int v0, .int 0]), .own (.list ((List.range (i + 1)).map fun m => lstZ (pas m))), s3, s4, .un, .un, .un, .un, .un, .un, .un, .un, .un, .un, .un, .un, .un]) ⟨_, _, rfl⟩ ?_ ?_
  · rintro i hi e ⟨s3, s4, rfl⟩
    rw [List.length_range] at hi
    refine ⟨_, rfl, ?_⟩
    have e1 : ixT (.list ((List.range (i + 1)).map fun m => lstZ (pas m))) (.int (-1)) = some (lstZ (pas i)) := by
      show atI _ _ = _
      unfold atI ixN
      rw [if_neg (by decide), if_pos (by simp; omega), Option.bind_some]
      simp only [List.length_map, List.length_range, List.getElem?_map]
      rw [show (-1 + ((i + 1 : Nat) : Int)).toNat = i by omega, List.getElem?_range (by omega)]
      rfl
    have pl := pas_len i
    have e2 : rng1 [.int (1 + (i : Int) - 1)] = some (zs (zr (i : Int))) := by
      rw [show 1 + (i : Int) - 1 = (i : Int) by omega]
      exact rng1_z (by omega) (by omega)
    simp only [wp_ok, wp_ex, wp_bad, wp_bind, wp_ofO, wp_noX, ws_nx, ws_rt, ws_bk, ws_ct, ws_ex, ws_bad, ws_st, ws_seq, ws_ite, wp_ite, wp_mF, mV, mC, mOp, mUn, mNil, mCons, mCa, mB, mAnd, mOr, mNot, mAndV, mOrV, mNotV, mIf, mTru, mChain, sNext, sBreak, sCont, sAsg, sDrop, sRet, sRetN, sIf, sBad, sFor, iSeq, iRng, iSeqK, iItm, iZp, mkTup, mkLst, mIxO, mUnO, sOwn, mDict, sFrz, sApp, sPut, sPutL, mDictOf, mDisp1, mSrc, sUnp, mSli, mSo, mNo, mYes, wp_mLc, mFQ, List.map_cons, List.map_nil, List.nil_append, List.cons_append, List.length_cons, List.length_nil, Nat.reduceAdd, Nat.reduceSub, List.replicate, List.getElem?_cons_succ, List.getElem?_cons_zero, List.set_cons_zero, List.set_cons_succ, List.length_set, Option.some.injEq, exists_eq_left', exists_eq_left, clearE, wipeE, backE, List.all_cons, List.all_nil, List.foldl_cons, List.foldl_nil, isOwn, Bool.not_false, Bool.not_true, Bool.and_true, Bool.and_self, Bool.true_and, true_and, and_true, List.getD_eq_getElem?_getD, Option.getD_some, asB, gN, gN2, if_true, if_false, reduceIte, Bool.false_eq_true, not_true_eq_false, not_false_eq_true, forall_const, false_implies, implies_true, true_implies, eq_self, addT_i, subT_i, ltT_i, leT_i, gtT_i, geT_i, modT_i, fdivT_i, powT_i, mulT_i, min2T_i, max2T_i, negT_i, intT_i, Int.reduceLT, Int.reduceLE, decide_true, decide_false, decide_eq_true_eq, Bool.and_eq_true, Nat.reduceLeDiff, Nat.zero_le, Nat.le_refl, wp_mLc2, Bool.or_true, Bool.true_or, Bool.false_or, Bool.or_false, Option.bind_some, Option.map_some, e1, List.getElem_range, e2]
    refine wp_lc (xs := zr (i : Int)) T.int (fun _ => true) (fun k => T.int ((pas i).getD k.toNat 0 + (pas i).getD (k.toNat + 1) 0)) ?_ ?_
    · intro k hk
      refine ⟨_, rfl, ?_⟩
      rw [mem_zr] at hk
      have g1 : itT (lstZ (pas i)) (.int k) = some (.int ((pas i).getD k.toNat 0)) := by
        rw [itT_seq (lstZ_seq _) hk.1 (by omega), List.getD_eq_getElem?_getD, List.getElem?_eq_getElem (by omega)]
        rfl
      have g2 : itT (lstZ (pas i)) (.int (k + 1)) = some (.int ((pas i).getD (k.toNat + 1) 0)) := by
        rw [itT_seq (lstZ_seq _) (by omega) (by omega), List.getD_eq_getElem?_getD, List.getElem?_eq_getElem (by omega)]
        simp only [Option.getD_some, show (k + 1).toNat = k.toNat + 1 by omega]
      simp only [List.getD_eq_getElem?_getD] at g1 g2
      simp only [wp_ok, wp_ex, wp_bad, wp_bind, wp_ofO, wp_noX, ws_nx, ws_rt, ws_bk, ws_ct, ws_ex, ws_bad, ws_st, ws_seq, ws_ite, wp_ite, wp_mF, mV, mC, mOp, mUn, mNil, mCons, mCa, mB, mAnd, mOr, mNot, mAndV, mOrV, mNotV, mIf, mTru, mChain, sNext, sBreak, sCont, sAsg, sDrop, sRet, sRetN, sIf, sBad, sFor, iSeq, iRng, iSeqK, iItm, iZp, mkTup, mkLst, mIxO, mUnO, sOwn, mDict, sFrz, sApp, sPut, sPutL, mDictOf, mDisp1, mSrc, sUnp, mSli, mSo, mNo, mYes, wp_mLc, mFQ, List.map_cons, List.map_nil, List.nil_append, List.cons_append, List.length_cons, List.length_nil, Nat.reduceAdd, Nat.reduceSub, List.replicate, List.getElem?_cons_succ, List.getElem?_cons_zero, List.set_cons_zero, List.set_cons_succ, List.length_set, Option.some.injEq, exists_eq_left', exists_eq_left, clearE, wipeE, backE, List.all_cons, List.all_nil, List.foldl_cons, List.foldl_nil, isOwn, Bool.not_false, Bool.not_true, Bool.and_true, Bool.and_self, Bool.true_and, true_and, and_true, List.getD_eq_getElem?_getD, Option.getD_some, asB, gN, gN2, if_true, if_false, reduceIte, Bool.false_eq_true, not_true_eq_false, not_false_eq_true, forall_const, false_implies, implies_true, true_implies, eq_self, addT_i, subT_i, ltT_i, leT_i, gtT_i, geT_i, modT_i, fdivT_i, powT_i, mulT_i, min2T_i, max2T_i, negT_i, intT_i, Int.reduceLT, Int.reduceLE, decide_true, decide_false, decide_eq_true_eq, Bool.and_eq_true, Nat.reduceLeDiff, Nat.zero_le, Nat.le_refl, wp_mLc2, Bool.or_true, Bool.true_or, Bool.false_or, Bool.or_false, Option.bind_some, Option.map_some, g1, g2]
    · have e3 : ((zr (i : Int)).map fun k => T.int ((pas i).getD k.toNat 0 + (pas i).getD (k.toNat + 1) 0)) = zs ((List.range i).map fun j => (pas i).getD j 0 + (pas i).getD (j + 1) 0) := by
        unfold zr zs
        rw [List.map_map, List.map_map]
        rfl
      have e4 : addT (.list [T.int 1]) (.list (zs ((List.range i).map fun j => (pas i).getD j 0 + (pas i).getD (j + 1) 0))) = some (.list (T.int 1 :: zs ((List.range i).map fun j => (pas i).getD j 0 + (pas i).getD (j + 1) 0))) := addT_l (by simp [zs]; omega)
      have e5 : addT (.list (T.int 1 :: zs ((List.range i).map fun j => (pas i).getD j 0 + (pas i).getD (j + 1) 0))) (.list [T.int 1]) = some (lstZ (pas (i + 1))) := by
        rw [addT_l (by simp [zs]; omega)]
        simp [pas, pstp, zs]
      rw [filter_yes, e3]
      simp only [zs, List.getD_eq_getElem?_getD] at e4 e5
      simp only [wp_ok, wp_ex, wp_bad, wp_bind, wp_ofO, wp_noX, ws_nx, ws_rt, ws_bk, ws_ct, ws_ex, ws_bad, ws_st, ws_seq, ws_ite, wp_ite, wp_mF, mV, mC, mOp, mUn, mNil, mCons, mCa, mB, mAnd, mOr, mNot, mAndV, mOrV, mNotV, mIf, mTru, mChain, sNext, sBreak, sCont, sAsg, sDrop, sRet, sRetN, sIf, sBad, sFor, iSeq, iRng, iSeqK, iItm, iZp, mkTup, mkLst, mIxO, mUnO, sOwn, mDict, sFrz, sApp, sPut, sPutL, mDictOf, mDisp1, mSrc, sUnp, mSli, mSo, mNo, mYes, wp_mLc, mFQ, List.map_cons, List.map_nil, List.nil_append, List.cons_append, List.length_cons, List.length_nil, Nat.reduceAdd, Nat.reduceSub, List.replicate, List.getElem?_cons_succ, List.getElem?_cons_zero, List.set_cons_zero, List.set_cons_succ, List.length_set, Option.some.injEq, exists_eq_left', exists_eq_left, clearE, wipeE, backE, List.all_cons, List.all_nil, List.foldl_cons, List.foldl_nil, isOwn, Bool.not_false, Bool.not_true, Bool.and_true, Bool.and_self, Bool.true_and, true_and, and_true, List.getD_eq_getElem?_getD, Option.getD_some, asB, gN, gN2, if_true, if_false, reduceIte, Bool.false_eq_true, not_true_eq_false, not_false_eq_true, forall_const, false_implies, implies_true, true_implies, eq_self, addT_i, subT_i, ltT_i, leT_i, gtT_i, geT_i, modT_i, fdivT_i, powT_i, mulT_i, min2T_i, max2T_i, negT_i, intT_i, Int.reduceLT, Int.reduceLE, decide_true, decide_false, decide_eq_true_eq, Bool.and_eq_true, Nat.reduceLeDiff, Nat.zero_le, Nat.le_refl, wp_mLc2, Bool.or_true, Bool.true_or, Bool.false_or, Bool.or_false, Option.bind_some, Option.map_some, e4, e5, zs, List.length_map, List.length_range]
      refine ⟨by omega, fun _ => ?_, fun n => absurd (by omega) n⟩
      exact ⟨_, _, by rw [List.range_succ (n := i + 1), List.map_append]; rfl⟩
  · rintro e ⟨s3, s4, rfl⟩
    rw [List.length_range]
    obtain ⟨t1, m, e1, ⟨m0, m1⟩, s1⟩ := draw01 0 _ 61 s0 (by decide) (by decide) (by decide)
    simp only [wp_ok, wp_ex, wp_bad, wp_bind, wp_ofO, wp_noX, ws_nx, ws_rt, ws_bk, ws_ct, ws_ex, ws_bad, ws_st, ws_seq, ws_ite, wp_ite, wp_mF, mV, mC, mOp, mUn, mNil, mCons, mCa, mB, mAnd, mOr, mNot, mAndV, mOrV, mNotV, mIf, mTru, mChain, sNext, sBreak, sCont, sAsg, sDrop, sRet, sRetN, sIf, sBad, sFor, iSeq, iRng, iSeqK, iItm, iZp, mkTup, mkLst, mIxO, mUnO, sOwn, mDict, sFrz, sApp, sPut, sPutL, mDictOf, mDisp1, mSrc, sUnp, mSli, mSo, mNo, mYes, wp_mLc, mFQ, List.map_cons, List.map_nil, List.nil_append, List.cons_append, List.length_cons, List.length_nil, Nat.reduceAdd, Nat.reduceSub, List.replicate, List.getElem?_cons_succ, List.getElem?_cons_zero, List.set_cons_zero, List.set_cons_succ, List.length_set, Option.some.injEq, exists_eq_left', exists_eq_left, clearE, wipeE, backE, List.all_cons, List.all_nil, List.foldl_cons, List.foldl_nil, isOwn, Bool.not_false, Bool.not_true, Bool.and_true, Bool.and_self, Bool.true_and, true_and, and_true, List.getD_eq_getElem?_getD, Option.getD_some, asB, gN, gN2, if_true, if_false, reduceIte, Bool.false_eq_true, not_true_eq_false, not_false_eq_true, forall_const, false_implies, implies_true, true_implies, eq_self, addT_i, subT_i, ltT_i, leT_i, gtT_i, geT_i, modT_i, fdivT_i, powT_i, mulT_i, min2T_i, max2T_i, negT_i, intT_i, Int.reduceLT, Int.reduceLE, decide_true, decide_false, decide_eq_true_eq, Bool.and_eq_true, Nat.reduceLeDiff, Nat.zero_le, Nat.le_refl, wp_mLc2, Bool.or_true, Bool.true_or, Bool.false_or, Bool.or_false, Option.bind_some, Option.map_some, e1, rng1_z (n := m + 1) (by omega) (by omega)]
    refine wp_lc (xs := zr (m + 1)) T.int (fun _ => true) (fun k => T.int (chF m k)) ?_ ?_
    · intro k hk
      refine ⟨_, rfl, ?_⟩
      rw [mem_zr] at hk
      simp only [wp_ok, wp_ex, wp_bad, wp_bind, wp_ofO, wp_noX, ws_nx, ws_rt, ws_bk, ws_ct, ws_ex, ws_bad, ws_st, ws_seq, ws_ite, wp_ite, wp_mF, mV, mC, mOp, mUn, mNil, mCons, mCa, mB, mAnd, mOr, mNot, mAndV, mOrV, mNotV, mIf, mTru, mChain, sNext, sBreak, sCont, sAsg, sDrop, sRet, sRetN, sIf, sBad, sFor, iSeq, iRng, iSeqK, iItm, iZp, mkTup, mkLst, mIxO, mUnO, sOwn, mDict, sFrz, sApp, sPut, sPutL, mDictOf, mDisp1, mSrc, sUnp, mSli, mSo, mNo, mYes, wp_mLc, mFQ, List.map_cons, List.map_nil, List.nil_append, List.cons_append, List.length_cons, List.length_nil, Nat.reduceAdd, Nat.reduceSub, List.replicate, List.getElem?_cons_succ, List.getElem?_cons_zero, List.set_cons_zero, List.set_cons_succ, List.length_set, Option.some.injEq, exists_eq_left', exists_eq_left, clearE, wipeE, backE, List.all_cons, List.all_nil, List.foldl_cons, List.foldl_nil, isOwn, Bool.not_false, Bool.not_true, Bool.and_true, Bool.and_self, Bool.true_and, true_and, and_true, List.getD_eq_getElem?_getD, Option.getD_some, asB, gN, gN2, if_true, if_false, reduceIte, Bool.false_eq_true, not_true_eq_false, not_false_eq_true, forall_const, false_implies, implies_true, true_implies, eq_self, addT_i, subT_i, ltT_i, leT_i, gtT_i, geT_i, modT_i, fdivT_i, powT_i, mulT_i, min2T_i, max2T_i, negT_i, intT_i, Int.reduceLT, Int.reduceLE, decide_true, decide_false, decide_eq_true_eq, Bool.and_eq_true, Nat.reduceLeDiff, Nat.zero_le, Nat.le_refl, wp_mLc2, Bool.or_true, Bool.true_or, Bool.false_or, Bool.or_false, Option.bind_some, Option.map_some, f_choices (show 0 ≤ m by omega) (show m ≤ 100000 by omega) (show k ≤ 100000 by omega) hk.1]
    · have e2 : ((zr (m + 1)).map fun k => T.int (chF m k)) = zs (pas m.toNat) := by
        rw [pas_ch m.toNat (by omega), show (m.toNat : Int) = m by omega]
        unfold zr zs
        rw [List.map_map, List.map_map, show (m + 1).toNat = m.toNat + 1 by omega]
        rfl
      have e3 : ixT (.list ((List.range 61).map fun m => lstZ (pas m))) (.int m) = some (lstZ (pas m.toNat)) := by
        show atI _ _ = _
        rw [atI_l m0 (by simp; omega), List.getElem_map, List.getElem_range]
      have e4 : F_choices [.int (if 59 < m then 59 else m), .int 60] = .ok (.int 0) := by
        have q : 0 ≤ (if 59 < m then 59 else m) ∧ (if 59 < m then 59 else m) ≤ 59 := by split <;> omega
        rw [f_choices q.1 (by omega) (by decide) (by decide)]
        unfold chF
        rw [if_pos (by omega)]
      have e5 : sliT (.scr ns) none (some 8) = some (lstZ (ns.take 8)) := by
        show some (T.list (cutT (ns.map T.int) none (some 8))) = _
        rw [cut_take (by decide)]
        simp [lstZ, zs, List.map_take]
      rw [filter_yes, e2]
      simp only [wp_ok, wp_ex, wp_bad, wp_bind, wp_ofO, wp_noX, ws_nx, ws_rt, ws_bk, ws_ct, ws_ex, ws_bad, ws_st, ws_seq, ws_ite, wp_ite, wp_mF, mV, mC, mOp, mUn, mNil, mCons, mCa, mB, mAnd, mOr, mNot, mAndV, mOrV, mNotV, mIf, mTru, mChain, sNext, sBreak, sCont, sAsg, sDrop, sRet, sRetN, sIf, sBad, sFor, iSeq, iRng, iSeqK, iItm, iZp, mkTup, mkLst, mIxO, mUnO, sOwn, mDict, sFrz, sApp, sPut, sPutL, mDictOf, mDisp1, mSrc, sUnp, mSli, mSo, mNo, mYes, wp_mLc, mFQ, List.map_cons, List.map_nil, List.nil_append, List.cons_append, List.length_cons, List.length_nil, Nat.reduceAdd, Nat.reduceSub, List.replicate, List.getElem?_cons_succ, List.getElem?_cons_zero, List.set_cons_zero, List.set_cons_succ, List.length_set, Option.some.injEq, exists_eq_left', exists_eq_left, clearE, wipeE, backE, List.all_cons, List.all_nil, List.foldl_cons, List.foldl_nil, isOwn, Bool.not_false, Bool.not_true, Bool.and_true, Bool.and_self, Bool.true_and, true_and, and_true, List.getD_eq_getElem?_getD, Option.getD_some, asB, gN, gN2, if_true, if_false, reduceIte, Bool.false_eq_true, not_true_eq_false, not_false_eq_true, forall_const, false_implies, implies_true, true_implies, eq_self, addT_i, subT_i, ltT_i, leT_i, gtT_i, geT_i, modT_i, fdivT_i, powT_i, mulT_i, min2T_i, max2T_i, negT_i, intT_i, Int.reduceLT, Int.reduceLE, decide_true, decide_false, decide_eq_true_eq, Bool.and_eq_true, Nat.reduceLeDiff, Nat.zero_le, Nat.le_refl, wp_mLc2, Bool.or_true, Bool.true_or, Bool.false_or, Bool.or_false, Option.bind_some, Option.map_some, e3, neT_self (sh_lstZ (pas m.toNat)) (by decide), e4, neT_i, beq_self_eq_true, asI_i, e5, keysD_l, zs, List.length_map, pas_len]
      refine ⟨by omega, ?_⟩
      refine ws_for (xs := ns.take 8) T.int (fun i e => ∃ s1 s2 s3 s4 s5 s7 s8 s9 s10 s12 s13 s15 s16 s17, e = [.val (.scr ns), s1, s2, s3, s4, s5, .un, s7, s8, s9, s10, .un, s12, s13, .un, s15, s16, s17]) ⟨_, _, _, _, _, _, _, _, _, _, _, _, _, _, rfl⟩ ?_ ?_
      · rintro i hi e ⟨s1, s2, s3, s4, s5, s7, s8, s9, s10, s12, s13, s15, s16, s17, rfl⟩
        refine ⟨_, rfl, ?_⟩
        generalize (ns.take 8)[i] = c
        obtain ⟨t2, ss, gs, e6, z, h9, s2⟩ := setting_ok (n := 0) draw01 (t := .list [.int c, .int c, .int 0]) ⟨c, c, 0, rfl, by decide, by decide⟩ (by decide)
        have hl : SeqZ ss (lstZ ss) := .inl rfl
        have ht : SeqZ ss (tupZ ss) := .inr rfl
        have k9 := kl9 z h9
        have q1 : F_all_kinds [lstZ ss, dctZ gs] = .ok (.list ((Kn ss gs).map tupZ)) := f_all_kinds hl z
        have q2 : F_all_kinds [tupZ ss, dctZ gs] = .ok (.list ((Kn ss gs).map tupZ)) := f_all_kinds ht z
        have q3 : F__law_kinds [lstZ ss, dctZ gs] = .ok (.list ((Kn ss gs).map tupZ)) := f_kinds hl z
        have q4 : tupleT (lstZ ss) = some (tupZ ss) := rfl
        have q5 : TD.neT (.list ((Kn ss gs).map tupZ)) (.list ((Kn ss gs).map tupZ)) = some (.bool false) := neT_self (sh_tups _) (by decide)
        have q6 : F_team_count [lstZ ss, dctZ gs] = .ok (.int (tot ss.sum gs)) := f_team_count hl z
        have n0 := z.s.sum1
        simp only [wp_ok, wp_ex, wp_bad, wp_bind, wp_ofO, wp_noX, ws_nx, ws_rt, ws_bk, ws_ct, ws_ex, ws_bad, ws_st, ws_seq, ws_ite, wp_ite, wp_mF, mV, mC, mOp, mUn, mNil, mCons, mCa, mB, mAnd, mOr, mNot, mAndV, mOrV, mNotV, mIf, mTru, mChain, sNext, sBreak, sCont, sAsg, sDrop, sRet, sRetN, sIf, sBad, sFor, iSeq, iRng, iSeqK, iItm, iZp, mkTup, mkLst, mIxO, mUnO, sOwn, mDict, sFrz, sApp, sPut, sPutL, mDictOf, mDisp1, mSrc, sUnp, mSli, mSo, mNo, mYes, wp_mLc, mFQ, List.map_cons, List.map_nil, List.nil_append, List.cons_append, List.length_cons, List.length_nil, Nat.reduceAdd, Nat.reduceSub, List.replicate, List.getElem?_cons_succ, List.getElem?_cons_zero, List.set_cons_zero, List.set_cons_succ, List.length_set, Option.some.injEq, exists_eq_left', exists_eq_left, clearE, wipeE, backE, List.all_cons, List.all_nil, List.foldl_cons, List.foldl_nil, isOwn, Bool.not_false, Bool.not_true, Bool.and_true, Bool.and_self, Bool.true_and, true_and, and_true, List.getD_eq_getElem?_getD, Option.getD_some, asB, gN, gN2, if_true, if_false, reduceIte, Bool.false_eq_true, not_true_eq_false, not_false_eq_true, forall_const, false_implies, implies_true, true_implies, eq_self, addT_i, subT_i, ltT_i, leT_i, gtT_i, geT_i, modT_i, fdivT_i, powT_i, mulT_i, min2T_i, max2T_i, negT_i, intT_i, Int.reduceLT, Int.reduceLE, decide_true, decide_false, decide_eq_true_eq, Bool.and_eq_true, Nat.reduceLeDiff, Nat.zero_le, Nat.le_refl, wp_mLc2, Bool.or_true, Bool.true_or, Bool.false_or, Bool.or_false, Option.bind_some, Option.map_some, e6, q1, q2, q3, q4, q5, keysD_l, flat_d, F__law_setting]
        refine wp_lc (xs := Kn ss gs) tupZ (fun _ => true) (fun _ => T.bool true) ?_ ?_
        · intro r hr
          refine ⟨_, rfl, ?_⟩
          have : kindOf ss gs (tupZ r) = true := kindOf_iff.mpr ⟨r, hr, rfl⟩
          simp only [wp_ok, wp_ex, wp_bad, wp_bind, wp_ofO, wp_noX, ws_nx, ws_rt, ws_bk, ws_ct, ws_ex, ws_bad, ws_st, ws_seq, ws_ite, wp_ite, wp_mF, mV, mC, mOp, mUn, mNil, mCons, mCa, mB, mAnd, mOr, mNot, mAndV, mOrV, mNotV, mIf, mTru, mChain, sNext, sBreak, sCont, sAsg, sDrop, sRet, sRetN, sIf, sBad, sFor, iSeq, iRng, iSeqK, iItm, iZp, mkTup, mkLst, mIxO, mUnO, sOwn, mDict, sFrz, sApp, sPut, sPutL, mDictOf, mDisp1, mSrc, sUnp, mSli, mSo, mNo, mYes, wp_mLc, mFQ, List.map_cons, List.map_nil, List.nil_append, List.cons_append, List.length_cons, List.length_nil, Nat.reduceAdd, Nat.reduceSub, List.replicate, List.getElem?_cons_succ, List.getElem?_cons_zero, List.set_cons_zero, List.set_cons_succ, List.length_set, Option.some.injEq, exists_eq_left', exists_eq_left, clearE, wipeE, backE, List.all_cons, List.all_nil, List.foldl_cons, List.foldl_nil, isOwn, Bool.not_false, Bool.not_true, Bool.and_true, Bool.and_self, Bool.true_and, true_and, and_true, List.getD_eq_getElem?_getD, Option.getD_some, asB, gN, gN2, if_true, if_false, reduceIte, Bool.false_eq_true, not_true_eq_false, not_false_eq_true, forall_const, false_implies, implies_true, true_implies, eq_self, addT_i, subT_i, ltT_i, leT_i, gtT_i, geT_i, modT_i, fdivT_i, powT_i, mulT_i, min2T_i, max2T_i, negT_i, intT_i, Int.reduceLT, Int.reduceLE, decide_true, decide_false, decide_eq_true_eq, Bool.and_eq_true, Nat.reduceLeDiff, Nat.zero_le, Nat.le_refl, wp_mLc2, Bool.or_true, Bool.true_or, Bool.false_or, Bool.or_false, Option.bind_some, Option.map_some, q4, f_is_kind ht z (dec_tupZ r), this]
        · have q7 : lenA (.list ((Kn ss gs).map tupZ)) = some (.int ((Kn ss gs).length : Nat)) := by simp [lenA, lenT]
          rw [filter_yes, map_const]
          simp only [wp_ok, wp_ex, wp_bad, wp_bind, wp_ofO, wp_noX, ws_nx, ws_rt, ws_bk, ws_ct, ws_ex, ws_bad, ws_st, ws_seq, ws_ite, wp_ite, wp_mF, mV, mC, mOp, mUn, mNil, mCons, mCa, mB, mAnd, mOr, mNot, mAndV, mOrV, mNotV, mIf, mTru, mChain, sNext, sBreak, sCont, sAsg, sDrop, sRet, sRetN, sIf, sBad, sFor, iSeq, iRng, iSeqK, iItm, iZp, mkTup, mkLst, mIxO, mUnO, sOwn, mDict, sFrz, sApp, sPut, sPutL, mDictOf, mDisp1, mSrc, sUnp, mSli, mSo, mNo, mYes, wp_mLc, mFQ, List.map_cons, List.map_nil, List.nil_append, List.cons_append, List.length_cons, List.length_nil, Nat.reduceAdd, Nat.reduceSub, List.replicate, List.getElem?_cons_succ, List.getElem?_cons_zero, List.set_cons_zero, List.set_cons_succ, List.length_set, Option.some.injEq, exists_eq_left', exists_eq_left, clearE, wipeE, backE, List.all_cons, List.all_nil, List.foldl_cons, List.foldl_nil, isOwn, Bool.not_false, Bool.not_true, Bool.and_true, Bool.and_self, Bool.true_and, true_and, and_true, List.getD_eq_getElem?_getD, Option.getD_some, asB, gN, gN2, if_true, if_false, reduceIte, Bool.false_eq_true, not_true_eq_false, not_false_eq_true, forall_const, false_implies, implies_true, true_implies, eq_self, addT_i, subT_i, ltT_i, leT_i, gtT_i, geT_i, modT_i, fdivT_i, powT_i, mulT_i, min2T_i, max2T_i, negT_i, intT_i, Int.reduceLT, Int.reduceLE, decide_true, decide_false, decide_eq_true_eq, Bool.and_eq_true, Nat.reduceLeDiff, Nat.zero_le, Nat.le_refl, wp_mLc2, Bool.or_true, Bool.true_or, Bool.false_or, Bool.or_false, Option.bind_some, Option.map_some, q7, rep_true (show (Kn ss gs).length ≤ 1000 by omega), neT_self (sh_bools (Kn ss gs).length) (by decide), keysD_l, List.length_replicate]
          refine ⟨by omega, ?_⟩
          refine wp_lc (xs := Kn ss gs) tupZ (fun _ => true) (fun r => T.int (due ss gs r)) ?_ ?_
          · intro r hr
            refine ⟨_, rfl, ?_⟩
            simp only [wp_ok, wp_ex, wp_bad, wp_bind, wp_ofO, wp_noX, ws_nx, ws_rt, ws_bk, ws_ct, ws_ex, ws_bad, ws_st, ws_seq, ws_ite, wp_ite, wp_mF, mV, mC, mOp, mUn, mNil, mCons, mCa, mB, mAnd, mOr, mNot, mAndV, mOrV, mNotV, mIf, mTru, mChain, sNext, sBreak, sCont, sAsg, sDrop, sRet, sRetN, sIf, sBad, sFor, iSeq, iRng, iSeqK, iItm, iZp, mkTup, mkLst, mIxO, mUnO, sOwn, mDict, sFrz, sApp, sPut, sPutL, mDictOf, mDisp1, mSrc, sUnp, mSli, mSo, mNo, mYes, wp_mLc, mFQ, List.map_cons, List.map_nil, List.nil_append, List.cons_append, List.length_cons, List.length_nil, Nat.reduceAdd, Nat.reduceSub, List.replicate, List.getElem?_cons_succ, List.getElem?_cons_zero, List.set_cons_zero, List.set_cons_succ, List.length_set, Option.some.injEq, exists_eq_left', exists_eq_left, clearE, wipeE, backE, List.all_cons, List.all_nil, List.foldl_cons, List.foldl_nil, isOwn, Bool.not_false, Bool.not_true, Bool.and_true, Bool.and_self, Bool.true_and, true_and, and_true, List.getD_eq_getElem?_getD, Option.getD_some, asB, gN, gN2, if_true, if_false, reduceIte, Bool.false_eq_true, not_true_eq_false, not_false_eq_true, forall_const, false_implies, implies_true, true_implies, eq_self, addT_i, subT_i, ltT_i, leT_i, gtT_i, geT_i, modT_i, fdivT_i, powT_i, mulT_i, min2T_i, max2T_i, negT_i, intT_i, Int.reduceLT, Int.reduceLE, decide_true, decide_false, decide_eq_true_eq, Bool.and_eq_true, Nat.reduceLeDiff, Nat.zero_le, Nat.le_refl, wp_mLc2, Bool.or_true, Bool.true_or, Bool.false_or, Bool.or_false, Option.bind_some, Option.map_some, f_due hl z hr]
          · rw [filter_yes]
            simp only [wp_ok, wp_ex, wp_bad, wp_bind, wp_ofO, wp_noX, ws_nx, ws_rt, ws_bk, ws_ct, ws_ex, ws_bad, ws_st, ws_seq, ws_ite, wp_ite, wp_mF, mV, mC, mOp, mUn, mNil, mCons, mCa, mB, mAnd, mOr, mNot, mAndV, mOrV, mNotV, mIf, mTru, mChain, sNext, sBreak, sCont, sAsg, sDrop, sRet, sRetN, sIf, sBad, sFor, iSeq, iRng, iSeqK, iItm, iZp, mkTup, mkLst, mIxO, mUnO, sOwn, mDict, sFrz, sApp, sPut, sPutL, mDictOf, mDisp1, mSrc, sUnp, mSli, mSo, mNo, mYes, wp_mLc, mFQ, List.map_cons, List.map_nil, List.nil_append, List.cons_append, List.length_cons, List.length_nil, Nat.reduceAdd, Nat.reduceSub, List.replicate, List.getElem?_cons_succ, List.getElem?_cons_zero, List.set_cons_zero, List.set_cons_succ, List.length_set, Option.some.injEq, exists_eq_left', exists_eq_left, clearE, wipeE, backE, List.all_cons, List.all_nil, List.foldl_cons, List.foldl_nil, isOwn, Bool.not_false, Bool.not_true, Bool.and_true, Bool.and_self, Bool.true_and, true_and, and_true, List.getD_eq_getElem?_getD, Option.getD_some, asB, gN, gN2, if_true, if_false, reduceIte, Bool.false_eq_true, not_true_eq_false, not_false_eq_true, forall_const, false_implies, implies_true, true_implies, eq_self, addT_i, subT_i, ltT_i, leT_i, gtT_i, geT_i, modT_i, fdivT_i, powT_i, mulT_i, min2T_i, max2T_i, negT_i, intT_i, Int.reduceLT, Int.reduceLE, decide_true, decide_false, decide_eq_true_eq, Bool.and_eq_true, Nat.reduceLeDiff, Nat.zero_le, Nat.le_refl, wp_mLc2, Bool.or_true, Bool.true_or, Bool.false_or, Bool.or_false, Option.bind_some, Option.map_some, keysD_l, List.length_map]
            refine ⟨by omega, ?_⟩
            refine wp_lc (xs := Kn ss gs) tupZ (fun _ => true) (fun r => T.int (due ss gs r)) ?_ ?_
            · intro r hr
              refine ⟨_, rfl, ?_⟩
              simp only [wp_ok, wp_ex, wp_bad, wp_bind, wp_ofO, wp_noX, ws_nx, ws_rt, ws_bk, ws_ct, ws_ex, ws_bad, ws_st, ws_seq, ws_ite, wp_ite, wp_mF, mV, mC, mOp, mUn, mNil, mCons, mCa, mB, mAnd, mOr, mNot, mAndV, mOrV, mNotV, mIf, mTru, mChain, sNext, sBreak, sCont, sAsg, sDrop, sRet, sRetN, sIf, sBad, sFor, iSeq, iRng, iSeqK, iItm, iZp, mkTup, mkLst, mIxO, mUnO, sOwn, mDict, sFrz, sApp, sPut, sPutL, mDictOf, mDisp1, mSrc, sUnp, mSli, mSo, mNo, mYes, wp_mLc, mFQ, List.map_cons, List.map_nil, List.nil_append, List.cons_append, List.length_cons, List.length_nil, Nat.reduceAdd, Nat.reduceSub, List.replicate, List.getElem?_cons_succ, List.getElem?_cons_zero, List.set_cons_zero, List.set_cons_succ, List.length_set, Option.some.injEq, exists_eq_left', exists_eq_left, clearE, wipeE, backE, List.all_cons, List.all_nil, List.foldl_cons, List.foldl_nil, isOwn, Bool.not_false, Bool.not_true, Bool.and_true, Bool.and_self, Bool.true_and, true_and, and_true, List.getD_eq_getElem?_getD, Option.getD_some, asB, gN, gN2, if_true, if_false, reduceIte, Bool.false_eq_true, not_true_eq_false, not_false_eq_true, forall_const, false_implies, implies_true, true_implies, eq_self, addT_i, subT_i, ltT_i, leT_i, gtT_i, geT_i, modT_i, fdivT_i, powT_i, mulT_i, min2T_i, max2T_i, negT_i, intT_i, Int.reduceLT, Int.reduceLE, decide_true, decide_false, decide_eq_true_eq, Bool.and_eq_true, Nat.reduceLeDiff, Nat.zero_le, Nat.le_refl, wp_mLc2, Bool.or_true, Bool.true_or, Bool.false_or, Bool.or_false, Option.bind_some, Option.map_some, q4, f_due_of ht z hr]
            · rw [filter_yes]
              simp only [wp_ok, wp_ex, wp_bad, wp_bind, wp_ofO, wp_noX, ws_nx, ws_rt, ws_bk, ws_ct, ws_ex, ws_bad, ws_st, ws_seq, ws_ite, wp_ite, wp_mF, mV, mC, mOp, mUn, mNil, mCons, mCa, mB, mAnd, mOr, mNot, mAndV, mOrV, mNotV, mIf, mTru, mChain, sNext, sBreak, sCont, sAsg, sDrop, sRet, sRetN, sIf, sBad, sFor, iSeq, iRng, iSeqK, iItm, iZp, mkTup, mkLst, mIxO, mUnO, sOwn, mDict, sFrz, sApp, sPut, sPutL, mDictOf, mDisp1, mSrc, sUnp, mSli, mSo, mNo, mYes, wp_mLc, mFQ, List.map_cons, List.map_nil, List.nil_append, List.cons_append, List.length_cons, List.length_nil, Nat.reduceAdd, Nat.reduceSub, List.replicate, List.getElem?_cons_succ, List.getElem?_cons_zero, List.set_cons_zero, List.set_cons_succ, List.length_set, Option.some.injEq, exists_eq_left', exists_eq_left, clearE, wipeE, backE, List.all_cons, List.all_nil, List.foldl_cons, List.foldl_nil, isOwn, Bool.not_false, Bool.not_true, Bool.and_true, Bool.and_self, Bool.true_and, true_and, and_true, List.getD_eq_getElem?_getD, Option.getD_some, asB, gN, gN2, if_true, if_false, reduceIte, Bool.false_eq_true, not_true_eq_false, not_false_eq_true, forall_const, false_implies, implies_true, true_implies, eq_self, addT_i, subT_i, ltT_i, leT_i, gtT_i, geT_i, modT_i, fdivT_i, powT_i, mulT_i, min2T_i, max2T_i, negT_i, intT_i, Int.reduceLT, Int.reduceLE, decide_true, decide_false, decide_eq_true_eq, Bool.and_eq_true, Nat.reduceLeDiff, Nat.zero_le, Nat.le_refl, wp_mLc2, Bool.or_true, Bool.true_or, Bool.false_or, Bool.or_false, Option.bind_some, Option.map_some, keysD_l, List.length_map, neT_self (sh_intl (due ss gs) (Kn ss gs)) (by decide), keysD_d]
              refine ⟨by omega, ?_⟩
              refine wp_lc (xs := gKeys gs) T.int (fun _ => true) (fun k => T.int ((gLook gs k).getD 0 * chF ss.sum k)) ?_ ?_
              · intro x hx
                refine ⟨_, rfl, ?_⟩
                obtain ⟨p, hp, rfl⟩ := List.mem_map.mp hx
                have hk := z.g.k p hp
                have hv := z.g.v p hp
                simp only [wp_ok, wp_ex, wp_bad, wp_bind, wp_ofO, wp_noX, ws_nx, ws_rt, ws_bk, ws_ct, ws_ex, ws_bad, ws_st, ws_seq, ws_ite, wp_ite, wp_mF, mV, mC, mOp, mUn, mNil, mCons, mCa, mB, mAnd, mOr, mNot, mAndV, mOrV, mNotV, mIf, mTru, mChain, sNext, sBreak, sCont, sAsg, sDrop, sRet, sRetN, sIf, sBad, sFor, iSeq, iRng, iSeqK, iItm, iZp, mkTup, mkLst, mIxO, mUnO, sOwn, mDict, sFrz, sApp, sPut, sPutL, mDictOf, mDisp1, mSrc, sUnp, mSli, mSo, mNo, mYes, wp_mLc, mFQ, List.map_cons, List.map_nil, List.nil_append, List.cons_append, List.length_cons, List.length_nil, Nat.reduceAdd, Nat.reduceSub, List.replicate, List.getElem?_cons_succ, List.getElem?_cons_zero, List.set_cons_zero, List.set_cons_succ, List.length_set, Option.some.injEq, exists_eq_left', exists_eq_left, clearE, wipeE, backE, List.all_cons, List.all_nil, List.foldl_cons, List.foldl_nil, isOwn, Bool.not_false, Bool.not_true, Bool.and_true, Bool.and_self, Bool.true_and, true_and, and_true, List.getD_eq_getElem?_getD, Option.getD_some, asB, gN, gN2, if_true, if_false, reduceIte, Bool.false_eq_true, not_true_eq_false, not_false_eq_true, forall_const, false_implies, implies_true, true_implies, eq_self, addT_i, subT_i, ltT_i, leT_i, gtT_i, geT_i, modT_i, fdivT_i, powT_i, mulT_i, min2T_i, max2T_i, negT_i, intT_i, Int.reduceLT, Int.reduceLE, decide_true, decide_false, decide_eq_true_eq, Bool.and_eq_true, Nat.reduceLeDiff, Nat.zero_le, Nat.le_refl, wp_mLc2, Bool.or_true, Bool.true_or, Bool.false_or, Bool.or_false, Option.bind_some, Option.map_some, itT_d, gLook_mem z.g.nd hp, sumT_seq hl, choose_eq, f_choices (show 0 ≤ ss.sum by omega) (show ss.sum ≤ 100000 by omega) (show p.1 ≤ 100000 by omega) (show 0 ≤ p.1 by omega), show bigB p.2 = true from bigB_of (by omega) (by omega)]
              · have e9 : sumT (.list ((gKeys gs).map fun k => T.int ((gLook gs k).getD 0 * chF ss.sum k))) = some (.int (tot ss.sum gs)) := by
                  show (intsT _).map _ = _
                  rw [intsT_fun]
                  rfl
                have e10 : sumT (.list ((Kn ss gs).map fun r => T.int (due ss gs r))) = some (.int (tot ss.sum gs)) := by
                  show (intsT _).map _ = _
                  rw [intsT_fun, Option.map_some, dues_sum z]
                have gl := z.g.len
                have gl2 : (gKeys gs).length ≤ 100000 := by rw [gKeys, List.length_map]; omega
                rw [filter_yes]
                simp only [wp_ok, wp_ex, wp_bad, wp_bind, wp_ofO, wp_noX, ws_nx, ws_rt, ws_bk, ws_ct, ws_ex, ws_bad, ws_st, ws_seq, ws_ite, wp_ite, wp_mF, mV, mC, mOp, mUn, mNil, mCons, mCa, mB, mAnd, mOr, mNot, mAndV, mOrV, mNotV, mIf, mTru, mChain, sNext, sBreak, sCont, sAsg, sDrop, sRet, sRetN, sIf, sBad, sFor, iSeq, iRng, iSeqK, iItm, iZp, mkTup, mkLst, mIxO, mUnO, sOwn, mDict, sFrz, sApp, sPut, sPutL, mDictOf, mDisp1, mSrc, sUnp, mSli, mSo, mNo, mYes, wp_mLc, mFQ, List.map_cons, List.map_nil, List.nil_append, List.cons_append, List.length_cons, List.length_nil, Nat.reduceAdd, Nat.reduceSub, List.replicate, List.getElem?_cons_succ, List.getElem?_cons_zero, List.set_cons_zero, List.set_cons_succ, List.length_set, Option.some.injEq, exists_eq_left', exists_eq_left, clearE, wipeE, backE, List.all_cons, List.all_nil, List.foldl_cons, List.foldl_nil, isOwn, Bool.not_false, Bool.not_true, Bool.and_true, Bool.and_self, Bool.true_and, true_and, and_true, List.getD_eq_getElem?_getD, Option.getD_some, asB, gN, gN2, if_true, if_false, reduceIte, Bool.false_eq_true, not_true_eq_false, not_false_eq_true, forall_const, false_implies, implies_true, true_implies, eq_self, addT_i, subT_i, ltT_i, leT_i, gtT_i, geT_i, modT_i, fdivT_i, powT_i, mulT_i, min2T_i, max2T_i, negT_i, intT_i, Int.reduceLT, Int.reduceLE, decide_true, decide_false, decide_eq_true_eq, Bool.and_eq_true, Nat.reduceLeDiff, Nat.zero_le, Nat.le_refl, wp_mLc2, Bool.or_true, Bool.true_or, Bool.false_or, Bool.or_false, Option.bind_some, Option.map_some, e9, e10, q6, neT_i, beq_self_eq_true, List.length_map, gl2, rng1_z (n := 6) (by decide) (by decide)]
                refine ws_for (xs := zr 6) T.int (fun i e => ∃ t s2 s3 s4 s5 s7 s13 s15 s16 s17, Src (30 + 3 * i) t ∧ e = [.val (.scr ns), .own t, s2, s3, s4, s5, .un, s7, .val (lstZ ss), .val (dctZ gs), .val (.list ((Kn ss gs).map tupZ)), .un, .val (.list ((Kn ss gs).map fun r => T.int (due ss gs r))), s13, .un, s15, s16, s17]) ⟨_, _, _, _, _, _, _, _, _, _, s2, rfl⟩ ?_ ?_
                · rintro j hj e ⟨t3, s2, s3, s4, s5, s7, s13, s15, s16, s17, hs, rfl⟩
                  refine ⟨_, rfl, ?_⟩
                  rw [zr_len] at hj
                  obtain ⟨t4, v, e11, ho, s4'⟩ := odd_ok (n := 30 + 3 * j) draw01 hs (by omega) hl (show ss.length ≤ 1000 by have := z.s.len; omega) (Kn_ne z) (by omega) (fun r hr => by
                    have := (mem_tup.mp (mem_Kn.mp hr).1).1
                    have := z.s.len
                    have := z.s.len0
                    omega)
                  obtain ⟨n, hn, hsh⟩ := ho.sh
                  have q8 := f_is_right (ss := ss) (gs := gs) ho.dec hsh hn ho.len
                  have q9 := f_is_kind hl z ho.dec
                  have q10 : isT "bool" (.bool (kindOf ss gs v)) = some (.bool true) := rfl
                  have q11 : TD.neT (.bool (kindOf ss gs v)) (.bool (kindOf ss gs v)) = some (.bool false) := neT_self (n := 0) Sh.bool (by decide)
                  simp only [wp_ok, wp_ex, wp_bad, wp_bind, wp_ofO, wp_noX, ws_nx, ws_rt, ws_bk, ws_ct, ws_ex, ws_bad, ws_st, ws_seq, ws_ite, wp_ite, wp_mF, mV, mC, mOp, mUn, mNil, mCons, mCa, mB, mAnd, mOr, mNot, mAndV, mOrV, mNotV, mIf, mTru, mChain, sNext, sBreak, sCont, sAsg, sDrop, sRet, sRetN, sIf, sBad, sFor, iSeq, iRng, iSeqK, iItm, iZp, mkTup, mkLst, mIxO, mUnO, sOwn, mDict, sFrz, sApp, sPut, sPutL, mDictOf, mDisp1, mSrc, sUnp, mSli, mSo, mNo, mYes, wp_mLc, mFQ, List.map_cons, List.map_nil, List.nil_append, List.cons_append, List.length_cons, List.length_nil, Nat.reduceAdd, Nat.reduceSub, List.replicate, List.getElem?_cons_succ, List.getElem?_cons_zero, List.set_cons_zero, List.set_cons_succ, List.length_set, Option.some.injEq, exists_eq_left', exists_eq_left, clearE, wipeE, backE, List.all_cons, List.all_nil, List.foldl_cons, List.foldl_nil, isOwn, Bool.not_false, Bool.not_true, Bool.and_true, Bool.and_self, Bool.true_and, true_and, and_true, List.getD_eq_getElem?_getD, Option.getD_some, asB, gN, gN2, if_true, if_false, reduceIte, Bool.false_eq_true, not_true_eq_false, not_false_eq_true, forall_const, false_implies, implies_true, true_implies, eq_self, addT_i, subT_i, ltT_i, leT_i, gtT_i, geT_i, modT_i, fdivT_i, powT_i, mulT_i, min2T_i, max2T_i, negT_i, intT_i, Int.reduceLT, Int.reduceLE, decide_true, decide_false, decide_eq_true_eq, Bool.and_eq_true, Nat.reduceLeDiff, Nat.zero_le, Nat.le_refl, wp_mLc2, Bool.or_true, Bool.true_or, Bool.false_or, Bool.or_false, Option.bind_some, Option.map_some, e11, q8, q9, q10, q11, tru, F__law_odd]
                  refine ⟨fun hk => ?_, fun hk => ⟨_, _, _, _, _, _, _, _, _, _, s4', rfl⟩⟩
                  have hk : kindOf ss gs v = false := by simpa using hk
                  have q12 : TD.neT (.tuple [.str "kind", .bool true]) (.tuple [.str "kind", .bool true]) = some (.bool false) := neT_self (n := 1) (Sh.tuple fun x hx => by
                    rcases List.mem_cons.mp hx with rfl | hx
                    · exact sh_kind
                    · rw [List.mem_singleton.mp hx]; exact Sh.bool) (by decide)
                  simp only [wp_ok, wp_ex, wp_bad, wp_bind, wp_ofO, wp_noX, ws_nx, ws_rt, ws_bk, ws_ct, ws_ex, ws_bad, ws_st, ws_seq, ws_ite, wp_ite, wp_mF, mV, mC, mOp, mUn, mNil, mCons, mCa, mB, mAnd, mOr, mNot, mAndV, mOrV, mNotV, mIf, mTru, mChain, sNext, sBreak, sCont, sAsg, sDrop, sRet, sRetN, sIf, sBad, sFor, iSeq, iRng, iSeqK, iItm, iZp, mkTup, mkLst, mIxO, mUnO, sOwn, mDict, sFrz, sApp, sPut, sPutL, mDictOf, mDisp1, mSrc, sUnp, mSli, mSo, mNo, mYes, wp_mLc, mFQ, List.map_cons, List.map_nil, List.nil_append, List.cons_append, List.length_cons, List.length_nil, Nat.reduceAdd, Nat.reduceSub, List.replicate, List.getElem?_cons_succ, List.getElem?_cons_zero, List.set_cons_zero, List.set_cons_succ, List.length_set, Option.some.injEq, exists_eq_left', exists_eq_left, clearE, wipeE, backE, List.all_cons, List.all_nil, List.foldl_cons, List.foldl_nil, isOwn, Bool.not_false, Bool.not_true, Bool.and_true, Bool.and_self, Bool.true_and, true_and, and_true, List.getD_eq_getElem?_getD, Option.getD_some, asB, gN, gN2, if_true, if_false, reduceIte, Bool.false_eq_true, not_true_eq_false, not_false_eq_true, forall_const, false_implies, implies_true, true_implies, eq_self, addT_i, subT_i, ltT_i, leT_i, gtT_i, geT_i, modT_i, fdivT_i, powT_i, mulT_i, min2T_i, max2T_i, negT_i, intT_i, Int.reduceLT, Int.reduceLE, decide_true, decide_false, decide_eq_true_eq, Bool.and_eq_true, Nat.reduceLeDiff, Nat.zero_le, Nat.le_refl, wp_mLc2, Bool.or_true, Bool.true_or, Bool.false_or, Bool.or_false, Option.bind_some, Option.map_some, f_due_told hl z ho.dec hsh hn hk, q12]
                  exact ⟨_, _, _, _, _, _, _, _, _, _, s4', rfl⟩
                · rintro e ⟨t3, s2, s3, s4, s5, s7, s13, s15, s16, s17, hs, rfl⟩
                  exact ⟨_, _, _, _, _, _, _, _, _, _, _, _, _, _, rfl⟩
      · rintro e ⟨s1, s2, s3, s4, s5, s7, s8, s9, s10, s12, s13, s15, s16, s17, rfl⟩
        simp only [wp_ok, wp_ex, wp_bad, wp_bind, wp_ofO, wp_noX, ws_nx, ws_rt, ws_bk, ws_ct, ws_ex, ws_bad, ws_st, ws_seq, ws_ite, wp_ite, wp_mF, mV, mC, mOp, mUn, mNil, mCons, mCa, mB, mAnd, mOr, mNot, mAndV, mOrV, mNotV, mIf, mTru, mChain, sNext, sBreak, sCont, sAsg, sDrop, sRet, sRetN, sIf, sBad, sFor, iSeq, iRng, iSeqK, iItm, iZp, mkTup, mkLst, mIxO, mUnO, sOwn, mDict, sFrz, sApp, sPut, sPutL, mDictOf, mDisp1, mSrc, sUnp, mSli, mSo, mNo, mYes, wp_mLc, mFQ, List.map_cons, List.map_nil, List.nil_append, List.cons_append, List.length_cons, List.length_nil, Nat.reduceAdd, Nat.reduceSub, List.replicate, List.getElem?_cons_succ, List.getElem?_cons_zero, List.set_cons_zero, List.set_cons_succ, List.length_set, Option.some.injEq, exists_eq_left', exists_eq_left, clearE, wipeE, backE, List.all_cons, List.all_nil, List.foldl_cons, List.foldl_nil, isOwn, Bool.not_false, Bool.not_true, Bool.and_true, Bool.and_self, Bool.true_and, true_and, and_true, List.getD_eq_getElem?_getD, Option.getD_some, asB, gN, gN2, if_true, if_false, reduceIte, Bool.false_eq_true, not_true_eq_false, not_false_eq_true, forall_const, false_implies, implies_true, true_implies, eq_self, addT_i, subT_i, ltT_i, leT_i, gtT_i, geT_i, modT_i, fdivT_i, powT_i, mulT_i, min2T_i, max2T_i, negT_i, intT_i, Int.reduceLT, Int.reduceLE, decide_true, decide_false, decide_eq_true_eq, Bool.and_eq_true, Nat.reduceLeDiff, Nat.zero_le, Nat.le_refl, wp_mLc2, Bool.or_true, Bool.true_or, Bool.false_or, Bool.or_false, Option.bind_some, Option.map_some]
end K01

end
section
open PySem PySem.W PySem.Calls PyProof.Rows
set_option maxRecDepth 100000 in
set_option maxHeartbeats 0 in
theorem PySem.Challenge.cw_allteams_k01_choices_kinds_and_dues_holds : PySem.Challenge.rw_allteams_k01_choices_kinds_and_dues.Holds := by
  w_on; o_law
  refine HandSHeadRun.head_any (r := OpenLaw.row PySem.Challenge.rw_allteams_k01_choices_kinds_and_dues) (q := view (OpenLaw.row PySem.Challenge.rw_allteams_k01_choices_kinds_and_dues).prog [41]) (H := K01.hk) (ob := K01.ob) (M := 20000) (loose := K01.loose) (d := HandSHeadRun.topDef (OpenLaw.row PySem.Challenge.rw_allteams_k01_choices_kinds_and_dues).prog 41) (kwd := []) K01.ob_eq
    (by kernel_rfl) (fun s => by kernel_rfl) K01.run (by kernel_rfl) (by kernel_rfl) (by kernel_rfl) (by rfl) (by first | assumption | decide +kernel) (by decide +kernel) ⟨rfl, rfl, rfl, rfl, rfl, by decide +kernel⟩ ?hw ?hc
  case hw => w_witness2
  case hc =>
    refine LamX.walk_ofTsE (l := PySem.Challenge.rw_allteams_k01_choices_kinds_and_dues) (n := 63) (k := 8) (x := "_law_script") (CX := fun w => L2.CX (PySem.Challenge.rw_allteams_k01_choices_kinds_and_dues).prog w) rfl (by decide) (by kernel_rfl) ⟨rfl, by decide, by decide⟩ ?F (fun w H s e s' x => by obtain ⟨_, _, _, _, _, _, _, _, _, _, _, _, _, _, _, _, z⟩ := x)
    intro w mg fa h Y G hmg0
    obtain ⟨K, KX, c⟩ := Y
    have hmg : mg ("law" : PySem.Str) = some (.ref fa) := by
      have e : (HandSHeadRun.topDef (OpenLaw.row PySem.Challenge.rw_allteams_k01_choices_kinds_and_dues).prog 41).name = ("law" : PySem.Str) := by kernel_rfl
      rw [← e]
      exact hmg0
    exact ⟨K, KX, K01.facts KX G hmg c K01.plain⟩

end
